import PyProof.Rows.All
import Wide.All
import OpenK.AllK
import Wide.FinOn
import HandS.Strs
import HandS.Zip
import HandS.Conv
import HandS.More
import HandS.Sort
import HandS.ForMost
import HandS.Walk
import HandS.Star
import HandS.IsInst
import HandS.FStr
import HandS.Wide
import HandS.StrMore
import HandS.Deep
import HandS.Style
import HandS.TupAny
import HandS.Flow
import HandS.ForExc
import HandS.Codes
import HandS.CallSlots
import HandS.ReplaceLit
import HandS.DictComp
import PySem.Challenge.RW_worldtale_k13_lines_parted
set_option Elab.async false
set_option linter.all false
set_option maxRecDepth 100000
set_option maxHeartbeats 8000000
/-! Z0: set(texts) of any number, len of it (own work: the library's goes to one text) -/
namespace Z
open PySem PySem.Spec PyProof.Rows
/-- each text once -/
def dd1 (acc : List Str) (x : Str) : List Str := if acc.any (· == x) = true then acc else acc ++ [x]
def ded (l : List Str) : List Str := l.foldl dd1 []
theorem ded_snoc (l : List Str) (x : Str) : ded (l ++ [x]) = dd1 (ded l) x := by unfold ded; rw [List.foldl_append]; rfl
theorem dd1_any (acc : List Str) (x k : Str) : (dd1 acc x).any (· == k) = (acc.any (· == k) || decide (k = x)) := by
  unfold dd1
  by_cases c : acc.any (· == x) = true
  · rw [if_pos c]
    by_cases e : k = x
    · rw [e, c]; rfl
    · simp [e]
  · rw [if_neg c, List.any_append]
    by_cases e : k = x
    · simp [e]
    · have : (x == k) = false := beq_eq_false_iff_ne.mpr fun z => e z.symm
      simp [e, this]
theorem dd1_len (acc : List Str) (x : Str) : (dd1 acc x).length = if acc.any (· == x) then acc.length else acc.length + 1 := by
  unfold dd1
  split <;> simp
theorem ded_le : ∀ l : List Str, (ded l).length ≤ l.length := fun l => by
  have key : ∀ (l acc : List Str), (l.foldl dd1 acc).length ≤ acc.length + l.length := fun l => by
    induction l with
    | nil => exact fun acc => Nat.le_refl _
    | cons x l ih =>
      intro acc
      refine Nat.le_trans (ih (dd1 acc x)) ?_
      rw [dd1_len, List.length_cons]
      split <;> omega
  have := key l []
  simpa [ded] using this
abbrev Has (prog : Program) (w : World) (h : Heap) (a : Addr) (l : List Str) : Prop := h.SetOf (PySem.strKind prog w) a (fun k => (ded l).any (· == k)) (ded l).length
abbrev fresh (led : Bool) : Obj := { cls := .type "set", dict := none, data := .set #[] 0 (.fresh 0 0 led) }
section
variable {prog : Program} {w : World} {A : Around} {R : Result → Shared → Prop} {I : Addr} {fp wr : List Addr} {G : Array GenState → Array GenState → Prop} {n : Nat} {P : Nat → Value → Prop} {St : Nat → Shared → Prop}
theorem has_moved {h h' : Heap} {a : Addr} {l : List Str} (H : Has prog w h a l) (k : ∀ o, h.get? a = some o → h'.get? a = some o) : Has prog w h' a l := by
  obtain ⟨o, es, ep, t, ho, r⟩ := H
  exact ⟨o, es, ep, t, k o ho, r⟩
theorem adds (W : WalksS prog w A.in1 I fp wr G n P St) (a : Addr) (out : a ∉ fp) (xs : List Str) (sz : xs.length = n) (small : n + 1 < scanBound)
    (val : ∀ i v, P i v → ∃ t x, xs[i]? = some x ∧ v = .str x t) : ∀ (k i : Nat) (s : Shared), i + k = n → St i s → Has prog w s.heap a (xs.take i) →
    (∀ s', Moved (a :: wr) G s s' → Has prog w s'.heap a xs → R (.ok (.ret .none)) s') → codeAny (model prog w) A (.builtin "set.update.loop" ⟨[.ref a, .ref I], []⟩) R s := by
  have nw : a ∉ wr := fun z => out (W.sub _ z)
  have more : ∀ b ∈ wr, b ∈ a :: wr := fun b z => List.mem_cons_of_mem _ z
  intro k
  induction k with
  | zero =>
    rintro i s rfl st H fin
    refine codeAny_builtin F.entry_set_update_loop ?_
    rw [Around.under_plainId F.plain_set_update_loop _]
    refine (wpAny_bind (W.done s _ _ st fun s' m => ?_) : wpAny _ A.in1 (pyNext (.ref I) >>= _) _ _ s)
    have H' := has_moved H fun o e => m.heap a _ nw e
    have el : xs.take (i + 0) = xs := by rw [Nat.add_zero, List.take_of_length_le (by omega)]
    show wpAny _ A.in1 (ret Value.none) _ _ s'
    exact wpAny_pure (fin s' (m.mono more) (el ▸ H'))
  | succ k ih =>
    intro i s en st H fin
    refine codeAny_builtin F.entry_set_update_loop ?_
    rw [Around.under_plainId F.plain_set_update_loop _]
    refine (wpAny_bind (W.item i s _ _ (by omega) st fun v s' hv st' m => ?_) : wpAny _ A.in1 (pyNext (.ref I) >>= _) _ _ s)
    obtain ⟨t, x, ex, rfl⟩ := val i v hv
    have H' := has_moved H fun o e => m.heap a _ nw e
    have room : (ded (xs.take i)).length + 1 < scanBound := by
      have := ded_le (xs.take i)
      rw [List.length_take] at this
      omega
    refine (wpAny_bind (wpAny_holding ?_) : wpAny _ A.in1 (holding [Value.str x t] (setAdd a (.str x t)) >>= _) _ _ s')
    unfold setAdd
    refine wpAny_holding (wpAny_bind ((PySem.strKind prog w).pyHash (k := x) (strKind_is _ _ _ _) ?_))
    refine wpAny_setAddHashed_of (knd := PySem.strKind prog w) (s := { s' with toks := s'.toks + 1 }) (strKind_is _ _ _ _) rfl H' room fun h' sb H2 => ?_
    have H3 : Has prog w h' a (xs.take (i + 1)) := by
      have e : xs.take (i + 1) = xs.take i ++ [x] := by rw [List.take_add_one, ex]; rfl
      rw [e]
      exact SetOf_congr H2 (fun k' => by rw [ded_snoc, dd1_any]) (by rw [ded_snoc, dd1_len])
    refine wpAny_pure ⟨plainId_quiet F.plain_set_update_loop _, ih (i + 1) _ (by omega) (W.frame _ s' _ _ st' (Nat.le_succ _) fun b mb o e => ?_) H3 fun s2 m2 H4 => ?_⟩
    · rw [sb.2 b fun z => out (z ▸ mb)]; exact e
    · refine fin s2 (Moved.trans W.gtrans ((m.mono more).then_heap (Nat.le_succ _) fun b o mb e => ?_) m2) H4
      rw [sb.2 b fun z => mb (z ▸ List.mem_cons_self)]; exact e
end
theorem str_at : ∀ {us : List Value} {xs : List Str}, StrsAre us xs → ∀ (i : Nat) (v : Value), us[i]? = some v → ∃ t x, xs[i]? = some x ∧ v = .str x t
  | _, _, .nil, i, v, h => by simp at h
  | _, _, .cons y t r, 0, v, h => ⟨t, y, rfl, by simpa using h.symm⟩
  | _, _, .cons y t r, i + 1, v, h => str_at r i v (by simpa using h)
section
variable {prog : Program} {w : World} {A : Around} {E : Value → Shared → Prop} {s : Shared}
/-- a thing of type T that holds these items -/
abbrev Is (T : String) (h : Heap) (l : Addr) (items : Array Value) : Prop := ∃ o, h.get? l = some o ∧ o.cls = .type T ∧ ∃ n, o.data = .seq items n
/-- how it is walked -/
structure Given (prog : Program) (w : World) (T it : String) : Prop where
  s1 : isSubtype (.type T) (.type "set") = pure false
  s2 : isSubtype (.type T) (.type "frozenset") = pure false
  s3 : (Value.type T == Value.type "dict") = false
  iter : ∀ {A : Around} {E : Value → Shared → Prop} {s : Shared} {l : Addr} {items : Array Value} {Q : Value → Shared → Prop}, Is T s.heap l items →
    Q (.ref s.heap.objs.size) { s with heap := s.heap.push { cls := .type it, data := .fields #[.ref l, .int 0 0] } } → wpAny (model prog w) A (pyIter (.ref l)) Q E s
  walk : ∀ (A : Around), A.handled = none → ∀ (I l : Addr), l ≠ I → ∀ items : Array Value, ∃ St : Nat → Heap → Prop, Walks prog w A I [I, l] [I] items.size (fun i v => items[i]? = some v) St ∧
    ∀ h : Heap, h.get? I = some { cls := .type it, data := .fields #[.ref l, .int 0 0] } → Is T h l items → St 0 h
theorem givenL : Given prog w "list" "list_iterator" where
  s1 := F.sub_list_set
  s2 := F.sub_list_frozenset
  s3 := by decide
  iter := fun h q => wpAny_pyIter_list h q
  walk := fun A hh I l ne items => ⟨_, Walks.list hh I l ne items, fun h e i => ⟨⟨_, e, rfl, rfl⟩, i⟩⟩
theorem givenT : Given prog w "tuple" "tuple_iterator" where
  s1 := F.sub_tuple_set
  s2 := F.sub_tuple_frozenset
  s3 := by decide
  iter := fun h q => wpAny_pyIter_tuple h q
  walk := fun A hh I l ne items => ⟨_, Walks.tuple hh I l ne items, fun h e i => ⟨⟨_, e, rfl, rfl⟩, i⟩⟩
theorem two {a b c : Nat} (h : a < b) (e : c = b + 1) (z : b ∈ [c, a]) : False := by
  simp only [List.mem_cons, List.not_mem_nil, or_false] at z
  omega
theorem two' {a b c : Nat} (h : a < b) (e : c = b + 1) (z : a ∈ [b, c]) : False := by
  simp only [List.mem_cons, List.not_mem_nil, or_false] at z
  omega
/-- set(l) -/
theorem makes {T it : String} (g : Given prog w T it) {l : Addr} {items : Array Value} {xs : List Str} {Q : Value → Shared → Prop} (calm : A.handled = none) (hl : Is T s.heap l items) (hx : StrsAre items.toList xs) (small : xs.length + 1 < scanBound)
    (fin : ∀ (h' : Heap) (tk : Nat), Has prog w h' s.heap.objs.size xs → (∀ b o, s.heap.get? b = some o → h'.get? b = some o) → Q (.ref s.heap.objs.size) { s with heap := h', toks := tk }) : wpAny (model prog w) A (call (.type "set") [.ref l]) Q E s := by
  have isz : items.size = xs.length := by rw [← Array.length_toList]; exact StrsAre.len_eq hx
  have q1 := F.called_set.made; have q2 := F.called_set.sub; have q3 := F.called_set.notType; have q4 := F.called_set.canCreate; have q5 := F.typeCall_set_1 (.ref l)
  obtain ⟨_, _, q0⟩ := F.called_set.mro
  refine wpAny_call (codeAny_of_tree ?_); show wpAny _ _ (callAny (.type "set") _) _ _ _
  refine wpAny_pure ⟨Code.quiet_builtin _ (by decide +kernel), codeAny_builtin F.entry_type_call ?_⟩; rw [Around.under_plain (weight_type_call_type "set" [.ref l] []) rfl]
  repeat (any_goals (first | assumption | wp_step))
  refine codeAny_mono (code_set_new_1 (.ref l) (E := E) (Q₁ := fun u s₁ => ∃ led, u = .ref s.heap.objs.size ∧ s₁ = { s with heap := s.heap.push (fresh led) }) fun led => ⟨led, rfl, rfl⟩) fun r s₁ hr => ?_
  match r, hr with
  | .error _, hr => exact hr
  | .ok (.ret u), hr =>
    obtain ⟨led, rfl, rfl⟩ := hr
    have here : (s.heap.push (fresh led)).get? s.heap.objs.size = some (fresh led) := Heap.get?_push_size _ rfl
    have ty : Shared.TypeIs { s with heap := s.heap.push (fresh led) } (.ref s.heap.objs.size) "set" := ⟨_, here, rfl⟩
    have q6 := F.called_set.init.lookup; have q7 := F.called_set.init.bind (.ref s.heap.objs.size)
    repeat (any_goals (first | assumption | wp_step))
    refine codeAny_mono (codeAny_call_builtin (R := wants (fun r s₂ => r = .none ∧ ∃ h' tk, s₂ = { s with heap := h', toks := tk } ∧ Has prog w h' s.heap.objs.size xs ∧ ∀ b o, s.heap.get? b = some o → h'.get? b = some o) E)
      F.called_set.init.plain F.entry_set_init (check_set_init_1 ty ?_)) fun r2 s2 hr2 => ?_
    · have lt : l < s.heap.objs.size := by obtain ⟨o, ho, _⟩ := hl; exact Heap.lt_size ho
      have hl1 : Is T (s.heap.push (fresh led)) l items := by obtain ⟨o, ho, r⟩ := hl; exact ⟨o, Heap.get?_push_of_some _ ho, r⟩
      obtain ⟨⟨oc, od, dt, sl⟩, ho, e1, nl, e2⟩ := id hl1
      simp only at e1 e2
      subst e1 e2
      have u1 := g.s1; have u2 := g.s2; have u3 := g.s3
      unfold Builtin.«set.__init__» noKeywords Builtin.Frozenset.updateFrom
      generalize hp : pyIter = PI
      wp_walk
      subst hp
      refine g.iter hl1 (wpAny_bind (wpAny_runValue ?_))
      have sz : (s.heap.push (fresh led)).objs.size = s.heap.objs.size + 1 := Heap.size_push ..
      obtain ⟨St, W, W0⟩ := g.walk A.in1.in1.in1 (by simp [calm]) (s.heap.push (fresh led)).objs.size l (fun z => by rw [sz] at z; exact absurd lt (by rw [z]; exact Nat.not_lt.mpr (Nat.le_succ _))) items
      refine adds W.toS s.heap.objs.size (fun z => two lt sz z) xs isz.symm (by omega) (fun i v e => str_at hx i v (by rw [Array.getElem?_toList]; exact e)) items.size 0 _ (by omega) (W0 _ (Heap.get?_push_size _ rfl) ?_) ?_ fun s' m H => ?_
      · obtain ⟨o, ho, r⟩ := hl1; exact ⟨o, Heap.get?_push_of_some _ ho, r⟩
      · exact SetOf_congr ((setObjOf_fresh (knd := PySem.strKind prog w) led).setOf (Heap.get?_push_of_some _ here) (by unfold scanBound; omega)) (fun _ => rfl) rfl
      · obtain ⟨h', g', d', tk, os'⟩ := s'
        obtain ⟨m1, m2, m3, m4, _⟩ := m
        simp only at m1 m2 m3 m4 H
        subst m2 m3 m4
        show wpAny _ _ _ _ _ _
        refine wpAny_pure ?_
        show wpAny _ _ (ret Value.none) _ _ _
        exact wpAny_pure ⟨rfl, h', tk, rfl, H, fun b o e => m1 b o (fun z => two' (Heap.lt_size e) sz z) (Heap.get?_push_of_some _ (Heap.get?_push_of_some _ e))⟩
    · match r2, hr2 with
      | .error _, hr2 => exact hr2
      | .ok (.ret _), hr2 =>
        obtain ⟨rfl, h', tk, rfl, H, kp⟩ := hr2
        repeat (any_goals (first | assumption | wp_step))
        exact fin _ _ H kp
end
end Z
namespace Z
open PySem L2 PyProof.Rows
/-- len(set(xs)) -/
def tLs (K : PySem.W.Frag) (ta : TE) : TE := fun σ H Q => ta σ H fun x H1 => ∃ l, ∃ xs : List Str, x = .ref l ∧ (SqL K H1 l (xs.map V.str) ∨ SqT K H1 l (xs.map V.str)) ∧ xs.length ≤ 1000 ∧ Q (.int ((ded xs).length : Nat)) H1
theorem pe_ls {X : Cx} {a : Expr} {ta : TE} {p p2 q pos : Pos} (hc : X.calm = true) (hg : Gl X "len") (hm : X.mg "len" = none) (hg2 : Gl X "set") (hm2 : X.mg "set" = none) (ha : PE X a ta) (na : starEach [a] X.env = (false, eval a X.env) :: starEach [] X.env) :
    PE X (.Call (.Name "len" p) [.Call (.Name "set" p2) [a] [] q] [] pos) (tLs X.K ta) := by
  refine ⟨fun pins s σ H Q I h => ?_⟩
  refine Call_ (ld_blt I hg hm PySem.boot_len (callWith_builtin1 (args_cons (Call_ (ld_blt I hg2 hm2 boot_set ?_)) rfl) rfl rfl))
  refine callWith_type1 (args_cons (thn (ha.run pins s σ H _ I h) fun v s1 ⟨x, H1, I1, r1, q1⟩ => args_nil ?_) na) na rfl
  obtain ⟨l, xs, rfl, hq, hz, q1⟩ := q1
  cases r1
  have bound : xs.length + 1 < scanBound := Nat.lt_of_le_of_lt (Nat.succ_le_succ hz) (by decide)
  have goal : ∀ (h' : Heap) (tk : Nat), Has X.prog X.w h' s1.heap.objs.size xs → (∀ b o, s1.heap.get? b = some o → h'.get? b = some o) →
      wpAny (model X.prog X.w) X.A (spliced (backTo pos (starEach [] X.env))) (fun vs s₂ => wpAny (model X.prog X.w) X.A (call (.builtin "len") (Value.ref s1.heap.objs.size :: vs)) (EP X pins σ Q) X.xe s₂) X.xe { s1 with heap := h', toks := tk } := fun h' tk H kp => by
    refine args_nil ?_
    obtain ⟨o, es, ep, t, ho, hex, hd, _, _, _, hf, hn⟩ := H
    have I2 : Inv X pins σ H1 { s1 with heap := h', toks := tk } := I1.kept kp
    have := ded_le xs
    exact call_len_set ho hex hd hf (by rw [hn]; omega) ⟨.int ((ded xs).length : Nat), H1, I2.tok _, ⟨_, by rw [hn]⟩, q1⟩
  rcases hq with hq | hq
  · obtain ⟨its, r, pl, _⟩ := I1.list hq
    exact makes givenL (I1.ok.hd hc) pl.isList (by simpa using strsAre_of r) bound goal
  · obtain ⟨its, r, pl, _⟩ := I1.tuple hq
    exact makes givenT (I1.ok.hd hc) pl (by simpa using strsAre_of r) bound goal
end Z

/-! Z0v: tuple(d.values()) -/
namespace L2
open PySem PySem.Spec PyProof.Rows
section
variable {prog : Program} {w : World} {A : Around} {E : Value → Shared → Prop} {s : Shared} {r d : Addr} {n : Nat} {P : Nat → Value → Prop} {OK : Heap → Prop} {T : String}
theorem collect_kdl {Q : List Value → Shared → Prop} (K : PySem.W.KdlSrc prog w T r d n P OK) (hh : A.handled = none) (hok : OK s.heap) (hn : n ≤ sizeLine)
    (hQ : ∀ (h' : Heap) (tk : Nat) (acc : Array Value), (∀ b o, s.heap.get? b = some o → h'.get? b = some o) → ItemsOf P acc n → Q acc.toList { s with heap := h', toks := tk }) :
    wpAny (model prog w) A (collect (.ref r)) Q E s := by
  unfold collect
  refine wpAny_bind (wpAny_runValue (codeAny_builtin F.entry_proto_collect ?_))
  rw [Around.under_plainId F.plain_proto_collect _]
  show wpAny _ A.in1 (newList [] >>= fun l => again (.builtin "list.__iadd__" ⟨[l, .ref r], []⟩)) _ _ s
  refine wpAny_bind (wpAny_newObj_type ?_)
  refine wpAny_pure ⟨plainId_quiet F.plain_list_iadd _, codeAny_builtin F.entry_list_iadd ?_⟩
  rw [Around.under_plainId F.plain_list_iadd _]
  show wpAny _ A.in1 (Builtin.List.listExtendWith (.ref s.heap.objs.size) (.ref r) (.ref s.heap.objs.size)) _ _ _
  have hS : (s.heap.push { cls := .type "list", data := .seq ([] : List Value).toArray }).get? s.heap.objs.size = some { cls := .type "list", data := .seq #[] 0 } := Heap.get?_push_size _ rfl
  have hlt := K.there _ hok
  refine wpAny_mono (PySem.W.kdl_extend (A := A) (R := fun rr s' => rr = .ok (.ret (.ref s.heap.objs.size)) ∧ ∃ (h' : Heap) (tk : Nat) (acc : Array Value) (c' : Nat), s' = { s with heap := h', toks := tk } ∧
      (∀ b o, s.heap.get? b = some o → h'.get? b = some o) ∧ h'.get? s.heap.objs.size = some { cls := .type "list", dict := none, data := .seq acc c', slots := #[] } ∧ ItemsOf P acc n)
    (s := { s with heap := s.heap.push { cls := .type "list", data := .seq ([] : List Value).toArray } }) K hh (K.keep _ _ hok fun b _ o e => Heap.get?_push_of_some _ e) s.heap.objs.size (Nat.ne_of_gt hlt.1) (Nat.ne_of_gt hlt.2) _ 0 hS
    (fun h' tk acc c' hk e hi => ⟨rfl, h', tk, acc, c', rfl, fun b o q => hk b o (Nat.ne_of_lt (Heap.lt_size q)) (Heap.get?_push_of_some _ q), e, hi⟩) hn) (fun fin s' h => ?_) (fun e s' h => ?_)
  · cases fin with
    | done f =>
      obtain ⟨e, h', tk, acc, c', rfl, hk, hS', hi⟩ := h
      cases e
      show wpAny _ A (load s.heap.objs.size >>= _) _ _ _
      exact wpAny_bind (wpAny_load hS' (wpAny_pure (hQ h' tk acc hk hi)))
    | again c' =>
      refine ⟨h.1, codeAny_mono h.2 fun rr s'' hr' => ?_⟩
      obtain ⟨rfl, h', tk, acc, c', rfl, hk, hS', hi⟩ := hr'
      show wpAny _ A (load s.heap.objs.size >>= _) _ _ _
      exact wpAny_bind (wpAny_load hS' (wpAny_pure (hQ h' tk acc hk hi)))
  · exact absurd h.1 (by simp)
theorem code_tuple_new_kdl {Q₁ : Value → Shared → Prop} (K : PySem.W.KdlSrc prog w "dict_values" r d n P OK) (hh : A.handled = none) (hok : OK s.heap) (hn : n ≤ sizeLine)
    (h : ∀ (h' : Heap) (tk : Nat) (acc : Array Value), (∀ b o, s.heap.get? b = some o → h'.get? b = some o) → ItemsOf P acc n →
      Q₁ (.ref h'.objs.size) { s with heap := h'.push { cls := .type "tuple", data := .seq acc }, toks := tk }) :
    codeAny (model prog w) A (.call (.builtin "tuple.__new__") ⟨[.type "tuple", .ref r], []⟩) (wants Q₁ E) s := by
  refine codeAny_of_tree ?_
  show wpAny _ A.in1 (do checkBuiltinCall "tuple.__new__" ⟨[.type "tuple", .ref r], []⟩; again (.builtin "tuple.__new__" ⟨[.type "tuple", .ref r], []⟩)) _ _ s
  refine wpAny_bind (wpAny_of_eq (F.newCall_tuple_1 _) (wpAny_pure ⟨plainId_quiet F.plain_tuple_new _, codeAny_builtin F.entry_tuple_new ?_⟩))
  rw [Around.under_plainId F.plain_tuple_new _]
  have hsub := sub_tuple_self
  have hinit := init_tuple_lookup
  have hmh := madeHere_tuple
  have hTI : s.TypeIs (.ref r) "dict_values" := K.type s hok
  have hh1 : A.in1.handled = none := hh
  wp_walk using wpAny_typeOf hTI, collect_kdl (A := A.in1) K hh1 hok hn
  intro h' tk acc hk hacc
  show wpAny _ _ (Builtin.Tuple.tupleExact acc.toList.toArray >>= fun v => ret v) _ _ _
  unfold Builtin.Tuple.tupleExact
  refine wpAny_bind (wpAny_newObj_type ?_ (by show acc.toList.toArray.size ≤ sizeLine; simp only [Array.toArray_toList]; rw [hacc.1]; exact hn))
  refine wpAny_pure ?_
  have e : acc.toList.toArray = acc := by simp
  rw [e]
  exact h h' tk acc hk hacc
theorem call_tuple_kdl {Q : Value → Shared → Prop} (K : PySem.W.KdlSrc prog w "dict_values" r d n P OK) (hh : A.handled = none) (hok : OK s.heap) (hn : n ≤ sizeLine)
    (hQ : ∀ (h' : Heap) (tk : Nat) (acc : Array Value), (∀ b o, s.heap.get? b = some o → h'.get? b = some o) → ItemsOf P acc n →
      Q (.ref h'.objs.size) { s with heap := h'.push { cls := .type "tuple", data := .seq acc }, toks := tk }) :
    wpAny (model prog w) A (call (.type "tuple") [.ref r]) Q E s := by
  refine callType_codes (Q₁ := fun obj s₁ => s₁.TypeIs obj "tuple" ∧ Q obj s₁) F.called_tuple (F.typeCall_tuple_1 _) F.entry_object_init
    (code_tuple_new_kdl (A := A.in1) K hh hok hn fun h' tk acc hk hacc => ⟨⟨_, Heap.get?_push_size _ rfl, rfl⟩, hQ h' tk acc hk hacc⟩) fun obj s₁ h₁ => ?_
  exact ⟨h₁.1, F.args_object_init_2 obj _, object_init_meets F.called_tuple.init.lookup F.called_tuple.made (by decide) prog w A.in1 _ s₁ ⟨h₁.1, rfl, h₁.2⟩⟩
end
end L2

/-! Z0w: tuple(d.values()) as a rule -/
namespace L2
open PySem PySem.Spec PyProof.Rows
section
variable {X : Cx} {o : Expr} {p pos apos mpos : Pos} {td : TE}
/-- tuple(o.values()) -/
def tTupV (td : TE) : TE := fun σ H Q => td σ H fun x H1 => ∃ a kvs, x = V.ref a ∧ Rd H1 a (.dK kvs) ∧ ∀ q, H1 q = none → Q (.ref q) (upd H1 q (.tup (kvs.map (·.2))))
theorem kv_snd {kvs : List (Key × V)} {vs : List (Key × Value)} (rel : KV kvs vs) : Vals (kvs.map (·.2)) (vs.map (·.2)) := by
  unfold KV at rel
  induction rel with
  | nil => exact .nil
  | cons h t ih => exact .cons h.2 ih
theorem pe_tupV (hc : X.calm = true) (hg : Gl X "tuple") (hm : X.mg "tuple" = none) (hd : PE X o td) (hbase : attributeBase o "values" X.env (eval o X.env) = eval o X.env := by rfl) (hline : (apos.endLine == mpos.line) = true := by rfl)
    (hse : starEach [Expr.Call (.Attribute o "values" apos) [] [] mpos] X.env = [(false, eval (Expr.Call (.Attribute o "values" apos) [] [] mpos) X.env)] := by rfl) :
    PE X (.Call (.Name "tuple" p) [.Call (.Attribute o "values" apos) [] [] mpos] [] pos) (tTupV td) := by
  refine ⟨fun pins s σ H Q I h => ?_⟩
  refine wpAny_Call_Name_kw (ld_blt I hg hm (u := .type "tuple") (by first | rfl | decide +kernel) ?_ (by first | decide +kernel | decide) (by first | decide +kernel | decide))
  refine PyProof.Rows.callWith_type1 (args_cons (wpAny_Call_method0_late hbase hline (thn (hd.run pins s σ H _ I h) fun v s1 ⟨x, H1, I1, r1, a, kvs, ex, ha, q⟩ => ?_)) hse) hse
  subst ex
  obtain rfl : v = Value.ref a := r1
  obtain ⟨hz, hsys, vs, rel, dof⟩ := dk_rd I1.hok ha
  obtain ⟨ep, dat⟩ := dof.dictAt
  have dat' := dat
  obtain ⟨ob, es, ho, ex, hdat, hko, hpr, hnd⟩ := dat'
  refine ⟨"dict", "dict.values", F.plainAttrs_dict, F.slot_dict_values, F.type_dict_values, ⟨ob, ho, ex.1⟩, fun b e => ?_, Calls.callWith_builtin rfl (PySem.evalArgs_none ?_)⟩
  · cases e
    exact ⟨ob, ho, ex.2.1⟩
  refine call_meetsIn F.slot_dict_values ⟨ob, ho, ex.1⟩ F.entry_dict_values (F.args_dict_values_1 _) (meets_dict_values (mixKind X.prog X.w) a hsys) ⟨⟨vs, dof⟩, ?_⟩
  have k1 : ∀ b u, s1.heap.get? b = some u → (s1.heap.push { cls := .type "dict_values", data := .fields #[.ref a] }).get? b = some u := fun b u e => Heap.get?_push_of_some _ e
  have dat1 : (s1.heap.push { cls := .type "dict_values", data := .fields #[.ref a] }).DictAt (mixKind X.prog X.w) a vs ep := dat.keep k1
  refine args_nil ?_
  refine call_tuple_kdl (PySem.W.kdl_values (knd := mixKind X.prog X.w) (kvs := vs) (ep := ep)) (I.ok.hd hc) ⟨⟨_, Heap.get?_push_size _ rfl, rfl, rfl⟩, dat1⟩ (by rw [← KV.length rel]; exact hz) fun h' tk acc hk hacc => ?_
  have ev : acc.toList = vs.map (·.2) := PySem.W.kdl_vals_eq acc.toList (by rw [Array.length_toList]; exact hacc.1) fun j v e => hacc.2 j v (by rw [← Array.getElem?_toList]; exact e)
  have I2 : Inv X pins σ H1 { s1 with heap := h', toks := tk } := I1.kept (t' := tk) fun b u e => hk b u (k1 b u e)
  have I3 : Inv X pins σ (upd H1 h'.objs.size (.tup (kvs.map (·.2)))) { s1 with heap := h'.push { cls := .type "tuple", data := .seq acc }, toks := tk } :=
    I2.laid (t' := tk) (fun b o e => Heap.get?_push_of_some _ e) (Nat.le_refl _) (show ObjOk X.prog X.w _ _ _ (.tup (kvs.map (·.2))) from ⟨by rw [List.length_map]; exact hz, acc.toList, by rw [ev]; exact kv_snd rel, by
      have e : acc.toList.toArray = acc := by simp
      rw [e]; exact IsTup.new _ _⟩)
  exact ⟨.ref h'.objs.size, _, I3, rfl, q _ (I2.hok.fresh (Nat.le_refl _))⟩
end
end L2

/-! Z1: data without addresses, heaps of them, how they stand for the layer's values and heaps -/
namespace Z
open PySem L2

/-- data: lst is a new list that nothing else holds; frl a list that never changes; ref n the n-th object -/
inductive D where
  | non | bl (b : Bool) | int (i : Int) | str (x : Str) | tup (xs : List D) | lst (xs : List D) | frl (xs : List D) | ref (n : Nat) | ty (n : String) | fn (x : Str) | cls (x : Str)

/-- objects -/
inductive O where
  | lst (xs : List D) | dic (kvs : List (Key × D)) | ins (C : Str) (fs : List (Str × D)) | fdc (kvs : List (Key × D))

abbrev Hh := List O
abbrev Sl := List (Option D)

/-- what the relation leans on -/
structure Wd where
  K : PySem.W.Frag
  mg : Str → Option Value
  ρ : Nat → Addr
  n : Nat
  H : Hp

/-- a list that never changes -/
def FzL (K : PySem.W.Frag) (H : Hp) (a : Addr) (xs : List V) : Prop := (∃ ob, H a = some (.frz ob (.lst xs))) ∨
  ∃ (o : Obj) (its : Array Value) (n : Nat), K.lookup a = some o ∧ o.cls = .type "list" ∧ o.dict = none ∧ o.data = .seq its n ∧ its.size ≤ sizeLine ∧ Vals xs its.toList
theorem FzL.sq {K : PySem.W.Frag} {H : Hp} {a : Addr} {xs : List V} (f : FzL K H a xs) : SqL K H a xs := by
  rcases f with f | f
  · exact .inl (.inr f)
  · exact .inr f
mutual
inductive R (W : Wd) : V → D → Prop
  | non : R W .non .non
  | bl (b : Bool) : R W (.bl b) (.bl b)
  | int (i : Int) : R W (.int i) (.int i)
  | str (x : Str) : R W (.str x) (.str x)
  | ty (x : String) : R W (.ty x) (.ty x)
  | ref (i : Nat) (h : i < W.n) : R W (.ref (W.ρ i)) (.ref i)
  | tup {a : Addr} {vs : List V} {xs : List D} (h : SqT W.K W.H a vs) (r : RL W vs xs) : R W (.ref a) (.tup xs)
  | frl {a : Addr} {vs : List V} {xs : List D} (h : FzL W.K W.H a vs) (r : RL W vs xs) : R W (.ref a) (.frl xs)
  | fn {x : Str} {a : Addr} (h : W.mg x = some (.ref a)) : R W (.ref a) (.fn x)
  | cls {x : Str} {a : Addr} (h : W.mg x = some (.ref a)) : R W (.ref a) (.cls x)
inductive RL (W : Wd) : List V → List D → Prop
  | nil : RL W [] []
  | cons {v : V} {d : D} {vs : List V} {ds : List D} (h : R W v d) (t : RL W vs ds) : RL W (v :: vs) (d :: ds)
end

theorem RL.length {W : Wd} : ∀ {vs : List V} {ds : List D}, RL W vs ds → vs.length = ds.length
  | _, _, .nil => rfl
  | _, _, .cons _ t => congrArg (· + 1) (RL.length t)
theorem RL.append {W : Wd} : ∀ {vs ws : List V} {ds es : List D}, RL W vs ds → RL W ws es → RL W (vs ++ ws) (ds ++ es)
  | _, _, _, _, .nil, s => s
  | _, _, _, _, .cons h t, s => .cons h (RL.append t s)
theorem RL.get {W : Wd} : ∀ {vs : List V} {ds : List D} (i : Nat) {d : D}, RL W vs ds → ds[i]? = some d → ∃ v, vs[i]? = some v ∧ R W v d
  | _, _, _, _, .nil, e => by simp at e
  | _, _, 0, _, .cons h _, e => by simp at e; subst e; exact ⟨_, rfl, h⟩
  | _, _, i + 1, d, .cons _ t, e => by
    obtain ⟨u, h1, h2⟩ := RL.get i t (d := d) (by simpa using e)
    exact ⟨u, by simpa using h1, h2⟩
theorem RL.getV {W : Wd} : ∀ {vs : List V} {ds : List D} (i : Nat) {v : V}, RL W vs ds → vs[i]? = some v → ∃ d, ds[i]? = some d ∧ R W v d
  | _, _, _, _, .nil, e => by simp at e
  | _, _, 0, _, .cons h _, e => by simp at e; subst e; exact ⟨_, rfl, h⟩
  | _, _, i + 1, d, .cons _ t, e => by
    obtain ⟨u, h1, h2⟩ := RL.getV i t (v := d) (by simpa using e)
    exact ⟨u, by simpa using h1, h2⟩
theorem RL.take {W : Wd} : ∀ {vs : List V} {ds : List D} (n : Nat), RL W vs ds → RL W (vs.take n) (ds.take n)
  | _, _, 0, _ => .nil
  | _, _, _ + 1, .nil => .nil
  | _, _, n + 1, .cons h t => .cons h (RL.take n t)
theorem RL.drop {W : Wd} : ∀ {vs : List V} {ds : List D} (n : Nat), RL W vs ds → RL W (vs.drop n) (ds.drop n)
  | _, _, 0, r => r
  | _, _, _ + 1, .nil => .nil
  | _, _, n + 1, .cons _ t => RL.drop n t
theorem RL.rev {W : Wd} : ∀ {vs : List V} {ds : List D}, RL W vs ds → RL W vs.reverse ds.reverse
  | _, _, .nil => .nil
  | _, _, .cons h t => by
    rw [List.reverse_cons, List.reverse_cons]
    exact (RL.rev t).append (.cons h .nil)
theorem RL.of_map {W : Wd} {α : Type} {f : α → V} {g : α → D} (h : ∀ a, R W (f a) (g a)) : ∀ l : List α, RL W (l.map f) (l.map g)
  | [] => .nil
  | a :: l => .cons (h a) (RL.of_map h l)
/-- data that are all of one plain kind -/
theorem RL.map_inv {W : Wd} {α : Type} {f : α → V} {g : α → D} (h : ∀ a v, R W v (g a) → v = f a) : ∀ {l : List α} {vs : List V}, RL W vs (l.map g) → vs = l.map f
  | [], _, .nil => rfl
  | a :: l, _, .cons r t => by rw [h a _ r, RL.map_inv h t]; rfl

/-- an object -/
inductive RO (W : Wd) (a : Addr) : O → Prop
  | lst {vs : List V} {xs : List D} (h : W.H a = some (.lst vs)) (r : RL W vs xs) : RO W a (.lst xs)
  | dic {ks : List (Key × V)} {kvs : List (Key × D)} (h : W.H a = some (.dK ks)) (e : ks.map (·.1) = kvs.map (·.1)) (r : RL W (ks.map (·.2)) (kvs.map (·.2))) : RO W a (.dic kvs)
  | ins {C : Str} {Ca dx : Addr} {gs : List (Str × V)} {fs : List (Str × D)} (c : W.mg C = some (.ref Ca)) (h : W.H a = some (.ins Ca dx gs)) (e : gs.map (·.1) = fs.map (·.1)) (r : RL W (gs.map (·.2)) (fs.map (·.2))) : RO W a (.ins C fs)
  | fdc {ks : List (Key × V)} {kvs : List (Key × D)} {ob : Obj} (h : W.H a = some (.frz ob (.dK ks))) (e : ks.map (·.1) = kvs.map (·.1)) (r : RL W (ks.map (·.2)) (kvs.map (·.2))) : RO W a (.fdc kvs)

/-- all objects -/
structure Rep (W : Wd) (h : Hh) : Prop where
  len : W.n = h.length
  inj : ∀ i j, i < W.n → j < W.n → W.ρ i = W.ρ j → i = j
  obj : ∀ i o, h[i]? = some o → RO W (W.ρ i) o

/-- what is no tuple, nor another thing of the layer's own -/
theorem RO.ntup {W : Wd} {a : Addr} {o : O} (r : RO W a o) : ∃ u, W.H a = some u ∧ (∀ xs, u ≠ .tup xs) ∧ ((∀ ob xs, u ≠ .frz ob (.tup xs)) ∧ ∀ ob xs, u ≠ .frz ob (.lst xs)) ∧ ∀ x, u ≠ .own x := by
  cases r with
  | lst h => exact ⟨_, h, (fun _ z => by cases z), ⟨(fun _ _ z => by cases z), (fun _ _ z => by cases z)⟩, fun _ z => by cases z⟩
  | dic h => exact ⟨_, h, (fun _ z => by cases z), ⟨(fun _ _ z => by cases z), (fun _ _ z => by cases z)⟩, fun _ z => by cases z⟩
  | ins _ h => exact ⟨_, h, (fun _ z => by cases z), ⟨(fun _ _ z => by cases z), (fun _ _ z => by cases z)⟩, fun _ z => by cases z⟩
  | fdc h => exact ⟨_, h, (fun _ z => by cases z), ⟨(fun _ _ z => by cases z), (fun _ _ z => by cases z)⟩, fun _ z => by cases z⟩

/-- from one world to a later one -/
structure Go (W W' : Wd) : Prop where
  K : W'.K = W.K
  mg : W'.mg = W.mg
  n : W.n ≤ W'.n
  ag : ∀ i, i < W.n → W'.ρ i = W.ρ i
  keep : ∀ a o, W.H a = some o → (∀ i, i < W.n → W.ρ i ≠ a) → W'.H a = some o
  dom : ∀ a, W'.H a = none → W.H a = none
  fresh : ∀ i, W.n ≤ i → i < W'.n → W.H (W'.ρ i) = none
  frz : ∀ a ob u, W.H a = some (.frz ob u) → W'.H a = some (.frz ob u)
theorem Go.refl (W : Wd) : Go W W := ⟨rfl, rfl, Nat.le_refl _, fun _ _ => rfl, fun _ _ e _ => e, fun _ e => e, fun i a b => by omega, fun _ _ _ e => e⟩
theorem Go.trans {A B C : Wd} (x : Go A B) (y : Go B C) : Go A C where
  K := y.K.trans x.K
  mg := y.mg.trans x.mg
  n := Nat.le_trans x.n y.n
  ag := fun i h => (y.ag i (Nat.lt_of_lt_of_le h x.n)).trans (x.ag i h)
  keep := fun a o e f => by
    refine y.keep a o (x.keep a o e f) fun i hi q => ?_
    by_cases c : i < A.n
    · exact f i c ((x.ag i c).symm.trans q)
    · have := x.fresh i (by omega) hi
      rw [q, e] at this
      cases this
  dom := fun a e => x.dom a (y.dom a e)
  fresh := fun i a b => by
    by_cases c : i < B.n
    · rw [y.ag i c]; exact x.fresh i a c
    · exact x.dom _ (y.fresh i (by omega) b)
  frz := fun a ob u e => y.frz a ob u (x.frz a ob u e)

/-- what held data lean on stands -/
structure Le (W W' : Wd) : Prop where
  mg : W'.mg = W.mg
  n : W.n ≤ W'.n
  ag : ∀ i, i < W.n → W'.ρ i = W.ρ i
  tup : ∀ a vs, SqT W.K W.H a vs → SqT W'.K W'.H a vs
  fz : ∀ a vs, FzL W.K W.H a vs → FzL W'.K W'.H a vs
theorem Go.le {W W' : Wd} (g : Go W W') {h : Hh} (p : Rep W h) : Le W W' := by
  have ne : ∀ {a : Addr} {u : HO}, W.H a = some u → (∃ xs, u = .tup xs) → ∀ i, i < W.n → W.ρ i ≠ a := fun {a u} e t i hi z => by
    have hl : i < h.length := by rw [← p.len]; exact hi
    obtain ⟨u', e', n1, n2, _⟩ := (p.obj i _ (List.getElem?_eq_getElem hl)).ntup
    rw [z, e] at e'
    cases e'
    obtain ⟨xs, rfl⟩ := t
    exact n1 _ rfl
  refine ⟨g.mg, g.n, g.ag, fun a vs q => ?_, fun a vs q => ?_⟩
  · rcases q with (q | ⟨ob, q⟩) | q
    · exact .inl (.inl (g.keep _ _ q (ne q ⟨_, rfl⟩)))
    · exact .inl (.inr ⟨ob, g.frz _ _ _ q⟩)
    · rw [g.K]; exact .inr q
  · rcases q with ⟨ob, q⟩ | q
    · exact .inl ⟨ob, g.frz _ _ _ q⟩
    · rw [g.K]; exact .inr q
mutual
theorem R.le {W W' : Wd} (g : Le W W') : ∀ {v : V} {d : D}, R W v d → R W' v d
  | _, _, .non => .non
  | _, _, .bl b => .bl b
  | _, _, .int b => .int b
  | _, _, .str b => .str b
  | _, _, .ty b => .ty b
  | _, _, .ref i hi => by
    rw [← g.ag i hi]
    exact .ref i (Nat.lt_of_lt_of_le hi g.n)
  | _, _, .tup q r => .tup (g.tup _ _ q) (RL.le g r)
  | _, _, .frl q r => .frl (g.fz _ _ q) (RL.le g r)
  | _, _, .fn e => .fn (by rw [g.mg]; exact e)
  | _, _, .cls e => .cls (by rw [g.mg]; exact e)
theorem RL.le {W W' : Wd} (g : Le W W') : ∀ {vs : List V} {ds : List D}, RL W vs ds → RL W' vs ds
  | _, _, .nil => .nil
  | _, _, .cons r t => .cons (R.le g r) (RL.le g t)
end
theorem R.go {W W' : Wd} (g : Go W W') {h : Hh} (p : Rep W h) {v : V} {d : D} (r : R W v d) : R W' v d := r.le (g.le p)
theorem RL.go {W W' : Wd} (g : Go W W') {h : Hh} (p : Rep W h) {vs : List V} {ds : List D} (r : RL W vs ds) : RL W' vs ds := r.le (g.le p)
/-- a value that has just come: held, or a new list (H0: the heap ahead of its coming) -/
inductive RE (W : Wd) (H0 : Hp) : V → D → Prop
  | held {v : V} {d : D} (r : R W v d) : RE W H0 v d
  | new {a : Addr} {vs : List V} {xs : List D} (h : W.H a = some (.lst vs)) (f : ∀ i, i < W.n → W.ρ i ≠ a) (n0 : H0 a = none) (r : RL W vs xs) : RE W H0 (.ref a) (.lst xs)
theorem RE.go {W W' : Wd} (g : Go W W') {h : Hh} (p : Rep W h) {H0 : Hp} {v : V} {d : D} (r : RE W H0 v d) : RE W' H0 v d := by
  cases r with
  | held r => exact .held (r.go g p)
  | new e f n0 r =>
    refine .new (g.keep _ _ e f) (fun i hi z => ?_) n0 (r.go g p)
    by_cases c : i < W.n
    · exact f i c ((g.ag i c).symm.trans z)
    · have := g.fresh i (by omega) hi
      rw [z, e] at this
      cases this
theorem RE.old {W : Wd} {H0 H1 : Hp} (k : ∀ a, H0 a = none → H1 a = none) {v : V} {d : D} (r : RE W H0 v d) : RE W H1 v d := by
  cases r with
  | held r => exact .held r
  | new e f n0 r => exact .new e f (k _ n0) r

/-- the names' values -/
structure RS (W : Wd) (σ : St) (S : Sl) : Prop where
  len : σ.length = S.length
  at_ : ∀ (i : Nat) (d : D), S[i]? = some (some d) → ∃ v, σ[i]? = some (some v) ∧ R W v d
theorem RS.go {W W' : Wd} (g : Go W W') {h : Hh} (p : Rep W h) {σ : St} {S : Sl} (r : RS W σ S) : RS W' σ S :=
  ⟨r.len, fun i d e => let ⟨v, e', q⟩ := r.at_ i d e; ⟨v, e', q.go g p⟩⟩
theorem RS.set {W : Wd} {σ : St} {S : Sl} (r : RS W σ S) (i : Nat) {v : V} {d : D} (q : R W v d) : RS W (σ.set i (some v)) (S.set i (some d)) := by
  refine ⟨by rw [List.length_set, List.length_set]; exact r.len, fun j e h => ?_⟩
  by_cases c : i = j
  · subst c
    by_cases hl : i < S.length
    · rw [List.getElem?_set_self hl] at h
      cases h
      exact ⟨v, by rw [List.getElem?_set_self (by rw [r.len]; exact hl)], q⟩
    · rw [List.getElem?_eq_none (by simpa using hl)] at h
      cases h
  · rw [List.getElem?_set_ne c] at h
    obtain ⟨u, e', q'⟩ := r.at_ j e h
    exact ⟨u, by rw [List.getElem?_set_ne c]; exact e', q'⟩

/-- an exception's fields: its own dict -/
def RX (W : Wd) (cls : Value) (dx : Option Addr) (C : Str) (fs : List (Str × D)) : Prop :=
  (∃ Ca, W.mg C = some (.ref Ca) ∧ cls = .ref Ca) ∧ match fs with
    | [] => True
    | _ :: _ => ∃ d gs, dx = some d ∧ W.H d = some (.xd gs) ∧ gs.map (·.1) = fs.map (·.1) ∧ RL W (gs.map (·.2)) (fs.map (·.2))

/-- what comes: a value, or an exception by its class's name and its fields -/
inductive Rs (α : Type) where
  | ok (a : α) | ex (C : Str) (fs : List (Str × D))
abbrev M (α : Type) := Option (Rs α × Hh)
def bd {α β : Type} (r : M α) (k : α → Hh → M β) : M β := match r with
  | none => none
  | some (.ok a, h) => k a h
  | some (.ex C fs, h) => some (.ex C fs, h)
def pu {α : Type} (o : Option α) (h : Hh) : M α := match o with
  | none => none
  | some a => some (.ok a, h)

/-! ### what a reading of ours is: f tells what comes and the objects -/
abbrev EF := Sl → Hh → M D
abbrev TF := Sl → Hh → M Bool
abbrev AF := Sl → Hh → M (List D)
/-- the world of a context at a heap -/
abbrev wd (X : Cx) (ρ : Nat → Addr) (h : Hh) (H : Hp) : Wd := ⟨X.K, X.mg, ρ, h.length, H⟩
structure At (X : Cx) (ρ : Nat → Addr) (h : Hh) (H : Hp) (σ : St) (S : Sl) : Prop where
  rep : Rep (wd X ρ h H) h
  sl : RS (wd X ρ h H) σ S
def Fin {α : Type} (X : Cx) (Wx : WX) (ρ : Nat → Addr) (h : Hh) (H : Hp) (σ : St) (S : Sl) (r : Rs α × Hh) (P : (Nat → Addr) → Hh → Hp → α → Prop) : Prop :=
  match r with
  | (.ok a, h') => ∀ ρ' H', Go (wd X ρ h H) (wd X ρ' h' H') → At X ρ' h' H' σ S → P ρ' h' H' a
  | (.ex C fs, h') => ∀ ρ' H' cls dx, Go (wd X ρ h H) (wd X ρ' h' H') → At X ρ' h' H' σ S → RX (wd X ρ' h' H') cls dx C fs → Wx cls dx σ H'
theorem Fin.go {α : Type} {X : Cx} {Wx : WX} {ρ ρ1 : Nat → Addr} {h h1 : Hh} {H H1 : Hp} {σ : St} {S : Sl} {r : Rs α × Hh} {P : (Nat → Addr) → Hh → Hp → α → Prop} (g : Go (wd X ρ h H) (wd X ρ1 h1 H1)) (F : Fin X Wx ρ h H σ S r P) :
    Fin X Wx ρ1 h1 H1 σ S r P := by
  match r, F with
  | (.ok a, h'), F => exact fun ρ' H' g' a' => F ρ' H' (g.trans g') a'
  | (.ex C fs, h'), F => exact fun ρ' H' cls dx g' a' x => F ρ' H' cls dx (g.trans g') a' x
theorem Fin.bd {α β : Type} {X : Cx} {Wx : WX} {ρ : Nat → Addr} {h : Hh} {H : Hp} {σ : St} {S : Sl} {fa : M α} {k : α → Hh → M β} {r : Rs β × Hh} {P : (Nat → Addr) → Hh → Hp → β → Prop} {Pa : (Nat → Addr) → Hh → Hp → α → Prop}
    (e : Z.bd fa k = some r) (F : Fin X Wx ρ h H σ S r P)
    (hk : ∀ a h1 ρ' H', fa = some (.ok a, h1) → Go (wd X ρ h H) (wd X ρ' h1 H') → At X ρ' h1 H' σ S → k a h1 = some r → Fin X Wx ρ' h1 H' σ S r P → Pa ρ' h1 H' a) : ∃ ra, fa = some ra ∧ Fin X Wx ρ h H σ S ra Pa := by
  match fa, e, hk with
  | some (.ok a, h1), e, hk => exact ⟨_, rfl, fun ρ' H' g A => hk a h1 ρ' H' rfl g A e (F.go g)⟩
  | some (.ex C fs, h1), e, _ =>
    cases e
    exact ⟨_, rfl, F⟩
theorem Fin.pu {α : Type} {X : Cx} {Wx : WX} {ρ : Nat → Addr} {h h1 : Hh} {H : Hp} {σ : St} {S : Sl} {o : Option α} {r : Rs α × Hh} {P : (Nat → Addr) → Hh → Hp → α → Prop}
    (e : Z.pu o h1 = some r) (F : Fin X Wx ρ h H σ S r P) : ∃ a, o = some a ∧ ∀ ρ' H', Go (wd X ρ h H) (wd X ρ' h1 H') → At X ρ' h1 H' σ S → P ρ' h1 H' a := by
  match o, e with
  | some a, e =>
    cases e
    exact ⟨a, rfl, F⟩

def tE (X : Cx) (Wx : WX) (f : EF) : TE := fun σ H Q => ∃ ρ S h r, At X ρ h H σ S ∧ f S h = some r ∧ Fin X Wx ρ h H σ S r fun ρ' h' H' d => ∀ v, RE (wd X ρ' h' H') H v d → Q v H'
def tT (X : Cx) (Wx : WX) (f : TF) : TT := fun σ H Q => ∃ ρ S h r, At X ρ h H σ S ∧ f S h = some r ∧ Fin X Wx ρ h H σ S r fun _ _ H' b => Q b H'
def tA (X : Cx) (Wx : WX) (f : AF) : TA := fun σ H Q => ∃ ρ S h r, At X ρ h H σ S ∧ f S h = some r ∧ Fin X Wx ρ h H σ S r fun ρ' h' H' ds => ∀ vs, RL (wd X ρ' h' H') vs ds → Q vs H'
abbrev JE (X : Cx) (Wx : WX) (e : Expr) (f : EF) : Prop := PE X e (tE X Wx f)
abbrev JT (X : Cx) (Wx : WX) (e : Expr) (f : TF) : Prop := PT X e (tT X Wx f)
abbrev JA (X : Cx) (Wx : WX) (es : List Expr) (f : AF) : Prop := PA X es (tA X Wx f)
theorem PE.imp {X : Cx} {e : Expr} {t t' : TE} (h : PE X e t) (i : ∀ σ H Q, t' σ H Q → t σ H Q) : PE X e t' := ⟨fun pins s σ H Q I q => h.run pins s σ H Q I (i _ _ _ q)⟩
theorem PT.imp {X : Cx} {e : Expr} {t t' : TT} (h : PT X e t) (i : ∀ σ H Q, t' σ H Q → t σ H Q) : PT X e t' := ⟨fun pins s σ H Q I q => h.run pins s σ H Q I (i _ _ _ q)⟩
theorem PA.imp {X : Cx} {e : List Expr} {t t' : TA} (h : PA X e t) (i : ∀ σ H Q, t' σ H Q → t σ H Q) : PA X e t' := ⟨fun pos pins s σ H Q I q => h.run pos pins s σ H Q I (i _ _ _ q)⟩
theorem PS.imp {X : Cx} {e : Stmt} {t t' : TS} (h : PS X e t) (i : ∀ D σ H, t' D σ H → t D σ H) : PS X e t' := ⟨fun pins s σ H Q I q => h.run pins s σ H Q I (i _ _ _ q)⟩
theorem PSs.imp {X : Cx} {e : List Stmt} {t t' : TS} (h : PSs X e t) (i : ∀ D σ H, t' D σ H → t D σ H) : PSs X e t' := ⟨fun pins s σ H Q I q => h.run pins s σ H Q I (i _ _ _ q)⟩

/-- a step of a reading: the part fa, then k -/
theorem tE.bd {β : Type} {X : Cx} {Wx : WX} {ρ : Nat → Addr} {h : Hh} {H : Hp} {σ : St} {S : Sl} {fa : EF} {k : D → Hh → M β} {r : Rs β × Hh} {P : (Nat → Addr) → Hh → Hp → β → Prop} {Q : VK} (A : At X ρ h H σ S)
    (e : Z.bd (fa S h) k = some r) (F : Fin X Wx ρ h H σ S r P)
    (hk : ∀ d h1 ρ' H' v, Go (wd X ρ h H) (wd X ρ' h1 H') → At X ρ' h1 H' σ S → RE (wd X ρ' h1 H') H v d → k d h1 = some r → Fin X Wx ρ' h1 H' σ S r P → Q v H') : tE X Wx fa σ H Q := by
  obtain ⟨ra, e1, F1⟩ := Fin.bd (Pa := fun ρ' h' H' d => ∀ v, RE (wd X ρ' h' H') H v d → Q v H') e F fun d h1 ρ' H' _ g A1 ek F1 v rv => hk d h1 ρ' H' v g A1 rv ek F1
  exact ⟨ρ, S, h, ra, A, e1, F1⟩
/-- .. where it is told what the part comes to -/
theorem tE.bdq {β : Type} {X : Cx} {Wx : WX} {ρ : Nat → Addr} {h : Hh} {H : Hp} {σ : St} {S : Sl} {fa : EF} {k : D → Hh → M β} {r : Rs β × Hh} {P : (Nat → Addr) → Hh → Hp → β → Prop} {Q : VK} (A : At X ρ h H σ S)
    (e : Z.bd (fa S h) k = some r) (F : Fin X Wx ρ h H σ S r P)
    (hk : ∀ d h1 ρ' H' v, fa S h = some (.ok d, h1) → Go (wd X ρ h H) (wd X ρ' h1 H') → At X ρ' h1 H' σ S → RE (wd X ρ' h1 H') H v d → k d h1 = some r → Fin X Wx ρ' h1 H' σ S r P → Q v H') : tE X Wx fa σ H Q := by
  obtain ⟨ra, e1, F1⟩ := Fin.bd (Pa := fun ρ' h' H' d => ∀ v, RE (wd X ρ' h' H') H v d → Q v H') e F fun d h1 ρ' H' eq g A1 ek F1 v rv => hk d h1 ρ' H' v eq g A1 rv ek F1
  exact ⟨ρ, S, h, ra, A, e1, F1⟩
theorem tE.bd' {β : Type} {X : Cx} {Wx : WX} {ρ : Nat → Addr} {h h0 : Hh} {H : Hp} {σ : St} {S : Sl} {fa : EF} {k : D → Hh → M β} {r : Rs β × Hh} {P : (Nat → Addr) → Hh → Hp → β → Prop} {Q : VK} {d : D} (ef : fa S h = some (.ok d, h0)) (A : At X ρ h H σ S)
    (e : Z.bd (fa S h) k = some r) (F : Fin X Wx ρ h H σ S r P)
    (hk : ∀ ρ' H' v, Go (wd X ρ h H) (wd X ρ' h0 H') → At X ρ' h0 H' σ S → RE (wd X ρ' h0 H') H v d → k d h0 = some r → Fin X Wx ρ' h0 H' σ S r P → Q v H') : tE X Wx fa σ H Q :=
  tE.bdq A e F fun d' h1 ρ' H' v eq g A1 rv ek F1 => by
    rw [ef] at eq
    cases eq
    exact hk ρ' H' v g A1 rv ek F1
theorem tT.bd {β : Type} {X : Cx} {Wx : WX} {ρ : Nat → Addr} {h : Hh} {H : Hp} {σ : St} {S : Sl} {fa : TF} {k : Bool → Hh → M β} {r : Rs β × Hh} {P : (Nat → Addr) → Hh → Hp → β → Prop} {Q : Bool → Hp → Prop} (A : At X ρ h H σ S)
    (e : Z.bd (fa S h) k = some r) (F : Fin X Wx ρ h H σ S r P)
    (hk : ∀ b h1 ρ' H', Go (wd X ρ h H) (wd X ρ' h1 H') → At X ρ' h1 H' σ S → k b h1 = some r → Fin X Wx ρ' h1 H' σ S r P → Q b H') : tT X Wx fa σ H Q := by
  obtain ⟨ra, e1, F1⟩ := Fin.bd (Pa := fun _ _ H' b => Q b H') e F fun b h1 ρ' H' _ g A1 ek F1 => hk b h1 ρ' H' g A1 ek F1
  exact ⟨ρ, S, h, ra, A, e1, F1⟩
theorem tA.bd {β : Type} {X : Cx} {Wx : WX} {ρ : Nat → Addr} {h : Hh} {H : Hp} {σ : St} {S : Sl} {fa : AF} {k : List D → Hh → M β} {r : Rs β × Hh} {P : (Nat → Addr) → Hh → Hp → β → Prop} {Q : List V → Hp → Prop} (A : At X ρ h H σ S)
    (e : Z.bd (fa S h) k = some r) (F : Fin X Wx ρ h H σ S r P)
    (hk : ∀ ds h1 ρ' H' vs, Go (wd X ρ h H) (wd X ρ' h1 H') → At X ρ' h1 H' σ S → RL (wd X ρ' h1 H') vs ds → k ds h1 = some r → Fin X Wx ρ' h1 H' σ S r P → Q vs H') : tA X Wx fa σ H Q := by
  obtain ⟨ra, e1, F1⟩ := Fin.bd (Pa := fun ρ' h' H' d => ∀ v, RL (wd X ρ' h' H') v d → Q v H') e F fun d h1 ρ' H' _ g A1 ek F1 v rv => hk d h1 ρ' H' v g A1 rv ek F1
  exact ⟨ρ, S, h, ra, A, e1, F1⟩

/-! ### a new thing that is not ours -/
theorem RO.keep {W W' : Wd} (g : Go W W') {h : Hh} (p : Rep W h) {a : Addr} {o : O} (e : W'.H a = W.H a) (r : RO W a o) : RO W' a o := by
  cases r with
  | lst x y => exact .lst (e.trans x) (y.go g p)
  | dic x z y => exact .dic (e.trans x) z (y.go g p)
  | ins c x z y => exact .ins (by rw [g.mg]; exact c) (e.trans x) z (y.go g p)
  | fdc x z y => exact .fdc (e.trans x) z (y.go g p)
theorem RO.some {W : Wd} {a : Addr} {o : O} (r : RO W a o) : ∃ u, W.H a = Option.some u := let ⟨u, e, _⟩ := r.ntup; ⟨u, e⟩
theorem Rep.some {W : Wd} {h : Hh} (p : Rep W h) {i : Nat} (hi : i < W.n) : ∃ u, W.H (W.ρ i) = Option.some u := by
  have hl : i < h.length := by rw [← p.len]; exact hi
  exact (p.obj i _ (List.getElem?_eq_getElem hl)).some
theorem Rep.ne {W : Wd} {h : Hh} (p : Rep W h) {a : Addr} (e : W.H a = none) : ∀ i, i < W.n → W.ρ i ≠ a := fun i hi z => by
  obtain ⟨u, q⟩ := p.some hi
  rw [z, e] at q
  cases q
theorem At.tmp {X : Cx} {ρ : Nat → Addr} {h : Hh} {H : Hp} {σ : St} {S : Sl} (A : At X ρ h H σ S) {a : Addr} {o : HO} (e : H a = none) : Go (wd X ρ h H) (wd X ρ h (upd H a o)) ∧ At X ρ h (upd H a o) σ S := by
  have g : Go (wd X ρ h H) (wd X ρ h (upd H a o)) := ⟨rfl, rfl, Nat.le_refl _, fun _ _ => rfl, fun b u q _ => by
    show upd H a o b = some u
    rw [upd_ne (ne_of_none q e)]
    exact q, fun b q => by
    have q' : upd H a o b = none := q
    by_cases c : b = a
    · rw [c, upd_same] at q'; cases q'
    · rwa [upd_ne c] at q', fun i x y => by
    have x' : h.length ≤ i := x
    have y' : i < h.length := y
    omega, fun b ob u q => by
    show upd H a o b = some (.frz ob u)
    rw [upd_ne (ne_of_none q e)]
    exact q⟩
  refine ⟨g, ⟨A.rep.len, A.rep.inj, fun i u q => ?_⟩, A.sl.go g A.rep⟩
  have hi : i < h.length := (List.getElem?_eq_some_iff.mp q).1
  exact (A.rep.obj i u q).keep g A.rep (upd_ne (A.rep.ne e i hi))
/-- a new list that nothing holds -/
theorem At.new {X : Cx} {ρ : Nat → Addr} {h : Hh} {H H0 : Hp} {σ : St} {S : Sl} (A : At X ρ h H σ S) {a : Addr} (e : H a = none) (e0 : H0 a = none) {vs : List V} {xs : List D} (r : RL (wd X ρ h H) vs xs) :
    Go (wd X ρ h H) (wd X ρ h (upd H a (.lst vs))) ∧ At X ρ h (upd H a (.lst vs)) σ S ∧ RE (wd X ρ h (upd H a (.lst vs))) H0 (.ref a) (.lst xs) := by
  obtain ⟨g, A'⟩ := A.tmp (o := .lst vs) e
  exact ⟨g, A', .new upd_same (A.rep.ne e) e0 (r.go g A.rep)⟩
theorem At.newT {X : Cx} {ρ : Nat → Addr} {h : Hh} {H : Hp} {σ : St} {S : Sl} (A : At X ρ h H σ S) {a : Addr} (e : H a = none) {vs : List V} {xs : List D} (r : RL (wd X ρ h H) vs xs) :
    Go (wd X ρ h H) (wd X ρ h (upd H a (.tup vs))) ∧ At X ρ h (upd H a (.tup vs)) σ S ∧ R (wd X ρ h (upd H a (.tup vs))) (.ref a) (.tup xs) := by
  obtain ⟨g, A'⟩ := A.tmp (o := .tup vs) e
  exact ⟨g, A', .tup (SqT.of upd_same) (r.go g A.rep)⟩
/-- a new list becomes an object of ours -/
def own (ρ : Nat → Addr) (n : Nat) (a : Addr) : Nat → Addr := fun i => if i = n then a else ρ i
theorem At.give {X : Cx} {ρ : Nat → Addr} {h : Hh} {H : Hp} {σ : St} {S : Sl} {W0 : Wd} (A : At X ρ h H σ S) (g0 : Go W0 (wd X ρ h H)) {a : Addr} {o : O} (f : ∀ i, i < h.length → ρ i ≠ a) (n0 : W0.H a = none)
    (r : Le (wd X ρ h H) (wd X (own ρ h.length a) (h ++ [o]) H) → RO (wd X (own ρ h.length a) (h ++ [o]) H) a o) :
    Go W0 (wd X (own ρ h.length a) (h ++ [o]) H) ∧ At X (own ρ h.length a) (h ++ [o]) H σ S ∧ R (wd X (own ρ h.length a) (h ++ [o]) H) (.ref a) (.ref h.length) ∧ Le (wd X ρ h H) (wd X (own ρ h.length a) (h ++ [o]) H) := by
  have ho : ∀ i, i < h.length → own ρ h.length a i = ρ i := fun i hi => if_neg (by omega)
  have hn : own ρ h.length a h.length = a := if_pos rfl
  have hl : (h ++ [o]).length = h.length + 1 := by simp
  have le : Le (wd X ρ h H) (wd X (own ρ h.length a) (h ++ [o]) H) := ⟨rfl, by show h.length ≤ (h ++ [o]).length; omega, ho, fun _ _ q => q, fun _ _ q => q⟩
  have hr := r le
  refine ⟨⟨g0.K, g0.mg, Nat.le_trans g0.n (by show h.length ≤ (h ++ [o]).length; omega), fun i hi => ?_, g0.keep, g0.dom, fun i x y => ?_, g0.frz⟩, ⟨⟨rfl, fun i j hi hj z => ?_, fun i u q => ?_⟩, ⟨A.sl.len, fun i d e => ?_⟩⟩, ?_, le⟩
  · exact (ho i (Nat.lt_of_lt_of_le hi g0.n)).trans (g0.ag i hi)
  · have y' : i < h.length + 1 := by rw [← hl]; exact y
    show W0.H (own ρ h.length a i) = none
    by_cases c : i = h.length
    · rw [c, hn]; exact n0
    · rw [ho i (by omega)]; exact g0.fresh i x (by show i < h.length; omega)
  · have hi' : i < h.length + 1 := by rw [← hl]; exact hi
    have hj' : j < h.length + 1 := by rw [← hl]; exact hj
    have z' : own ρ h.length a i = own ρ h.length a j := z
    by_cases ci : i = h.length <;> by_cases cj : j = h.length
    · omega
    · rw [ci, hn, ho j (by omega)] at z'
      exact absurd z'.symm (f j (by omega))
    · rw [cj, hn, ho i (by omega)] at z'
      exact absurd z' (f i (by omega))
    · rw [ho i (by omega), ho j (by omega)] at z'
      exact A.rep.inj i j (by show i < h.length; omega) (by show j < h.length; omega) z'
  · show RO _ (own ρ h.length a i) u
    by_cases c : i < h.length
    · rw [List.getElem?_append_left c] at q
      rw [ho i c]
      cases A.rep.obj i u q with
      | lst x y => exact .lst x (y.le le)
      | dic x z y => exact .dic x z (y.le le)
      | ins c x z y => exact .ins c x z (y.le le)
      | fdc x z y => exact .fdc x z (y.le le)
    · have hi : i < h.length + 1 := by
        have := (List.getElem?_eq_some_iff.mp q).1
        rwa [hl] at this
      have ei : i = h.length := by omega
      subst ei
      rw [List.getElem?_append_right (Nat.le_refl _)] at q
      have eu : o = u := by simpa using q
      subst eu
      rw [hn]
      exact hr
  · obtain ⟨v, e', q⟩ := A.sl.at_ i d e
    exact ⟨v, e', q.le le⟩
  · have := R.ref (W := wd X (own ρ h.length a) (h ++ [o]) H) h.length (by show h.length < (h ++ [o]).length; omega)
    have e : (wd X (own ρ h.length a) (h ++ [o]) H).ρ h.length = a := hn
    rw [e] at this
    exact this

/-! ### a value that is to be held -/
def mat (d : D) (h : Hh) : M D := match d with
  | .lst xs => some (.ok (.ref h.length), h ++ [.lst xs])
  | d => some (.ok d, h)
def vv (f : EF) : EF := fun S h => bd (f S h) mat
theorem RE.ofHeld {W : Wd} {H0 : Hp} {v : V} {d : D} (r : RE W H0 v d) (n : ∀ xs, d ≠ .lst xs) : R W v d := by
  cases r with
  | held r => exact r
  | new _ _ _ _ => exact absurd rfl (n _)
theorem R.notLst {W : Wd} {v : V} {xs : List D} (r : R W v (.lst xs)) : False := by cases r
theorem tE.vv {X : Cx} {Wx : WX} {f : EF} {σ : St} {H : Hp} {Q : VK} (q : tE X Wx (vv f) σ H Q) : tE X Wx f σ H Q := by
  obtain ⟨ρ, S, h, r, A, e, F⟩ := q
  refine tE.bd A e F fun d h1 ρ' H' v g A1 rv ek F1 => ?_
  cases rv with
  | new x fr n0 rl =>
    rename_i a vs xs
    have ek' : (Rs.ok (.ref h1.length), h1 ++ [.lst xs]) = r := by
      have : some (Rs.ok (D.ref h1.length), h1 ++ [O.lst xs]) = some r := ek
      exact Option.some.inj this
    subst ek'
    obtain ⟨g2, A2, r2, _⟩ := A1.give (o := .lst xs) g fr n0 fun le => .lst x (rl.le le)
    exact F _ _ g2 A2 _ (.held r2)
  | held rv =>
    have ek' : some (Rs.ok d, h1) = some r := by
      rw [← ek]
      cases d with
      | lst xs => exact rv.notLst.elim
      | _ => rfl
    cases ek'
    exact F _ _ g A1 _ (.held rv)
theorem JE.vv {X : Cx} {Wx : WX} {ex : Expr} {f : EF} (j : JE X Wx ex f) : JE X Wx ex (Z.vv f) := PE.imp j fun _ _ _ q => tE.vv q
/-- what vv gives is held -/
theorem vv_held {f : EF} {S : Sl} {h h' : Hh} {d : D} (e : vv f S h = some (.ok d, h')) : ∀ xs, d ≠ .lst xs := by
  unfold Z.vv at e
  cases q : f S h with
  | none => rw [q] at e; cases e
  | some r =>
    rw [q] at e
    match r, e with
    | (.ok x, h1), e =>
      intro xs z
      subst z
      cases x <;> cases e
end Z

/-! Z2: programs over data, and what they come to -/
namespace Z
open PySem L2

/-- built-in functions, methods of texts, methods that change -/
inductive Bn where
  | len | sum | any | all | str | int | list | tuple | isi
inductive Mn where
  | split | join | index
inductive Mu where
  | append
def Bn.nm : Bn → Str
  | .len => "len" | .sum => "sum" | .any => "any" | .all => "all" | .str => "str" | .int => "int" | .list => "list" | .tuple => "tuple" | .isi => "isinstance"
def Mn.nm : Mn → Str
  | .split => "split" | .join => "join" | .index => "index"
def Mu.nm : Mu → Str
  | .append => "append"
/-- one argument -/
def Bn.one : Bn → Bool
  | .isi => false
  | _ => true
/-- what a dict of the top holds -/
inductive Gv where
  | s (x : Str) | i (n : Int) | f (x : Str)
  deriving DecidableEq
def Gv.d : Gv → D
  | .s x => .str x
  | .i n => .int n
  | .f x => .fn x
mutual
inductive E where
  | var (i : Nat) | int (i : Int) | str (x : Str) | bl (b : Bool) | non
  | glob (x : Str) | typ (x : Str) (t : String)
  | bin (op : Operator) (a b : E) | neg (a : E) | cmp (op : CmpOp) (a b : E) | chn (o p : CmpOp) (a b c : E)
  | and (a b : E) | or (a b : E) | not (a : E) | ite (c a b : E)
  | tup (es : EL) | lst (es : EL) | dic0
  | crep (c : Str) (o : E) (y z : Str)
  | call0 (x : Str) | call (x : Str) (es : EL) | make (x : Str) (es : EL)
  | blt (x : Bn) (es : EL) | bl1 (x : Bn) (e : E) | met1 (a : E) (m : Mn) (e : E) | meth (a : E) (m : Mu) (es : EL)
  | fld (a : E) (f : Str)
  | ix (a b : E) | slc (a : E) (lo hi : EO)
  | lc (elt : E) (tg : Tg) (it : It) (c : EO) (own : List Nat)
  | fmt (ps : EL) | fv (a : E)
  | bad | fldc (a : E) (f : Str) (cs : List Str) | omth (a : E) (C m q : Str) (es : EL) | mk (C q : Str) (es : EL)
  | lset (a : E) | revl (a : E) | isiT (a : E) (ts : List String) | isiC (a : E) (C : Str) | clr (a : E)
  | kix (a b : E) | kin (neg : Bool) (a b : E) | kget1 (a b : E) | kget2 (a b c : E) | kdis (ks : List Str) (es : EL) | kdc (kx vx : E) (tg : Tg) (it : It) (c : EO) (own : List Nat)
  | kpr (a : E) | kcp (a : E) | kls (a : E)
  | gin (neg : Bool) (a : E) (x : Str) (kvs : List (Str × Gv)) | gix (x : Str) (kvs : List (Str × Gv)) (b : E) | ktv (a : E)
  | lcd (elt : E) (tg : Tg) (src : E) (c : EO) (own : List Nat)
inductive EO where
  | no | yes (e : E)
inductive EL where
  | nil | cons (st : Bool) (e : E) (es : EL)
inductive It where
  | sq (e : E) | r1 (a : E) | r2 (a b : E) | en (e : E) | zp (a b : E)
inductive Tg where
  | nm (i : Nat) | tp (l : TL)
inductive TL where
  | nil | cons (t : Tg) (l : TL)
end

/-! ### values -/
/-- the items of a list (the object, a new one), of the script -/
def lsD (h : Hh) : D → Option (List D)
  | .lst xs => some xs
  | .frl xs => some xs
  | .ref n => match h[n]? with
    | some (.lst xs) => some xs
    | _ => none
  | _ => none
/-- .. of one that may be changed -/
def mlD (h : Hh) : D → Option (List D)
  | .lst xs => some xs
  | .ref n => match h[n]? with
    | some (.lst xs) => some xs
    | _ => none
  | _ => none
/-- .. or of a tuple -/
def sqD (h : Hh) : D → Option (List D)
  | .tup xs => some xs
  | d => lsD h d
def truD (h : Hh) : D → Option Bool
  | .non => some false
  | .bl b => some b
  | .int i => some (i != 0)
  | .str y => if y.length ≤ sizeLine then some ((y.length : Int) != 0) else none
  | .tup xs => some (!xs.isEmpty)
  | .lst xs => some (!xs.isEmpty)
  | .frl xs => some (!xs.isEmpty)
  | .ref n => match h[n]? with
    | some (.lst xs) => some (!xs.isEmpty)
    | some (.dic kvs) => some (!kvs.isEmpty)
    | _ => none
  | _ => none
mutual
/-- data as they are compared -/
def toPy (h : Hh) : Nat → D → Option PyData
  | _, .non => some .none
  | _, .bl b => some (.bool b)
  | _, .int i => some (.int i)
  | _, .str x => some (.str x)
  | k + 1, .tup xs => (toPyL h k xs).map .tuple
  | k + 1, .lst xs => (toPyL h k xs).map .list
  | k + 1, .frl xs => (toPyL h k xs).map .list
  | k + 1, .ref n => match h[n]? with
    | some (.lst xs) => (toPyL h k xs).map .list
    | _ => none
  | _, _ => none
def toPyL (h : Hh) : Nat → List D → Option (List PyData)
  | _, [] => some []
  | k + 1, d :: ds => match toPy h k d, toPyL h k ds with
    | some a, some b => some (a :: b)
    | _, _ => none
  | _, _ => none
end
/-- == of plain values -/
def scD : D → D → Option Bool
  | .non, .non => some true
  | .non, .int _ => some false | .int _, .non => some false | .non, .bl _ => some false | .bl _, .non => some false | .non, .str _ => some false | .str _, .non => some false
  | .int i, .int j => some (decide (i = j))
  | .bl i, .bl j => some (decide (i = j))
  | .str i, .str j => some (decide (i = j))
  | .int _, .str _ => some false | .str _, .int _ => some false | .bl _, .str _ => some false | .str _, .bl _ => some false
  | _, _ => none
def eqD (h : Hh) (x y : D) : Option Bool := match scD x y with
  | some b => some b
  | none => match toPy h 100000 x, toPy h 100000 y with
    | some a, some b => if SeqAt.shaped a = true ∧ SeqAt.shaped b = true then some (PyData.eqv a b) else none
    | _, _ => none
/-- flat values -/
def flD : D → Option V
  | .non => some .non
  | .bl b => some (.bl b)
  | .int i => some (.int i)
  | .str x => some (.str x)
  | _ => none
def flL : List D → Option (List V)
  | [] => some []
  | d :: ds => match flD d, flL ds with
    | some v, some vs => some (v :: vs)
    | _, _ => none
def inD (h : Hh) (x y : D) : Option Bool := match x, y with
  | .str i, .str j => some (!(Builtin.Str.occurrences j i 0 j.length 1).isEmpty)
  | x, y => match sqD h y with
    | none => none
    | some ys => match flD x, flL ys with
      | some v, some vs => if flatV v = true ∧ vs.all flatV = true then some (inV v vs) else none
      | _, _ => match lsD h y with
        | none => none
        | some _ => match toPy h 100000 x, toPyL h 100000 ys with
          | some a, some bs => if SeqAt.shaped a = true ∧ SeqAt.shaped (.list bs) = true then some (bs.any fun z => PyData.eqv z a) else none
          | _, _ => none
def cmpD (h : Hh) (op : CmpOp) (x y : D) : Option D := match op with
  | .Eq => (eqD h x y).map .bl
  | .NotEq => (eqD h x y).map fun b => .bl (!b)
  | .Lt => match x, y with
    | .int i, .int j => some (.bl (decide (i < j)))
    | .str i, .str j => some (.bl (decide (i.cps.toList < j.cps.toList)))
    | _, _ => none
  | .LtE => match x, y with
    | .int i, .int j => some (.bl (decide (i ≤ j)))
    | .str i, .str j => some (.bl (!decide (j.cps.toList < i.cps.toList)))
    | _, _ => none
  | .Gt => match x, y with
    | .int i, .int j => some (.bl (decide (j < i)))
    | .str i, .str j => some (.bl (decide (j.cps.toList < i.cps.toList)))
    | _, _ => none
  | .GtE => match x, y with
    | .int i, .int j => some (.bl (decide (j ≤ i)))
    | .str i, .str j => some (.bl (!decide (i.cps.toList < j.cps.toList)))
    | _, _ => none
  | .Is => match x, y with
    | .bl i, .bl j => some (.bl (decide (i = j)))
    | .non, .non => some (.bl true)
    | .bl _, .non => some (.bl false) | .int _, .non => some (.bl false) | .str _, .non => some (.bl false) | .tup _, .non => some (.bl false) | .lst _, .non => some (.bl false) | .ref _, .non => some (.bl false)
    | _, _ => none
  | .IsNot => match x, y with
    | .bl i, .bl j => some (.bl (!decide (i = j)))
    | .non, .non => some (.bl false)
    | .bl _, .non => some (.bl true) | .int _, .non => some (.bl true) | .str _, .non => some (.bl true) | .tup _, .non => some (.bl true) | .lst _, .non => some (.bl true) | .ref _, .non => some (.bl true)
    | _, _ => none
  | .In => (inD h x y).map .bl
  | .NotIn => (inD h x y).map fun b => .bl (!b)
def binD (h : Hh) (op : Operator) (x y : D) : Option D := match op with
  | .Add => match x, y with
    | .int i, .int j => some (.int (i + j))
    | .int i, .bl k => some (.int (i + (if k then 1 else 0)))
    | .str i, .str j => if i.length + j.length ≤ sizeLine then some (.str (i ++ j)) else none
    | .tup xs, .tup ys => if xs.length + ys.length ≤ sizeLine then some (.tup (xs ++ ys)) else none
    | x, y => match mlD h x, mlD h y with
      | some xs, some ys => if xs.length + ys.length ≤ sizeLine then some (.lst (xs ++ ys)) else none
      | _, _ => none
  | .Sub => match x, y with
    | .int i, .int j => some (.int (i - j))
    | _, _ => none
  | .Mult => match x, y with
    | .int i, .int j => if ((-(2 ^ 64) < i ∧ i < 2 ^ 64) ∨ (-(2 ^ 64) < j ∧ j < 2 ^ 64)) ∨ (i.natAbs < 2 ^ 250 ∧ j.natAbs < 2 ^ 250) then some (.int (i * j)) else none
    | x, .int k => match mlD h x with
      | some xs => if -(2 ^ 63) ≤ k ∧ k < 2 ^ 63 ∧ xs.length * k.toNat ≤ sizeLine then some (.lst (List.replicate k.toNat xs).flatten) else none
      | none => none
    | _, _ => none
  | .FloorDiv => match x, y with
    | .int i, .int j => if 0 < j ∧ j < 1073741824 then some (.int (i / j)) else none
    | _, _ => none
  | .Mod => match x, y with
    | .int i, .int j => if 0 < j then some (.int (i % j)) else none
    | _, _ => none
  | .Pow => match x, y with
    | .int i, .int j => if 0 ≤ j ∧ j ≤ 1000000 ∧ i.natAbs < 2 ^ 64 then some (.int (i ^ j.toNat)) else none
    | _, _ => none
  | .RShift => match x, y with
    | .int i, .int j => if 0 ≤ j then some (.int (i / 2 ^ j.toNat)) else none
    | _, _ => none
  | .BitAnd => match x, y with
    | .int i, .int j => some (.int (Builtin.bitAnd i j))
    | _, _ => none
  | _ => none
def negD : D → Option D
  | .int i => some (.int (-i))
  | _ => none
def ixD (h : Hh) (x y : D) : Option D := match x, y with
  | .str z, .int i => if z.length ≤ sizeLine then (atI z.cps.toList i).map fun c => .str ⟨#[c]⟩ else none
  | x, .int i => match sqD h x with
    | some xs => atI xs i
    | none => none
  | _, _ => none
def cutD (xs : List D) (lo hi : Option Int) : List D := (xs.drop (HT.sIx xs.length 0 lo)).take (HT.sIx xs.length xs.length hi - HT.sIx xs.length 0 lo)
def slcD (h : Hh) (x : D) (lo hi : Option Int) : Option D := match x with
  | .str z => if z.length ≤ sizeLine then some (.str (cutS z lo hi)) else none
  | .tup xs => some (.tup (cutD xs lo hi))
  | x => (lsD h x).map fun xs => .lst (cutD xs lo hi)
def strsD : List D → Option (List Str)
  | [] => some []
  | .str x :: ds => (strsD ds).map (x :: ·)
  | _ => none
def intsD : List D → Option (List Int)
  | [] => some []
  | .int x :: ds => (intsD ds).map (x :: ·)
  | _ => none
def blsD : List D → Option (List Bool)
  | [] => some []
  | .bl x :: ds => (blsD ds).map (x :: ·)
  | _ => none
/-- the type's name of a plain value, a list, a tuple, a dict -/
def tyD (h : Hh) : D → Option String
  | .non => some "NoneType"
  | .bl _ => some "bool"
  | .int _ => some "int"
  | .str _ => some "str"
  | .tup _ => some "tuple"
  | .lst _ => some "list"
  | .frl _ => some "list"
  | .ref n => match h[n]? with
    | some (.lst _) => some "list"
    | some (.dic _) => some "dict"
    | _ => none
  | _ => none
def isiD (a b : String) : Option Bool :=
  if b = "int" then (if a = "int" ∨ a = "bool" then some true else if a = "NoneType" ∨ a = "str" ∨ a = "tuple" ∨ a = "list" ∨ a = "dict" then some false else none)
  else if b = "bool" ∨ b = "str" ∨ b = "list" ∨ b = "tuple" ∨ b = "dict" then (if a = "NoneType" ∨ a = "bool" ∨ a = "int" ∨ a = "str" ∨ a = "tuple" ∨ a = "list" ∨ a = "dict" then some (decide (a = b)) else none)
  else none
/-- built-in functions and types, called -/
def lenD (h : Hh) (ds : List D) : Option D := match ds with
  | [.str z] => if z.length ≤ sizeLine then some (.int z.length) else none
  | [d] => (sqD h d).map fun xs => .int xs.length
  | _ => none
def overL (g : List D → Option D) (h : Hh) (ds : List D) : Option D := match ds with
  | [d] => match lsD h d with
    | some xs => g xs
    | none => none
  | _ => none
def strD (ds : List D) : Option D := match ds with
  | [.int i] => if i.natAbs.log2 < 1920 then some (.str (toString i)) else none
  | _ => none
def intD (ds : List D) : Option D := match ds with
  | [.int i] => some (.int i)
  | [.bl k] => some (.int (if k then 1 else 0))
  | _ => none
def listD (h : Hh) (ds : List D) : Option D := match ds with
  | [d] => (sqD h d).map .lst
  | _ => none
def tupD (h : Hh) (ds : List D) : Option D := match ds with
  | [d] => (sqD h d).map .tup
  | _ => none
def isinD (h : Hh) (ds : List D) : Option D := match ds with
  | [d, .ty t] => match tyD h d with
    | some a => (isiD a t).map .bl
    | none => none
  | _ => none
def bltD (h : Hh) (x : Bn) (ds : List D) : Option D := match x with
  | .len => lenD h ds
  | .sum => overL (fun xs => (intsD xs).map fun ns => .int ns.sum) h ds
  | .any => overL (fun xs => (blsD xs).map fun ns => .bl (ns.any id)) h ds
  | .all => overL (fun xs => (blsD xs).map fun ns => .bl (ns.all id)) h ds
  | .str => strD ds
  | .int => intD ds
  | .list => listD h ds
  | .tuple => tupD h ds
  | .isi => isinD h ds
/-- methods of texts, one argument -/
def mthD (h : Hh) (a : Str) (m : Mn) (d : D) : Option D := match m with
  | .split => match d with
    | .str b => if (b.length == 0) = false ∧ a.length + 2 ≤ sizeLine then some (.lst ((Txt.split a b).map .str)) else none
    | _ => none
  | .join => match sqD h d with
    | some xs => match strsD xs with
      | some ys => if (ys.map (·.length)).sum + ys.length * a.length ≤ 16777216 then some (.str (Txt.join a ys)) else none
      | none => none
    | none => none
  | .index => match d with
    | .str b => match Builtin.Str.occurrences a b 0 a.length 1 with
      | i :: _ => some (.int (i : Nat))
      | [] => none
    | _ => none
/-- methods that change -/
def mutD (h : Hh) (n : Nat) (m : Mu) (ds : List D) : Option (D × Hh) := match m with
  | .append => match ds with
    | [d] => match h[n]? with
      | some (.lst xs) => if xs.length < sizeLine then some (.non, h.set n (.lst (xs ++ [d]))) else none
      | _ => none
    | _ => none

/-- isinstance(x, (T, ..)) by the type's name -/
def isiAny (a : String) : List String → Option Bool
  | [] => some false
  | t :: ts => match isiD a t with
    | some true => some true
    | some false => isiAny a ts
    | none => none
def isiTD (h : Hh) (d : D) (ts : List String) : Option D := match tyD h d with
  | some a => (isiAny a ts).map .bl
  | none => none
def lsetD (h : Hh) (d : D) : Option D := match sqD h d with
  | some xs => match strsD xs with
    | some ys => if ys.length ≤ 1000 then some (.int ((ded ys).length : Nat)) else none
    | none => none
  | none => none
def revD (h : Hh) (d : D) : Option D := (lsD h d).map fun xs => .lst xs.reverse

/-! dicts -/
def keyD : D → Option Key
  | .int i => some (.inl i)
  | .str x => some (.inr x)
  | _ => none
def kD : Key → D
  | .inl i => .int i
  | .inr x => .str x
def valD (kvs : List (Key × D)) (k : Key) : Option D := (kvs.find? fun kv => decide (kv.1 = k)).map (·.2)
def putKD (kvs : List (Key × D)) (k : Key) (d : D) : List (Key × D) :=
  if (kvs.any fun kv => decide (kv.1 = k)) = true then kvs.map (fun kv => if kv.1 = k then (kv.1, d) else kv) else kvs ++ [(k, d)]
def mergeKD (kvs more : List (Key × D)) : List (Key × D) := more.foldl (fun acc kv => putKD acc kv.1 kv.2) kvs
def dicD (h : Hh) : D → Option (List (Key × D))
  | .ref n => match h[n]? with
    | some (.dic kvs) => some kvs
    | some (.fdc kvs) => some kvs
    | _ => none
  | _ => none
/-- what stands at a key -/
def dgetD (h : Hh) (x y : D) : Option (Option D) := match dicD h x with
  | some kvs => match keyD y with
    | some k => some (valD kvs k)
    | none => none
  | none => none
/-- pairs in a list -/
def pairsD : List D → Option (List (Key × D))
  | [] => some []
  | .tup [k, d] :: r => match keyD k with
    | some k => match pairsD r with
      | some ps => some ((k, d) :: ps)
      | none => none
    | none => none
  | _ => none

/-! ### programs -/
abbrev CallF := Str → List D → Hh → M D
def getS (S : Sl) (i : Nat) : Option D := (S[i]?).bind id
def wipeS (S : Sl) : List Nat → Sl
  | [] => S
  | v :: vs => (wipeS S vs).set v none
mutual
def bindT (h : Hh) : Tg → D → Sl → Option Sl
  | .nm i, d, S => some (S.set i (some d))
  | .tp l, d, S => match d with
    | .tup xs => bindTs h l xs S
    | _ => none
def bindTs (h : Hh) : TL → List D → Sl → Option Sl
  | .nil, [], S => some S
  | .cons t l, d :: ds, S => (bindT h t d S).bind fun S1 => bindTs h l ds S1
  | _, _, _ => none
end
/-- what is walked: the items, the lists that must stay -/
structure Src where
  items : List D
  stay : List (Nat × List D)
def stayB (h : Hh) : List (Nat × List D) → Prop
  | [] => True
  | (n, xs) :: r => h[n]? = some (.lst xs) ∧ stayB h r
def stayOf (d : D) (xs : List D) : List (Nat × List D) := match d with
  | .ref n => [(n, xs)]
  | _ => []
def strItems (z : Str) : List D := z.cps.toList.map fun c => .str ⟨#[c]⟩
def rngItems (lo : Int) (n : Nat) : List D := (List.range n).map fun i => .int (lo + (i : Nat))
def enItems : Nat → List D → List D
  | _, [] => []
  | k, d :: ds => .tup [.int k, d] :: enItems (k + 1) ds
def zpItems : List D → List D → List D
  | a :: as, b :: bs => .tup [a, b] :: zpItems as bs
  | _, _ => []
/-- zip of two lists, of two tuples -/
def zpD (h : Hh) (x y : D) : Option Src := match x, y with
  | .tup xs, .tup ys => some ⟨zpItems xs ys, []⟩
  | x, y => match lsD h x, lsD h y with
    | some xs, some ys => some ⟨zpItems xs ys, stayOf x xs ++ stayOf y ys⟩
    | _, _ => none
open Classical in
/-- a comprehension's turns -/
noncomputable def lcGo (st : List (Nat × List D)) (f : D → Hh → M (Option D)) : List D → Hh → Option (List D × Hh)
  | [], h => if stayB h st then some ([], h) else none
  | x :: xs, h => if stayB h st then match f x h with
      | some (.ok o, h1) => match lcGo st f xs h1 with
        | some (ys, h2) => some ((match o with | some y => y :: ys | none => ys), h2)
        | none => none
      | _ => none
    else none
open Classical in
/-- .. of a comprehension of a dict -/
noncomputable def dcGo (st : List (Nat × List D)) (f : D → Hh → M (Option (Key × D))) : List D → Hh → List (Key × D) → Option (List (Key × D) × Hh)
  | [], h, acc => if stayB h st then some (acc, h) else none
  | x :: xs, h, acc => if stayB h st then match f x h with
      | some (.ok none, h1) => dcGo st f xs h1 acc
      | some (.ok (some (k, d)), h1) => dcGo st f xs h1 (putKD acc k d)
      | _ => none
    else none
mutual
/-- only objects below n are in it -/
def clD (n : Nat) : D → Bool
  | .tup xs => clL n xs
  | .lst xs => clL n xs
  | .frl xs => clL n xs
  | .ref m => decide (m < n)
  | _ => true
def clL (n : Nat) : List D → Bool
  | [] => true
  | d :: ds => clD n d && clL n ds
end
def clO (n : Nat) : O → Bool
  | .lst xs => clL n xs
  | .dic kvs => clL n (kvs.map (·.2))
  | .fdc kvs => clL n (kvs.map (·.2))
  | .ins _ fs => clL n (fs.map (·.2))
def okH (h h2 : Hh) : Prop := h2.take h.length = h ∨ (h2.take h.length).all (clO h.length) = true
open Classical in
/-- behind a call: what was made on the way and is not told is let go; a list that was made and is told is new -/
noncomputable def fix (h : Hh) (d : D) (h2 : Hh) : M D := match d with
  | .ref m => if m < h.length then (if okH h h2 then some (.ok d, h2.take h.length) else some (.ok d, h2)) else match h2[m]? with
    | some (.lst xs) => if okH h h2 ∧ clL h.length xs = true then some (.ok (.lst xs), h2.take h.length) else some (.ok d, h2)
    | _ => some (.ok d, h2)
  | d => if okH h h2 ∧ clD h.length d = true then some (.ok d, h2.take h.length) else some (.ok d, h2)
/-- a value's reading; a test's -/
structure Ev where
  v : EF
  t : TF
def tv (f : EF) : TF := fun S h => bd (f S h) fun x h1 => pu (truD h1 x) h1
def vt (f : EF) : Ev := ⟨f, tv f⟩
open Classical in
noncomputable def eqH (h h' : Hh) : Bool := decide (h = h')
/-- a dict's place, that is read without a change -/
noncomputable def plD (f : EF) (S : Sl) (h : Hh) : Option Nat := match f S h with
  | some (.ok (.ref n), h1) => if eqH h1 h = true then some n else none
  | _ => none
/-- a dict while it is walked: it can't be changed -/
noncomputable def lockD (f : EF) (S : Sl) (h : Hh) : Option (Nat × List (Key × D)) := match plD f S h with
  | some n => match h[n]? with
    | some (.dic kvs) => if plD f S (h.set n (.fdc kvs)) = some n ∧ kvs.length ≤ sizeLine then some (n, kvs) else none
    | _ => none
  | none => none
mutual
noncomputable def ev (G : List (Str × D)) (Φ : CallF) (e : E) : Ev := match e with
  | .var i => vt (fun S h => pu (getS S i) h)
  | .int i => vt (fun _ h => some (.ok (.int i), h))
  | .str x => vt (fun _ h => some (.ok (.str x), h))
  | .bl b => vt (fun _ h => some (.ok (.bl b), h))
  | .non => vt (fun _ h => some (.ok .non, h))
  | .glob x => vt (fun _ h => pu (G.lookup x) h)
  | .typ _ t => vt (fun _ h => some (.ok (.ty t), h))
  | .bin op a b => vt (fun S h => bd ((ev G Φ a).v S h) fun x h1 => bd ((ev G Φ b).v S h1) fun y h2 => pu (binD h2 op x y) h2)
  | .neg a => vt (fun S h => bd ((ev G Φ a).v S h) fun x h1 => pu (negD x) h1)
  | .cmp op a b => ⟨fun S h => bd ((ev G Φ a).v S h) fun x h1 => bd ((ev G Φ b).v S h1) fun y h2 => pu (cmpD h2 op x y) h2,
      fun S h => bd ((ev G Φ a).v S h) fun x h1 => bd ((ev G Φ b).v S h1) fun y h2 => match cmpD h2 op x y with
      | some (.bl k) => some (.ok k, h2)
      | _ => none⟩
  | .chn o p a b c => ⟨fun S h => bd ((ev G Φ a).v S h) fun x h1 => bd ((ev G Φ b).v S h1) fun y h2 => match cmpD h2 o x y with
      | some (.bl true) => bd ((ev G Φ c).v S h2) fun z h3 => pu (cmpD h3 p y z) h3
      | some (.bl false) => some (.ok (.bl false), h2)
      | _ => none,
      fun S h => bd ((ev G Φ a).v S h) fun x h1 => bd ((ev G Φ b).v S h1) fun y h2 => match cmpD h2 o x y with
      | some (.bl true) => bd ((ev G Φ c).v S h2) fun z h3 => match cmpD h3 p y z with
        | some (.bl k) => some (.ok k, h3)
        | _ => none
      | some (.bl false) => some (.ok false, h2)
      | _ => none⟩
  | .and a b => ⟨fun S h => bd ((ev G Φ a).v S h) fun x h1 => match x with
      | .bl true => (ev G Φ b).v S h1
      | .bl false => some (.ok (.bl false), h1)
      | _ => none,
      fun S h => bd ((ev G Φ a).t S h) fun k h1 => if k = true then (ev G Φ b).t S h1 else some (.ok false, h1)⟩
  | .or a b => ⟨fun S h => bd ((ev G Φ a).v S h) fun x h1 => match x with
      | .bl true => some (.ok (.bl true), h1)
      | .bl false => (ev G Φ b).v S h1
      | _ => none,
      fun S h => bd ((ev G Φ a).t S h) fun k h1 => if k = true then some (.ok true, h1) else (ev G Φ b).t S h1⟩
  | .not a => ⟨fun S h => bd ((ev G Φ a).v S h) fun x h1 => match x with
      | .bl k => some (.ok (.bl (!k)), h1)
      | _ => none,
      fun S h => bd ((ev G Φ a).t S h) fun k h1 => some (.ok (!k), h1)⟩
  | .ite c a b => ⟨fun S h => bd ((ev G Φ c).t S h) fun k h1 => if k = true then (ev G Φ a).v S h1 else (ev G Φ b).v S h1, fun _ _ => none⟩
  | .tup es => vt (fun S h => bd (evA G Φ es S h) fun ds h1 => if ds.length ≤ sizeLine then some (.ok (.tup ds), h1) else none)
  | .lst es => vt (fun S h => bd (evA G Φ es S h) fun ds h1 => if ds.length ≤ sizeLine then some (.ok (.lst ds), h1) else none)
  | .dic0 => vt (fun _ h => some (.ok (.ref h.length), h ++ [.dic []]))
  | .crep c o y z => vt (fun S h => bd ((ev G Φ o).v S h) fun x h1 => match x with
      | .str x => if x.length + (x.length + 1) * z.length ≤ 16777216 ∧ c.length + (Txt.replace x y z).length ≤ sizeLine then some (.ok (.str (c ++ Txt.replace x y z)), h1) else none
      | _ => none)
  | .call0 x => vt (fun S h => match Φ x [] h with
      | some (.ok d, h2) => fix h d h2
      | _ => none)
  | .call x es => vt (fun S h => bd (evA G Φ es S h) fun ds h1 => bd (Φ x ds h1) fun d h2 => fix h d h2)
  | .make x es => vt (fun S h => none)
  | .bl1 x e => vt (fun S h => bd ((ev G Φ e).v S h) fun d h1 => pu (bltD h1 x [d]) h1)
  | .blt x es => vt (fun S h => bd (evA G Φ es S h) fun ds h1 => pu (bltD h1 x ds) h1)
  | .met1 a m e => vt (fun S h => bd (vv ((ev G Φ a).v) S h) fun x h1 => match x with
      | .str z => bd ((ev G Φ e).v S h1) fun d h2 => pu (mthD h2 z m d) h2
      | _ => none)
  | .meth a m es => vt (fun S h => bd (vv ((ev G Φ a).v) S h) fun x h1 => match x with
      | .ref n => match h1[n]? with
        | some (.lst _) => bd (evA G Φ es S h1) fun ds h2 => match mutD h2 n m ds with
          | some (d, h3) => some (.ok d, h3)
          | none => none
        | _ => none
      | _ => none)
  | .fld a f => vt (fun S h => none)
  | .ix a b => vt (fun S h => bd ((ev G Φ a).v S h) fun x h1 => bd ((ev G Φ b).v S h1) fun y h2 => pu (ixD h2 x y) h2)
  | .slc a lo hi => vt (fun S h => bd ((ev G Φ a).v S h) fun x h1 => bd (evO G Φ lo S h1) fun l h2 => bd (evO G Φ hi S h2) fun u h3 => pu (slcD h3 x l u) h3)
  | .lc elt tg it c own => vt (fun S h => bd (evI G Φ it S h) fun s h1 => if s.items.length ≤ sizeLine then
      match lcGo s.stay (fun x h => match bindT h tg x (wipeS S own) with
        | none => none
        | some S1 => match evC G Φ c S1 h with
          | some (.ok true, h2) => (bd (vv ((ev G Φ elt).v) S1 h2) fun d h3 => some (.ok (some d), h3))
          | some (.ok false, h2) => some (.ok none, h2)
          | _ => none) s.items h1 with
      | some (ys, h2) => some (.ok (.lst ys), h2)
      | none => none
    else none)
  | .fmt ps => vt (fun S h => bd (evF G Φ ps Str.empty S h) fun x h1 => some (.ok (.str x), h1))
  | .fv a => vt (fun S h => bd ((ev G Φ a).v S h) fun x h1 => match x with
      | .str y => if y.length ≤ sizeLine then some (.ok (.str y), h1) else none
      | .int i => if i.natAbs.log2 < 1920 then some (.ok (.str (toString i)), h1) else none
      | _ => none)
  | .bad => ⟨fun _ _ => none, fun _ _ => none⟩
  | .fldc a f cs => vt (fun S h => bd ((ev G Φ a).v S h) fun x h1 => match x with
      | .ref n => match h1[n]? with
        | some (.ins C fs) => if C ∈ cs then pu (fs.lookup f) h1 else none
        | _ => none
      | _ => none)
  | .omth a C m q es => vt (fun S h => bd ((ev G Φ a).v S h) fun x h1 => match x with
      | .ref n => match h1[n]? with
        | some (.ins B fs) => if B = C ∧ fs.lookup m = none then bd (evA G Φ es S h1) fun ds h2 => (match Φ q (.ref n :: ds) h2 with
          | some (.ok d, h3) => fix h d h3
          | _ => none) else none
        | _ => none
      | _ => none)
  | .mk C q es => vt (fun S h => bd (evA G Φ es S h) fun ds h1 => match Φ q (.ref h1.length :: ds) (h1 ++ [.ins C []]) with
      | some (.ok .non, h2) => some (.ok (.ref h1.length), h2)
      | _ => none)
  | .lset a => vt (fun S h => bd ((ev G Φ a).v S h) fun x h1 => pu (lsetD h1 x) h1)
  | .revl a => vt (fun S h => bd ((ev G Φ a).v S h) fun x h1 => pu (revD h1 x) h1)
  | .isiT a ts => vt (fun S h => bd ((ev G Φ a).v S h) fun x h1 => pu (isiTD h1 x ts) h1)
  | .isiC a C => vt (fun S h => bd ((ev G Φ a).v S h) fun x h1 => match x with
      | .ref n => match h1[n]? with
        | some (.ins B fs) => if B = C then some (.ok (.bl true), h1) else none
        | _ => none
      | _ => none)
  | .clr a => vt (fun S h => bd (vv ((ev G Φ a).v) S h) fun x h1 => match x with
      | .ref n => match h1[n]? with
        | some (.lst _) => some (.ok .non, h1.set n (.lst []))
        | _ => none
      | _ => none)
  | .kix a b => vt (fun S h => bd ((ev G Φ a).v S h) fun x h1 => bd ((ev G Φ b).v S h1) fun y h2 => match dgetD h2 x y with
      | some (some d) => some (.ok d, h2)
      | some none => none
      | none => pu (ixD h2 x y) h2)
  | .kin neg a b => ⟨fun S h => bd ((ev G Φ a).v S h) fun x h1 => bd ((ev G Φ b).v S h1) fun y h2 => match dgetD h2 y x with
      | some o => some (.ok (.bl (if neg = true then !o.isSome else o.isSome)), h2)
      | none => pu (cmpD h2 (if neg = true then .NotIn else .In) x y) h2, fun S h => bd ((ev G Φ a).v S h) fun x h1 => bd ((ev G Φ b).v S h1) fun y h2 => match dgetD h2 y x with
      | some o => some (.ok (if neg = true then !o.isSome else o.isSome), h2)
      | none => match cmpD h2 (if neg = true then .NotIn else .In) x y with
        | some (.bl k) => some (.ok k, h2)
        | _ => none⟩
  | .kget1 a b => vt (fun S h => bd ((ev G Φ a).v S h) fun x h1 => match dicD h1 x with
      | some _ => bd ((ev G Φ b).v S h1) fun y h2 => match dgetD h2 x y with
        | some o => some (.ok (o.getD .non), h2)
        | none => none
      | none => none)
  | .kget2 a b c => vt (fun S h => bd ((ev G Φ a).v S h) fun x h1 => match dicD h1 x with
      | some _ => bd ((ev G Φ b).v S h1) fun y h2 => bd (vv ((ev G Φ c).v) S h2) fun z h3 => match dgetD h3 x y with
        | some o => some (.ok (o.getD z), h3)
        | none => none
      | none => none)
  | .kdis ks es => vt (fun S h => bd (evA G Φ es S h) fun ds h1 => some (.ok (.ref h1.length), h1 ++ [.dic (mergeKD [] ((ks.map Sum.inr).zip ds))]))
  | .kdc kx vx tg it c own => vt (fun S h => bd (evI G Φ it S h) fun s h1 => if s.items.length ≤ sizeLine then
      match dcGo s.stay (fun x h => match bindT h tg x (wipeS S own) with
        | none => none
        | some S1 => match evC G Φ c S1 h with
          | some (.ok true, h2) => (bd ((ev G Φ kx).v S1 h2) fun y h3 => match keyD y with
            | some k => bd (vv ((ev G Φ vx).v) S1 h3) fun d h4 => some (.ok (some (k, d)), h4)
            | none => none)
          | some (.ok false, h2) => some (.ok none, h2)
          | _ => none) s.items h1 [] with
      | some (ys, h2) => some (.ok (.ref h2.length), h2 ++ [.dic ys])
      | none => none
    else none)
  | .kpr a => vt (fun S h => bd ((ev G Φ a).v S h) fun x h1 => match lsD h1 x with
      | some xs => match pairsD xs with
        | some ps => some (.ok (.ref h1.length), h1 ++ [.dic (mergeKD [] ps)])
        | none => none
      | none => none)
  | .kcp a => vt (fun S h => bd ((ev G Φ a).v S h) fun x h1 => match dicD h1 x with
      | some kvs => some (.ok (.ref h1.length), h1 ++ [.dic kvs])
      | none => none)
  | .kls a => vt (fun S h => bd ((ev G Φ a).v S h) fun x h1 => match dicD h1 x with
      | some kvs => some (.ok (.lst (kvs.map fun kv => kD kv.1)), h1)
      | none => none)
  | .gin neg a x kvs => ⟨fun S h => bd ((ev G Φ a).v S h) fun y h1 => match y with
      | .str z => some (.ok (.bl (if neg = true then !(kvs.lookup z).isSome else (kvs.lookup z).isSome)), h1)
      | _ => none, fun S h => bd ((ev G Φ a).v S h) fun y h1 => match y with
      | .str z => some (.ok (if neg = true then !(kvs.lookup z).isSome else (kvs.lookup z).isSome), h1)
      | _ => none⟩
  | .gix x kvs b => vt (fun S h => bd ((ev G Φ b).v S h) fun y h1 => match y with
      | .str z => match kvs.lookup z with
        | some g => some (.ok g.d, h1)
        | none => none
      | _ => none)
  | .ktv a => vt (fun S h => bd ((ev G Φ a).v S h) fun x h1 => match dicD h1 x with
      | some kvs => some (.ok (.tup (kvs.map (·.2))), h1)
      | none => none)
  | .lcd elt tg src c own => vt (fun S h => match lockD (ev G Φ src).v S h with
      | some (n, kvs) => match lcGo [] (fun x h => match bindT h tg x (wipeS S own) with
          | none => none
          | some S1 => match evC G Φ c S1 h with
            | some (.ok true, h2) => (bd (vv ((ev G Φ elt).v) S1 h2) fun d h3 => some (.ok (some d), h3))
            | some (.ok false, h2) => some (.ok none, h2)
            | _ => none) (kvs.map fun kv => kD kv.1) (h.set n (.fdc kvs)) with
        | some (ys, h2) => some (.ok (.lst ys), h2.set n (.dic kvs))
        | none => none
      | none => none)
noncomputable def evA (G : List (Str × D)) (Φ : CallF) : EL → Sl → Hh → M (List D)
  | .nil => fun _ h => some (.ok [], h)
  | .cons false e es => fun S h => bd (vv ((ev G Φ e).v) S h) fun d h1 => bd (evA G Φ es S h1) fun ds h2 => some (.ok (d :: ds), h2)
  | .cons true e es => fun S h => bd ((ev G Φ e).v S h) fun x h1 => match sqD h1 x with
      | some xs => bd (evA G Φ es S h1) fun ds h2 => some (.ok (xs ++ ds), h2)
      | none => none
noncomputable def evO (G : List (Str × D)) (Φ : CallF) : EO → Sl → Hh → M (Option Int)
  | .no => fun _ h => some (.ok none, h)
  | .yes e => fun S h => bd ((ev G Φ e).v S h) fun x h1 => match x with
      | .int i => some (.ok (some i), h1)
      | _ => none
noncomputable def evC (G : List (Str × D)) (Φ : CallF) : EO → Sl → Hh → M Bool
  | .no => fun _ h => some (.ok true, h)
  | .yes e => fun S h => (ev G Φ e).t S h
noncomputable def evF (G : List (Str × D)) (Φ : CallF) : EL → Str → Sl → Hh → M Str
  | .nil => fun acc _ h => some (.ok acc, h)
  | .cons st e es => fun acc S h => bd ((ev G Φ e).v S h) fun x h1 => match x with
      | .str y => if (acc ++ y).length ≤ sizeLine then evF G Φ es (acc ++ y) S h1 else none
      | _ => none
noncomputable def evI (G : List (Str × D)) (Φ : CallF) : It → Sl → Hh → M Src
  | .sq e => fun S h => bd ((ev G Φ e).v S h) fun x h1 => match x with
      | .str z => some (.ok ⟨strItems z, []⟩, h1)
      | x => match sqD h1 x with
        | some xs => some (.ok ⟨xs, stayOf x xs⟩, h1)
        | none => none
  | .r1 a => fun S h => bd ((ev G Φ a).v S h) fun x h1 => match x with
      | .int j => if -(2 ^ 62) ≤ j ∧ j < 2 ^ 62 then some (.ok ⟨rngItems 0 j.toNat, []⟩, h1) else none
      | _ => none
  | .r2 a b => fun S h => bd ((ev G Φ a).v S h) fun x h1 => bd ((ev G Φ b).v S h1) fun y h2 => match x, y with
      | .int i, .int j => if -(2 ^ 62) ≤ i ∧ i < 2 ^ 62 ∧ -(2 ^ 62) ≤ j ∧ j < 2 ^ 62 then some (.ok ⟨rngItems i (j - i).toNat, []⟩, h2) else none
      | _, _ => none
  | .en e => fun S h => bd ((ev G Φ e).v S h) fun x h1 => match lsD h1 x with
      | some xs => some (.ok ⟨enItems 0 xs, stayOf x xs⟩, h1)
      | none => none
  | .zp a b => fun S h => bd ((ev G Φ a).v S h) fun x h1 => bd ((ev G Φ b).v S h1) fun y h2 => pu (zpD h2 x y) h2
end
noncomputable abbrev evE (G : List (Str × D)) (Φ : CallF) (e : E) : EF := (ev G Φ e).v
noncomputable abbrev evT (G : List (Str × D)) (Φ : CallF) (e : E) : TF := (ev G Φ e).t

/-! ### the programs' texts -/
structure Sc where
  N : List Str
  sc : Scope
  blk : Option Scope
structure Gs where
  glob : List (Str × D)
  blt : List Str
  fns : List (Str × Nat)
  noat : List (Str × Str) := []
  mets : List (Str × Str × Str × Nat) := []
  mks : List (Str × Str × Nat) := []
  isc : List Str := []
  gdic : List (Str × List (Str × Gv)) := []
def visB (sc : Scope) (x : Str) : Bool := match sc.names.lookup x with
  | some .local => true | some .cell => true | some .free => true
  | _ => false
def glB (sc : Scope) (x : Str) : Bool := match sc.names.lookup x with
  | some .globalImplicit => true
  | _ => false
def locB (sc : Scope) (x : Str) : Bool := match sc.names.lookup x with
  | some .local => true | some .cell => true
  | _ => false
def stoB (Γ : Sc) (x : Str) : Bool := match Γ.blk with
  | none => locB Γ.sc x
  | some b => locB b x && locB Γ.sc x
def okName (x : Str) : Bool := !(x == ("__debug__" : Str)) && !(x == ("__classdict__" : Str)) && !(x == ("__name__" : Str))
def nsup : Expr → Bool
  | .Call (.Name _ _) [] [] _ => false
  | _ => true
def nsl : Expr → Bool
  | .Slice _ _ _ _ => false
  | _ => true
def Γin (Γ : Sc) (scope : Scope) : Sc := ⟨Γ.N, relS scope Γ.sc, some scope⟩
def ownOf (N : List Str) (own : List Nat) : List (Str × Nat) := own.map fun i => (N.getD i Str.empty, i)
def nostar : EL → Bool
  | .nil => true
  | .cons st _ es => !st && nostar es
def tysB (K : Gs) (Γ : Sc) : List String → List Expr → Bool
  | [], [] => true
  | t :: ts, .Name y _ :: ys => decide (y = Str.ofString t) && glB Γ.sc y && okName y && decide (y ∈ K.blt) && decide (t ∈ ["int", "bool", "str", "list", "tuple", "dict"]) && tysB K Γ ts ys
  | _, _ => false
/-- a display's keys: written texts -/
def keysB : List Str → List (Option Expr) → Bool
  | [], [] => true
  | k :: ks, some (.Constant (.str x) _ _) :: r => decide (k = x) && keysB ks r
  | _, _ => false
def tyNames : List String := ["int", "bool", "str", "list", "tuple", "dict"]
mutual
def tgIx : Tg → List Nat
  | .nm i => [i]
  | .tp l => tgIxs l
def tgIxs : TL → List Nat
  | .nil => []
  | .cons t l => tgIx t ++ tgIxs l
end
mutual
def chkE (K : Gs) (Γ : Sc) (e : E) (ex : Expr) : Bool := match e with
  | .var i => match ex with
    | .Name x _ => decide (Γ.N[i]? = some x) && visB Γ.sc x && okName x
    | _ => false
  | .int i => match ex with
    | .Constant (.int j) _ _ => decide (i = j)
    | _ => false
  | .str i => match ex with
    | .Constant (.str j) _ _ => decide (i = j)
    | _ => false
  | .bl i => match ex with
    | .Constant (.bool j) _ _ => decide (i = j)
    | _ => false
  | .non => match ex with
    | .Constant .none _ _ => true
    | _ => false
  | .glob x => match ex with
    | .Name y _ => decide (x = y) && glB Γ.sc x && (K.glob.lookup x).isSome && okName x
    | _ => false
  | .typ x t => match ex with
    | .Name y _ => decide (x = y) && glB Γ.sc x && decide (x ∈ K.blt) && decide (x = Str.ofString t) && okName x && decide (t ∈ tyNames)
    | _ => false
  | .bin op a b => match ex with
    | .BinOp x o y _ => decide (op = o) && chkE K Γ a x && chkE K Γ b y
    | _ => false
  | .neg a => match ex with
    | .UnaryOp .USub x _ => chkE K Γ a x
    | _ => false
  | .cmp op a b => match ex with
    | .Compare x [o] [y] _ => decide (op = o) && chkE K Γ a x && chkE K Γ b y
    | _ => false
  | .chn o p a b c => match ex with
    | .Compare x [o', p'] [y, z] _ => decide (o = o') && decide (p = p') && decide (o ≠ .In) && decide (o ≠ .NotIn) && decide (p ≠ .In) && decide (p ≠ .NotIn) && chkE K Γ a x && chkE K Γ b y && chkE K Γ c z
    | _ => false
  | .and a b => match ex with
    | .BoolOp .And (x :: y :: r) pos => chkE K Γ a x && (match r with | [] => chkE K Γ b y | _ => chkE K Γ b (.BoolOp .And (y :: r) pos))
    | _ => false
  | .or a b => match ex with
    | .BoolOp .Or (x :: y :: r) pos => chkE K Γ a x && (match r with | [] => chkE K Γ b y | _ => chkE K Γ b (.BoolOp .Or (y :: r) pos))
    | _ => false
  | .not a => match ex with
    | .UnaryOp .Not x _ => chkE K Γ a x
    | _ => false
  | .ite c a b => match ex with
    | .IfExp z x y _ => chkE K Γ c z && chkE K Γ a x && chkE K Γ b y
    | _ => false
  | .tup es => match ex with
    | .Tuple xs _ _ => chkL K Γ es xs
    | _ => false
  | .lst es => match ex with
    | .List xs _ => chkL K Γ es xs
    | _ => false
  | .dic0 => match ex with
    | .Dict [] [] _ => true
    | _ => false
  | .crep c o y z => match ex with
    | .BinOp (.Constant (.str c') _ _) .Add (.Call (.Attribute x m apos) [.Constant (.str y') _ _, .Constant (.str z') _ _] [] pos) _ =>
      decide (c = c') && decide (y = y') && decide (z = z') && decide (m = "replace") && !(y == z) && (apos.endLine == pos.line) && nsup x && chkE K Γ o x
    | _ => false
  | .call0 x => match ex with
    | .Call (.Name y _) [] [] _ => decide (x = y) && glB Γ.sc x && okName x && decide (K.fns.lookup x = some 0)
    | _ => false
  | .call x es => match ex with
    | .Call (.Name y _) (z :: zs) [] _ => decide (x = y) && glB Γ.sc x && okName x && decide (K.fns.lookup x = some (zs.length + 1)) && nostar es && chkL K Γ es (z :: zs)
    | _ => false
  | .make _ _ => false
  | .blt x es => match ex with
    | .Call (.Name y _) (z :: zs) [] _ => decide (y = x.nm) && glB Γ.sc y && okName y && decide (y ∈ K.blt) && !x.one && nostar es && chkL K Γ es (z :: zs)
    | _ => false
  | .bl1 x e => match ex with
    | .Call (.Name y _) [z] [] _ => decide (y = x.nm) && glB Γ.sc y && okName y && decide (y ∈ K.blt) && x.one && chkE K Γ e z
    | _ => false
  | .met1 a m e => match ex with
    | .Call (.Attribute o n apos) [z] [] pos => decide (n = m.nm) && (apos.endLine == pos.line) && nsup o && chkE K Γ a o && chkE K Γ e z
    | _ => false
  | .meth a m es => match ex with
    | .Call (.Attribute o n apos) [z] [] pos => decide (n = m.nm) && (apos.endLine == pos.line) && nsup o && nostar es && chkE K Γ a o && chkL K Γ es [z]
    | _ => false
  | .fld _ _ => false
  | .ix a b => match ex with
    | .Subscript x y _ => nsl y && chkE K Γ a x && chkE K Γ b y
    | _ => false
  | .slc a lo hi => match ex with
    | .Subscript x (.Slice l u none _) _ => chkE K Γ a x && chkO K Γ lo l && chkO K Γ hi u
    | _ => false
  | .lc elt tg it c own => match ex with
    | .ListComp y [⟨t, i, ifs, 0⟩] scope _ => blkC Γ.N Γ.sc scope (ownOf Γ.N own) && (tgIx tg).all (fun i => own.contains i) && chkI K Γ it t i && chkG (Γin Γ scope) tg t && chkC K (Γin Γ scope) c ifs && chkE K (Γin Γ scope) elt y
    | _ => false
  | .fmt ps => match ex with
    | .JoinedStr (x :: y :: r) _ => nostar ps && chkL K Γ ps (x :: y :: r)
    | _ => false
  | .fv a => match ex with
    | .FormattedValue x c none _ => decide (c = -1) && chkE K Γ a x
    | _ => false
  | .bad => match ex with
    | .Starred _ _ => false
    | .Set _ _ _ => false
    | .ListComp _ _ _ _ => false
    | _ => true
  | .fldc a f cs => match ex with
    | .Attribute x y _ => decide (y = f) && nsup x && cs.all (fun C => decide ((C, f) ∈ K.noat)) && chkE K Γ a x
    | _ => false
  | .omth a C m q es => match ex with
    | .Call (.Attribute o n apos) zs [] pos => decide (n = m) && (apos.endLine == pos.line) && nsup o && nostar es && decide ((C, m, q, zs.length + 1) ∈ K.mets) && decide (zs.length < 30) && chkE K Γ a o && chkL K Γ es zs
    | _ => false
  | .mk C q es => match ex with
    | .Call (.Name y _) zs [] _ => decide (y = C) && glB Γ.sc y && okName y && decide ((C, q, zs.length + 1) ∈ K.mks) && nostar es && chkL K Γ es zs
    | _ => false
  | .lset a => match ex with
    | .Call (.Name y _) [.Call (.Name z _) [x] [] _] [] _ => decide (y = "len") && decide (z = "set") && glB Γ.sc y && glB Γ.sc z && decide (y ∈ K.blt) && decide (z ∈ K.blt) && chkE K Γ a x
    | _ => false
  | .revl a => match ex with
    | .Subscript x (.Slice none none (some (.UnaryOp .USub (.Constant (.int 1) _ _) _)) _) _ => chkE K Γ a x
    | _ => false
  | .isiT a ts => match ex with
    | .Call (.Name y _) [x, .Tuple ys _ _] [] _ => decide (y = "isinstance") && glB Γ.sc y && okName y && decide (y ∈ K.blt) && tysB K Γ ts ys && decide (ts.length ≤ 10) && chkE K Γ a x
    | _ => false
  | .isiC a C => match ex with
    | .Call (.Name y _) [x, .Name z _] [] _ => decide (y = "isinstance") && decide (z = C) && glB Γ.sc y && okName y && decide (y ∈ K.blt) && glB Γ.sc z && okName z && decide (C ∈ K.isc) && chkE K Γ a x
    | _ => false
  | .clr a => match ex with
    | .Call (.Attribute o n apos) [] [] pos => decide (n = "clear") && (apos.endLine == pos.line) && nsup o && chkE K Γ a o
    | _ => false
  | .kix a b => match ex with
    | .Subscript x y _ => nsl y && chkE K Γ a x && chkE K Γ b y
    | _ => false
  | .kin neg a b => match ex with
    | .Compare x [o] [y] _ => decide (o = if neg = true then .NotIn else .In) && chkE K Γ a x && chkE K Γ b y
    | _ => false
  | .kget1 a b => match ex with
    | .Call (.Attribute o n apos) [x] [] pos => decide (n = "get") && (apos.endLine == pos.line) && nsup o && chkE K Γ a o && chkE K Γ b x
    | _ => false
  | .kget2 a b c => match ex with
    | .Call (.Attribute o n apos) [x, y] [] pos => decide (n = "get") && (apos.endLine == pos.line) && nsup o && chkE K Γ a o && chkE K Γ b x && chkE K Γ c y
    | _ => false
  | .kdis ks es => match ex with
    | .Dict keys values _ => keysB ks keys && decide (ks.length = values.length) && decide (ks.length ≤ 15) && !ks.isEmpty && nostar es && chkL K Γ es values
    | _ => false
  | .kdc kx vx tg it c own => match ex with
    | .DictComp x y [⟨t, i, ifs, 0⟩] scope _ => blkC Γ.N Γ.sc scope (ownOf Γ.N own) && (tgIx tg).all (fun i => own.contains i) && chkI K Γ it t i && chkG (Γin Γ scope) tg t && chkC K (Γin Γ scope) c ifs && chkE K (Γin Γ scope) kx x && chkE K (Γin Γ scope) vx y
    | _ => false
  | .kpr a => match ex with
    | .Call (.Name y _) [x] [] _ => decide (y = "dict") && glB Γ.sc y && okName y && decide (y ∈ K.blt) && chkE K Γ a x
    | _ => false
  | .kcp a => match ex with
    | .Call (.Name y _) [x] [] _ => decide (y = "dict") && glB Γ.sc y && okName y && decide (y ∈ K.blt) && chkE K Γ a x
    | _ => false
  | .kls a => match ex with
    | .Call (.Name y _) [x] [] _ => decide (y = "list") && glB Γ.sc y && okName y && decide (y ∈ K.blt) && chkE K Γ a x
    | _ => false
  | .gin neg a x kvs => match ex with
    | .Compare e [o] [.Name y _] _ => decide (o = if neg = true then .NotIn else .In) && decide (x = y) && glB Γ.sc x && okName x && decide ((x, kvs) ∈ K.gdic) && chkE K Γ a e
    | _ => false
  | .gix x kvs b => match ex with
    | .Subscript (.Name y _) e _ => decide (x = y) && glB Γ.sc x && okName x && decide ((x, kvs) ∈ K.gdic) && nsl e && chkE K Γ b e
    | _ => false
  | .ktv a => match ex with
    | .Call (.Name y _) [.Call (.Attribute o n apos) [] [] mpos] [] _ => decide (y = "tuple") && decide (n = "values") && (apos.endLine == mpos.line) && nsup o && glB Γ.sc y && decide (y ∈ K.blt) && chkE K Γ a o
    | _ => false
  | .lcd elt tg src c own => match ex with
    | .ListComp y [⟨t, i, ifs, 0⟩] scope _ => blkC Γ.N Γ.sc scope (ownOf Γ.N own) && (tgIx tg).all (fun i => own.contains i) && chkE K Γ src i && chkG (Γin Γ scope) tg t && chkC K (Γin Γ scope) c ifs && chkE K (Γin Γ scope) elt y
    | _ => false
def chkO (K : Gs) (Γ : Sc) (e : EO) (ex : Option Expr) : Bool := match e with
  | .no => ex.isNone
  | .yes e => match ex with
    | some x => chkE K Γ e x
    | none => false
def chkC (K : Gs) (Γ : Sc) (e : EO) (ex : List Expr) : Bool := match e with
  | .no => ex.isEmpty
  | .yes e => match ex with
    | [x] => chkE K Γ e x
    | _ => false
def chkL (K : Gs) (Γ : Sc) (e : EL) (ex : List Expr) : Bool := match e with
  | .nil => ex.isEmpty
  | .cons st e es => match ex with
    | x :: xs => (if st = true then (match x with | .Starred y _ => chkE K Γ e y | _ => false) else chkE K Γ e x) && chkL K Γ es xs
    | [] => false
def chkI (K : Gs) (Γ : Sc) (i : It) (t ex : Expr) : Bool := match i with
  | .sq e => chkE K Γ e ex
  | .r1 a => match ex with
    | .Call (.Name y _) [x] [] _ => decide (y = "range") && glB Γ.sc y && decide (y ∈ K.blt) && chkE K Γ a x
    | _ => false
  | .r2 a b => match ex with
    | .Call (.Name y _) [x, z] [] _ => decide (y = "range") && glB Γ.sc y && decide (y ∈ K.blt) && chkE K Γ a x && chkE K Γ b z
    | _ => false
  | .en a => match t, ex with
    | .Tuple _ _ _, .Call (.Name y _) [x] [] _ => decide (y = "enumerate") && glB Γ.sc y && decide (y ∈ K.blt) && chkE K Γ a x
    | _, _ => false
  | .zp a b => match t, ex with
    | .Tuple _ _ _, .Call (.Name y _) [x, z] [] _ => decide (y = "zip") && glB Γ.sc y && decide (y ∈ K.blt) && chkE K Γ a x && chkE K Γ b z
    | _, _ => false
def chkG (Γ : Sc) (t : Tg) (ex : Expr) : Bool := match t with
  | .nm i => match ex with
    | .Name x _ => decide (Γ.N[i]? = some x) && stoB Γ x
    | _ => false
  | .tp l => match ex with
    | .Tuple xs _ _ => chkGL Γ l xs
    | _ => false
def chkGL (Γ : Sc) (t : TL) (ex : List Expr) : Bool := match t with
  | .nil => ex.isEmpty
  | .cons t l => match ex with
    | x :: xs => chkG Γ t x && chkGL Γ l xs
    | [] => false
end

/-! ### statements -/
mutual
inductive S where
  | ex (e : E) | set (i : Nat) (e : E) | asg (t : TL) (e : E) | aug (i : Nat) (op : Operator) (e : E)
  | ret (e : E) | retn | ife (c : E) (a b : SL) | fo (t : Tg) (it : It) (b : SL) | wh (c : E) (b : SL) | pas | brk | cnt
  | bad | fst (a : E) (f : Str) (cs : List Str) (e : E) | faug (a : E) (f : Str) (cs : List Str) (op : Operator) (e : E)
  | par (i j : Nat) (es : EL)
  | tr (b : SL)
  | kput (a b e : E)
inductive SL where
  | nil | cons (s : S) (l : SL)
end
/-- how a block ends -/
inductive Fw where
  | nx (S : Sl) | rt (d : D) | bk (S : Sl) | ct (S : Sl) | xx (C : Str) (fs : List (Str × D)) (S : Sl)
abbrev BM := Option (Fw × Hh)
/-- a part's value, then a statement's end -/
def bs {α : Type} (r : M α) (S : Sl) (k : α → Hh → BM) : BM := match r with
  | none => none
  | some (.ok a, h) => k a h
  | some (.ex C fs, h) => some (.xx C fs S, h)
/-- a block behind a block -/
def bq (r : BM) (k : Sl → Hh → BM) : BM := match r with
  | none => none
  | some (.nx S, h) => k S h
  | some (w, h) => some (w, h)
open Classical in
/-- a loop's turns -/
noncomputable def foGo (st : List (Nat × List D)) (t : Tg) (b : Sl → Hh → BM) : List D → Sl → Hh → BM
  | [], S, h => if stayB h st then some (.nx S, h) else none
  | x :: xs, S, h => if stayB h st then match bindT h t x S with
      | none => none
      | some S1 => match b S1 h with
        | none => none
        | some (.nx S2, h1) => foGo st t b xs S2 h1
        | some (.ct S2, h1) => foGo st t b xs S2 h1
        | some (.bk S2, h1) => some (.nx S2, h1)
        | some (w, h1) => some (w, h1)
    else none
def whGo (c : TF) (b : Sl → Hh → BM) : Nat → Sl → Hh → BM
  | 0, _, _ => none
  | n + 1, S, h => bs (c S h) S fun k h1 => if k = true then match b S h1 with
      | none => none
      | some (.nx S2, h2) => whGo c b n S2 h2
      | some (.ct S2, h2) => whGo c b n S2 h2
      | some (.bk S2, h2) => some (.nx S2, h2)
      | some (w, h2) => some (w, h2)
    else some (.nx S, h1)
/-- a field, stored -/
def putD (f : Str) (d : D) : List (Str × D) → List (Str × D)
  | [] => [(f, d)]
  | (g, x) :: r => if g = f then (g, d) :: r else (g, x) :: putD f d r
def augD (h : Hh) (op : Operator) (x y : D) : Option D := match op, x, y with
  | .Add, .int i, .int j => some (.int (i + j))
  | .Add, .str i, .str j => if i.length + j.length ≤ sizeLine then some (.str (i ++ j)) else none
  | .Sub, .int i, .int j => some (.int (i - j))
  | _, _, _ => none
mutual
noncomputable def evS (G : List (Str × D)) (Φ : CallF) : S → Sl → Hh → BM
  | .ex e => fun S h => bs (evE G Φ e S h) S fun _ h1 => some (.nx S, h1)
  | .set i e => fun S h => bs (vv (evE G Φ e) S h) S fun d h1 => some (.nx (S.set i (some d)), h1)
  | .asg t e => fun S h => bs (vv (evE G Φ e) S h) S fun d h1 => match bindT h1 (.tp t) d S with
      | some S1 => some (.nx S1, h1)
      | none => none
  | .aug i op e => fun S h => match getS S i with
      | none => none
      | some x => bs (evE G Φ e S h) S fun y h1 => match augD h1 op x y with
        | some d => some (.nx (S.set i (some d)), h1)
        | none => none
  | .ret e => fun S h => bs (evE G Φ e S h) S fun d h1 => some (.rt d, h1)
  | .retn => fun _ h => some (.rt .non, h)
  | .ife c a b => fun S h => bs (evT G Φ c S h) S fun k h1 => if k = true then evB G Φ a S h1 else evB G Φ b S h1
  | .fo t it b => fun S h => bs (evI G Φ it S h) S fun s h1 => foGo s.stay t (evB G Φ b) s.items S h1
  | .wh c b => fun S h => whGo (evT G Φ c) (evB G Φ b) 1000000 S h
  | .pas => fun S h => some (.nx S, h)
  | .brk => fun S h => some (.bk S, h)
  | .cnt => fun S h => some (.ct S, h)
  | .bad => fun _ _ => none
  | .fst a f cs e => fun S h => bs (vv (evE G Φ e) S h) S fun y h1 => bs (evE G Φ a S h1) S fun x h2 => match x with
      | .ref n => match h2[n]? with
        | some (.ins C fs) => if C ∈ cs ∧ fs.length < 1000 then some (.nx S, h2.set n (.ins C (putD f y fs))) else none
        | _ => none
      | _ => none
  | .faug a f cs op e => fun S h => bs (evE G Φ a S h) S fun x h1 => match x with
      | .ref n => match h1[n]? with
        | some (.ins C fs) => if C ∈ cs then match fs.lookup f with
          | some u => bs (evE G Φ e S h1) S fun y h2 => match augD h2 op u y with
            | some z => match h2[n]? with
              | some (.ins C' fs') => if C' = C ∧ fs'.length < 1000 then some (.nx S, h2.set n (.ins C' (putD f z fs'))) else none
              | _ => none
            | none => none
          | none => none
          else none
        | _ => none
      | _ => none
  | .par i j es => fun S h => bs (evA G Φ es S h) S fun ds h1 => match ds with
      | [x, y] => some (.nx ((S.set i (some x)).set j (some y)), h1)
      | _ => none
  | .tr b => fun S h => match evB G Φ b S h with
      | some (.xx _ _ _, _) => none
      | r => r
  | .kput a b e => fun S h => bs (vv (evE G Φ e) S h) S fun d h1 => bs (evE G Φ a S h1) S fun x h2 => bs (evE G Φ b S h2) S fun y h3 => match x with
      | .ref n => match h3[n]? with
        | some (.dic kvs) => match keyD y with
          | some k => if kvs.length < sizeLine then some (.nx S, h3.set n (.dic (putKD kvs k d))) else none
          | none => none
        | _ => none
      | _ => none
noncomputable def evB (G : List (Str × D)) (Φ : CallF) : SL → Sl → Hh → BM
  | .nil => fun S h => some (.nx S, h)
  | .cons s l => fun S h => bq (evS G Φ s S h) fun S1 h1 => evB G Φ l S1 h1
end
/-- a def: its parameters' number, its names' number, its body -/
structure Df where
  ps : Nat
  ns : Nat
  body : SL
/-- calls, k deep -/
noncomputable def calls (G : List (Str × D)) (T : Str → Option Df) : Nat → CallF
  | 0 => fun _ _ _ => none
  | k + 1 => fun x ds h => match T x with
    | none => none
    | some f => if ds.length = f.ps then match evB G (calls G T k) f.body (ds.map some ++ List.replicate (f.ns - f.ps) none) h with
        | some (.nx _, h1) => some (.ok .non, h1)
        | some (.rt d, h1) => some (.ok d, h1)
        | some (.xx C fs _, h1) => some (.ex C fs, h1)
        | _ => none
      else none
/-! ### the statements' texts -/
def nocomp : Expr → Bool
  | .ListComp _ _ _ _ | .SetComp _ _ _ _ | .DictComp _ _ _ _ _ => false
  | _ => true
def notup : Expr → Bool
  | .Tuple _ _ _ => false
  | _ => true
def augOp : Operator → Bool
  | .Add | .Sub => true
  | _ => false
def notLcd : E → Bool
  | .lcd _ _ _ _ _ => false
  | _ => true
def setOk (Γ : Sc) (x : Str) (p : Pos) (ex : Expr) : Bool := decide (Γ.sc.names.lookup x = some .cell) || match ex with
  | .ListComp _ _ scope pos => decide (Γ.sc.names.lookup x = some .local) && (p.line == pos.line) && !(scope.names.any fun (n, k) => n == x && (k == .local || k == .cell))
  | _ => nocomp ex
def isStar : Expr → Bool
  | .Starred _ _ => true
  | _ => false
mutual
def chkS (K : Gs) (Γ : Sc) (s : S) (st : Stmt) : Bool := match s with
  | .ex e => match st with
    | .Expr x _ => nocomp x && chkE K Γ e x
    | _ => false
  | .set i e => match st with
    | .Assign [.Name y p] x _ => decide (Γ.N[i]? = some y) && stoB Γ y && setOk Γ y p x && chkE K Γ e x && (decide (Γ.sc.names.lookup y = some .cell) || notLcd e)
    | _ => false
  | .asg t e => match st with
    | .Assign [.Tuple ts k p] x _ => notup x && chkGL Γ t ts && chkE K Γ e x
    | _ => false
  | .aug i op e => match st with
    | .AugAssign (.Name y _) o x _ => decide (Γ.N[i]? = some y) && stoB Γ y && decide (op = o) && augOp op && chkE K Γ e x
    | _ => false
  | .ret e => match st with
    | .Return (some x) _ => chkE K Γ e x
    | _ => false
  | .retn => match st with
    | .Return none _ => true
    | _ => false
  | .ife c a b => match st with
    | .If x as bs _ => chkE K Γ c x && chkB K Γ a as && chkB K Γ b bs
    | _ => false
  | .fo t it b => match st with
    | .For tg i body [] _ => chkI K Γ it tg i && chkG Γ t tg && chkB K Γ b body
    | _ => false
  | .wh c b => match st with
    | .While x body [] _ => chkE K Γ c x && chkB K Γ b body
    | _ => false
  | .pas => match st with
    | .Pass _ => true
    | _ => false
  | .brk => match st with
    | .Break _ => true
    | _ => false
  | .cnt => match st with
    | .Continue _ => true
    | _ => false
  | .bad => true
  | .par i j es => match st with
    | .Assign [.Tuple [.Name x px, .Name y py] _ _] (.Tuple [a, b] _ _) _ => decide (Γ.N[i]? = some x) && decide (Γ.N[j]? = some y) && decide (i ≠ j) && decide (Γ.sc.names.lookup x = some .local) && decide (Γ.sc.names.lookup y = some .local) && (py.line == px.line) && !(x == y)
      && !isStar a && !isStar b && !(foldedForSure 8 a && foldedForSure 8 b) && !(constantsAlone 8 a && constantsAlone 8 b) && chkL K Γ es [a, b]
    | _ => false
  | .fst a f cs e => match st with
    | .Assign [.Attribute x y _] v _ => decide (y = f) && nsup x && cs.all (fun C => decide ((C, f) ∈ K.noat)) && chkE K Γ a x && chkE K Γ e v
    | _ => false
  | .faug a f cs op e => match st with
    | .AugAssign (.Attribute x y _) o v _ => decide (y = f) && nsup x && decide (op = o) && augOp op && cs.all (fun C => decide ((C, f) ∈ K.noat)) && chkE K Γ a x && chkE K Γ e v
    | _ => false
  | .tr b => match st with
    | .Try body (_ :: _) [] [] _ => chkB K Γ b body
    | _ => false
  | .kput a b e => match st with
    | .Assign [.Subscript x y _] v _ => nsl y && chkE K Γ a x && chkE K Γ b y && chkE K Γ e v
    | _ => false
def chkB (K : Gs) (Γ : Sc) (l : SL) (sts : List Stmt) : Bool := match l with
  | .nil => sts.isEmpty
  | .cons s l => match sts with
    | st :: sts => chkS K Γ s st && chkB K Γ l sts
    | [] => false
end
end Z

/-! Z3: what the operators, the built-ins and the methods come to is what the layer's rules tell -/
namespace Z
open PySem L2

section
variable {X : Cx} {ρ : Nat → Addr} {h : Hh} {H H0 : Hp} {σ : St} {S : Sl} {v vx vy : V} {d x y : D} {xs ys : List D} {Q : VK}

theorem At.cell (A : At X ρ h H σ S) {n : Nat} {o : O} (e : h[n]? = some o) : RO (wd X ρ h H) (ρ n) o := A.rep.obj n o e
theorem ls_of (A : At X ρ h H σ S) (r : RE (wd X ρ h H) H0 v d) (e : lsD h d = some xs) : ∃ a vs, v = .ref a ∧ SqL X.K H a vs ∧ RL (wd X ρ h H) vs xs := by
  cases r with
  | new q _ _ rl =>
    have e' : some _ = some xs := e
    cases e'
    exact ⟨_, _, rfl, SqL.of q, rl⟩
  | held r =>
    cases r with
    | ref n hn =>
      simp only [lsD] at e
      split at e
      · rename_i ys q
        cases e
        cases A.cell q with
        | lst hh rl => exact ⟨_, _, rfl, SqL.of hh, rl⟩
      · cases e
    | frl q rl =>
      cases e
      exact ⟨_, _, rfl, q.sq, rl⟩
    | _ => cases e
theorem ml_of (A : At X ρ h H σ S) (r : RE (wd X ρ h H) H0 v d) (e : mlD h d = some xs) : ∃ a vs, v = .ref a ∧ H a = some (.lst vs) ∧ RL (wd X ρ h H) vs xs := by
  cases r with
  | new q _ _ rl =>
    have e' : some _ = some xs := e
    cases e'
    exact ⟨_, _, rfl, q, rl⟩
  | held r =>
    cases r with
    | ref n hn =>
      simp only [mlD] at e
      split at e
      · rename_i ys q
        cases e
        cases A.cell q with
        | lst hh rl => exact ⟨_, _, rfl, hh, rl⟩
      · cases e
    | _ => cases e
theorem sq_of (A : At X ρ h H σ S) (r : RE (wd X ρ h H) H0 v d) (e : sqD h d = some xs) : ∃ a vs, v = .ref a ∧ (SqL X.K H a vs ∨ SqT X.K H a vs) ∧ RL (wd X ρ h H) vs xs := by
  by_cases c : ∃ zs, d = .tup zs
  · obtain ⟨zs, rfl⟩ := c
    have e' : some zs = some xs := e
    cases e'
    cases r with
    | held r =>
      cases r with
      | tup q rl => exact ⟨_, _, rfl, .inr q, rl⟩
  · have e' : lsD h d = some xs := by
      rw [← e]
      cases d <;> first | rfl | exact absurd ⟨_, rfl⟩ c
    obtain ⟨a, vs, e1, q, rl⟩ := ls_of A r e'
    exact ⟨a, vs, e1, .inl q, rl⟩

theorem RE.int_inv {W : Wd} {i : Int} (r : RE W H0 v (.int i)) : v = .int i := by cases r with | held r => cases r; rfl
theorem RE.str_inv {W : Wd} {i : Str} (r : RE W H0 v (.str i)) : v = .str i := by cases r with | held r => cases r; rfl
theorem RE.bl_inv {W : Wd} {i : Bool} (r : RE W H0 v (.bl i)) : v = .bl i := by cases r with | held r => cases r; rfl
theorem RE.non_inv {W : Wd} (r : RE W H0 v .non) : v = .non := by cases r with | held r => cases r; rfl
theorem RE.ty_inv {W : Wd} {t : String} (r : RE W H0 v (.ty t)) : v = .ty t := by cases r with | held r => cases r; rfl
theorem RE.tup_inv {W : Wd} {xs : List D} (r : RE W H0 v (.tup xs)) : ∃ a vs, v = .ref a ∧ SqT W.K W.H a vs ∧ RL W vs xs := by
  cases r with
  | held r => cases r with | tup q rl => exact ⟨_, _, rfl, q, rl⟩
theorem RL.cons_inv {W : Wd} {vs : List V} {d : D} {ds : List D} (r : RL W vs (d :: ds)) : ∃ v ws, vs = v :: ws ∧ R W v d ∧ RL W ws ds := by
  cases r with | cons a b => exact ⟨_, _, rfl, a, b⟩
theorem RL.nil_inv {W : Wd} {vs : List V} (r : RL W vs []) : vs = [] := by cases r; rfl
theorem R.int_inv {W : Wd} {i : Int} (r : R W v (.int i)) : v = .int i := by cases r; rfl
theorem R.str_inv {W : Wd} {i : Str} (r : R W v (.str i)) : v = .str i := by cases r; rfl
theorem R.bl_inv {W : Wd} {i : Bool} (r : R W v (.bl i)) : v = .bl i := by cases r; rfl
theorem ints_of {W : Wd} : ∀ {xs : List D} {vs : List V} {ns : List Int}, RL W vs xs → intsD xs = some ns → vs = ns.map V.int
  | [], _, _, r, e => by cases e; exact r.nil_inv
  | .int i :: xs, _, _, r, e => by
    simp only [intsD, Option.map_eq_some_iff] at e
    obtain ⟨ms, e1, rfl⟩ := e
    obtain ⟨v, ws, rfl, rv, rl⟩ := r.cons_inv
    rw [rv.int_inv, ints_of rl e1]; rfl
  | .non :: _, _, _, _, e | .bl _ :: _, _, _, _, e | .str _ :: _, _, _, _, e | .tup _ :: _, _, _, _, e | .lst _ :: _, _, _, _, e | .frl _ :: _, _, _, _, e | .ref _ :: _, _, _, _, e | .ty _ :: _, _, _, _, e | .fn _ :: _, _, _, _, e | .cls _ :: _, _, _, _, e => by cases e
theorem strs_of {W : Wd} : ∀ {xs : List D} {vs : List V} {ns : List Str}, RL W vs xs → strsD xs = some ns → vs = ns.map V.str
  | [], _, _, r, e => by cases e; exact r.nil_inv
  | .str i :: xs, _, _, r, e => by
    simp only [strsD, Option.map_eq_some_iff] at e
    obtain ⟨ms, e1, rfl⟩ := e
    obtain ⟨v, ws, rfl, rv, rl⟩ := r.cons_inv
    rw [rv.str_inv, strs_of rl e1]; rfl
  | .non :: _, _, _, _, e | .bl _ :: _, _, _, _, e | .int _ :: _, _, _, _, e | .tup _ :: _, _, _, _, e | .lst _ :: _, _, _, _, e | .frl _ :: _, _, _, _, e | .ref _ :: _, _, _, _, e | .ty _ :: _, _, _, _, e | .fn _ :: _, _, _, _, e | .cls _ :: _, _, _, _, e => by cases e
theorem bls_of {W : Wd} : ∀ {xs : List D} {vs : List V} {ns : List Bool}, RL W vs xs → blsD xs = some ns → vs = ns.map V.bl
  | [], _, _, r, e => by cases e; exact r.nil_inv
  | .bl i :: xs, _, _, r, e => by
    simp only [blsD, Option.map_eq_some_iff] at e
    obtain ⟨ms, e1, rfl⟩ := e
    obtain ⟨v, ws, rfl, rv, rl⟩ := r.cons_inv
    rw [rv.bl_inv, bls_of rl e1]; rfl
  | .non :: _, _, _, _, e | .str _ :: _, _, _, _, e | .int _ :: _, _, _, _, e | .tup _ :: _, _, _, _, e | .lst _ :: _, _, _, _, e | .frl _ :: _, _, _, _, e | .ref _ :: _, _, _, _, e | .ty _ :: _, _, _, _, e | .fn _ :: _, _, _, _, e | .cls _ :: _, _, _, _, e => by cases e

/-! ### data compared -/
mutual
theorem py_of (A : At X ρ h H σ S) : ∀ (k : Nat) {v : V} {d : D} {p : PyData}, R (wd X ρ h H) v d → toPy h k d = some p → Dp X.K H v p
  | k, _, .non, _, r, e => by simp only [toPy] at e; cases e; cases r; exact .non
  | k, _, .bl b, _, r, e => by simp only [toPy] at e; cases e; cases r; exact .bl b
  | k, _, .int b, _, r, e => by simp only [toPy] at e; cases e; cases r; exact .int b
  | k, _, .str b, _, r, e => by simp only [toPy] at e; cases e; cases r; exact .str b
  | k + 1, _, .tup xs, _, r, e => by
    simp only [toPy, Option.map_eq_some_iff] at e
    obtain ⟨ps, e1, rfl⟩ := e
    cases r with
    | tup q rl => exact .tup q (pyL_of A k rl e1)
  | k + 1, _, .lst xs, _, r, e => r.notLst.elim
  | k + 1, _, .frl xs, _, r, e => by
    simp only [toPy, Option.map_eq_some_iff] at e
    obtain ⟨ps, e1, rfl⟩ := e
    cases r with
    | frl q rl => exact .lst q.sq (pyL_of A k rl e1)
  | k + 1, _, .ref n, _, r, e => by
    cases r with
    | ref n hn =>
      simp only [toPy] at e
      split at e
      · rename_i xs q
        simp only [Option.map_eq_some_iff] at e
        obtain ⟨ps, e1, rfl⟩ := e
        cases A.cell q with
        | lst hh rl => exact .lst (SqL.of hh) (pyL_of A k rl e1)
      · cases e
  | 0, _, .tup _, _, _, e => by simp [toPy] at e
  | 0, _, .lst _, _, _, e => by simp [toPy] at e
  | 0, _, .frl _, _, _, e => by simp [toPy] at e
  | 0, _, .ref _, _, _, e => by simp [toPy] at e
  | k, _, .ty _, _, _, e => by simp [toPy] at e
  | k, _, .fn _, _, _, e => by simp [toPy] at e
  | k, _, .cls _, _, _, e => by simp [toPy] at e
theorem pyL_of (A : At X ρ h H σ S) : ∀ (k : Nat) {vs : List V} {ds : List D} {ps : List PyData}, RL (wd X ρ h H) vs ds → toPyL h k ds = some ps → DpAll X.K H vs ps
  | k, _, [], _, r, e => by simp only [toPyL] at e; cases e; rw [r.nil_inv]; exact .nil
  | k + 1, _, d :: ds, _, r, e => by
    obtain ⟨v, ws, rfl, rv, rl⟩ := r.cons_inv
    simp only [toPyL] at e
    split at e
    · rename_i a b ea eb
      cases e
      exact .cons (py_of A k rv ea) (pyL_of A k rl eb)
    · cases e
  | 0, _, _ :: _, _, _, e => by simp [toPyL] at e
end
theorem pyE_of (A : At X ρ h H σ S) {k : Nat} {p : PyData} (r : RE (wd X ρ h H) H0 v d) (e : toPy h k d = some p) : Dp X.K H v p := by
  cases r with
  | held r => exact py_of A k r e
  | new q f n0 rl =>
    cases k with
    | zero => simp [toPy] at e
    | succ k =>
      simp only [toPy, Option.map_eq_some_iff] at e
      obtain ⟨ps, e1, rfl⟩ := e
      exact .lst (SqL.of q) (pyL_of A k rl e1)

/-! ### operators -/
/-- what two values come to: the layer's reading follows from ours -/
def Op2 (X : Cx) (f : Value → Value → Sem Value) (g : Hh → D → D → Option D) : Prop :=
  ∃ r : R2, OpR X f r ∧ ∀ ρ h H σ S H0 x y vx vy d Q, At X ρ h H σ S → (∀ a, H a = none → H0 a = none) → RE (wd X ρ h H) H0 vx x → RE (wd X ρ h H) H0 vy y → g h x y = some d →
    (∀ H' v, Go (wd X ρ h H) (wd X ρ h H') → At X ρ h H' σ S → RE (wd X ρ h H') H0 v d → Q v H') → r vx vy H Q
theorem Op2.or {f : Value → Value → Sem Value} {g g' g2 : Hh → D → D → Option D} (a : Op2 X f g) (b : Op2 X f g') (e : ∀ h x y d, g2 h x y = some d → g h x y = some d ∨ g' h x y = some d) : Op2 X f g2 := by
  obtain ⟨r, o, k⟩ := a
  obtain ⟨r', o', k'⟩ := b
  refine ⟨_, o.or o', fun ρ h H σ S H0 x y vx vy d Q A dm rx ry eg q => ?_⟩
  rcases e h x y d eg with z | z
  · exact .inl (k ρ h H σ S H0 x y vx vy d Q A dm rx ry z q)
  · exact .inr (k' ρ h H σ S H0 x y vx vy d Q A dm rx ry z q)
theorem Op2.none {f : Value → Value → Sem Value} {r : R2} (o : OpR X f r) : Op2 X f fun _ _ _ => none := ⟨r, o, fun _ _ _ _ _ _ _ _ _ _ _ _ _ _ _ _ e _ => by cases e⟩
/-- held values from values alone -/
theorem Op2.mk {f : Value → Value → Sem Value} {g : Hh → D → D → Option D} {r : R2} (o : OpR X f r)
    (k : ∀ ρ h H σ S H0 x y vx vy d Q, At X ρ h H σ S → (∀ a, H a = Option.none → H0 a = Option.none) → RE (wd X ρ h H) H0 vx x → RE (wd X ρ h H) H0 vy y → g h x y = some d →
    (∀ H' v, Go (wd X ρ h H) (wd X ρ h H') → At X ρ h H' σ S → RE (wd X ρ h H') H0 v d → Q v H') → r vx vy H Q) : Op2 X f g := ⟨r, o, k⟩
abbrev nowA (A : At X ρ h H σ S) {v : V} {d : D} {Q : VK} (k : ∀ H' v, Go (wd X ρ h H) (wd X ρ h H') → At X ρ h H' σ S → RE (wd X ρ h H') H0 v d → Q v H') (r : R (wd X ρ h H) v d) : Q v H := k H v (Go.refl _) A (.held r)

def gII (g : Int → Int → D) (C : Int → Int → Prop) [∀ i j, Decidable (C i j)] : Hh → D → D → Option D := fun _ x y => match x, y with
  | .int i, .int j => if C i j then some (g i j) else none
  | _, _ => none
theorem op2_I {f : Value → Value → Sem Value} {C : Int → Int → Prop} [∀ i j, Decidable (C i j)] {g : Int → Int → V} {g' : Int → Int → D} (hg : ∀ W i j, R W (g i j) (g' i j)) (o : OpR X f (rI C g)) : Op2 X f (gII g' C) := by
  refine ⟨_, o, fun ρ h H σ S H0 x y vx vy d Q A dm rx ry e k => ?_⟩
  cases x with
  | int i =>
    cases y with
    | int j =>
      simp only [gII] at e
      split at e
      · rename_i c
        cases e
        exact ⟨i, j, rx.int_inv, ry.int_inv, c, k _ _ (Go.refl _) A (.held (hg _ i j))⟩
      · cases e
    | _ => cases e
  | _ => cases e
theorem op2_I0 {f : Value → Value → Sem Value} {g : Int → Int → V} {g' : Int → Int → D} (hg : ∀ W i j, R W (g i j) (g' i j)) (o : OpR X f (rI0 g)) : Op2 X f (gII g' fun _ _ => True) := by
  refine ⟨_, o, fun ρ h H σ S H0 x y vx vy d Q A dm rx ry e k => ?_⟩
  cases x with
  | int i =>
    cases y with
    | int j =>
      cases e
      exact ⟨i, j, rx.int_inv, ry.int_inv, k _ _ (Go.refl _) A (.held (hg _ i j))⟩
    | _ => cases e
  | _ => cases e
def gSS (g : Str → Str → D) (C : Str → Str → Prop) [∀ i j, Decidable (C i j)] : Hh → D → D → Option D := fun _ x y => match x, y with
  | .str i, .str j => if C i j then some (g i j) else none
  | _, _ => none
theorem op2_S {f : Value → Value → Sem Value} {C : Str → Str → Prop} [∀ i j, Decidable (C i j)] {g : Str → Str → V} {g' : Str → Str → D} (hg : ∀ W i j, R W (g i j) (g' i j))
    (o : OpR X f (fun x y H Q => ∃ i j, x = .str i ∧ y = .str j ∧ C i j ∧ Q (g i j) H)) : Op2 X f (gSS g' C) := by
  refine ⟨_, o, fun ρ h H σ S H0 x y vx vy d Q A dm rx ry e k => ?_⟩
  cases x with
  | str i =>
    cases y with
    | str j =>
      simp only [gSS] at e
      split at e
      · rename_i c
        cases e
        exact ⟨i, j, rx.str_inv, ry.str_inv, c, k _ _ (Go.refl _) A (.held (hg _ i j))⟩
      · cases e
    | _ => cases e
  | _ => cases e
theorem op2_S0 {f : Value → Value → Sem Value} {g : Str → Str → V} {g' : Str → Str → D} (hg : ∀ W i j, R W (g i j) (g' i j))
    (o : OpR X f (fun x y H Q => ∃ i j, x = .str i ∧ y = .str j ∧ Q (g i j) H)) : Op2 X f (gSS g' fun _ _ => True) := by
  refine ⟨_, o, fun ρ h H σ S H0 x y vx vy d Q A dm rx ry e k => ?_⟩
  cases x with
  | str i =>
    cases y with
    | str j =>
      cases e
      exact ⟨i, j, rx.str_inv, ry.str_inv, k _ _ (Go.refl _) A (.held (hg _ i j))⟩
    | _ => cases e
  | _ => cases e
end
end Z

/-! Z4: the operators, one after another -/
namespace Z
open PySem L2 PyProof.Rows
section
variable {X : Cx}
theorem bd_gII {g : Int → Int → D} {C : Int → Int → Prop} [∀ i j, Decidable (C i j)] {h : Hh} {i j : Int} {d : D} (e : (if C i j then some (g i j) else none) = some d) : gII g C h (.int i) (.int j) = some d := e

/-- + of two tuples -/
theorem op2_catT : Op2 X (binaryOp .Add) (fun _ x y => match x, y with | .tup xs, .tup ys => if xs.length + ys.length ≤ sizeLine then some (.tup (xs ++ ys)) else none | _, _ => none) := by
  refine ⟨_, op_catA, fun ρ h H σ S H0 x y vx vy d Q A dm rx ry e k => ?_⟩
  cases x with
  | tup xs =>
    cases y with
    | tup ys =>
      simp only at e
      split at e
      · rename_i c
        cases e
        obtain ⟨a, vs, rfl, qa, ra⟩ := rx.tup_inv
        obtain ⟨b, ws, rfl, qb, rb⟩ := ry.tup_inv
        refine ⟨a, b, vs, ws, rfl, rfl, qa, qb, by rw [ra.length, rb.length]; exact c, fun z => ?_, fun n z => ?_, fun n m p hp => ?_⟩
        · subst z
          have : xs = [] := List.eq_nil_of_length_eq_zero ra.length.symm
          subst this
          exact k _ _ (Go.refl _) A (.held (.tup qb rb))
        · subst z
          have : ys = [] := List.eq_nil_of_length_eq_zero rb.length.symm
          subst this
          refine k _ _ (Go.refl _) A ?_
          rw [List.append_nil]
          exact .held (.tup qa ra)
        · obtain ⟨g, A', r'⟩ := A.newT hp (ra.append rb)
          exact k _ _ g A' (.held r')
      · cases e
    | _ => cases e
  | _ => cases e
/-- + of two lists -/
theorem op2_cat : Op2 X (binaryOp .Add) (fun h x y => match mlD h x, mlD h y with | some xs, some ys => if xs.length + ys.length ≤ sizeLine then some (.lst (xs ++ ys)) else none | _, _ => none) := by
  refine ⟨_, op_cat, fun ρ h H σ S H0 x y vx vy d Q A dm rx ry e k => ?_⟩
  simp only at e
  split at e
  · rename_i xs ys ex ey
    split at e
    · rename_i c
      cases e
      obtain ⟨a, vs, rfl, qa, ra⟩ := ml_of A rx ex
      obtain ⟨b, ws, rfl, qb, rb⟩ := ml_of A ry ey
      refine ⟨a, b, vs, ws, rfl, rfl, qa, qb, by rw [ra.length, rb.length]; exact c, fun p hp => ?_⟩
      obtain ⟨g, A', r'⟩ := A.new hp (dm _ hp) (ra.append rb)
      exact k _ _ g A' r'
    · cases e
  · cases e
theorem RL.rep {W : Wd} {vs : List V} {xs : List D} (r : RL W vs xs) : ∀ n : Nat, RL W (List.replicate n vs).flatten (List.replicate n xs).flatten
  | 0 => .nil
  | n + 1 => by
    rw [List.replicate_succ, List.replicate_succ, List.flatten_cons, List.flatten_cons]
    exact r.append (RL.rep r n)
theorem op2_rep : Op2 X (binaryOp .Mult) (fun h x y => match y with | .int k => (match mlD h x with | some xs => if -(2 ^ 63) ≤ k ∧ k < 2 ^ 63 ∧ xs.length * k.toNat ≤ sizeLine then some (.lst (List.replicate k.toNat xs).flatten) else none | none => none) | _ => none) := by
  refine ⟨_, op_rep, fun ρ h H σ S H0 x y vx vy d Q A dm rx ry e k => ?_⟩
  cases y with
  | int n =>
    simp only at e
    split at e
    · rename_i xs ex
      split at e
      · rename_i c
        cases e
        obtain ⟨a, vs, rfl, qa, ra⟩ := ml_of A rx ex
        refine ⟨a, n, vs, rfl, ry.int_inv, qa, c.1, c.2.1, by rw [ra.length]; exact c.2.2, fun p hp => ?_⟩
        obtain ⟨g, A', r'⟩ := A.new hp (dm _ hp) (ra.rep n.toNat)
        exact k _ _ g A' r'
      · cases e
    · cases e
  | _ => cases e

instance : ∀ i j, Decidable (CMul i j) := fun i j => by unfold CMul; infer_instance
instance : ∀ i j, Decidable (CDiv i j) := fun i j => by unfold CDiv; infer_instance
instance : ∀ i j, Decidable (CPow i j) := fun i j => by unfold CPow; infer_instance

theorem op2_add_ib : Op2 X (binaryOp .Add) (fun _ x y => match x, y with | .int i, .bl k => some (.int (i + (if k then 1 else 0))) | _, _ => none) := by
  refine ⟨_, op_add_ib, fun ρ h H σ S H0 x y vx vy d Q A dm rx ry e k => ?_⟩
  cases x with
  | int i =>
    cases y with
    | bl b =>
      cases e
      refine ⟨i, b, rx.int_inv, ry.bl_inv, ?_⟩
      have := k _ _ (Go.refl _) A (.held (.int (i + (if b = true then 1 else 0))))
      unfold b2i
      exact this
    | _ => cases e
  | _ => cases e
theorem Op2.nil {f : Value → Value → Sem Value} : Op2 X f fun _ _ _ => Option.none := Op2.none (r := fun _ _ _ _ => False) fun _ _ _ _ _ _ _ _ _ _ _ _ z => z.elim
theorem Op2.or3 {f : Value → Value → Sem Value} {g g' g3 g2 : Hh → D → D → Option D} (a : Op2 X f g) (b : Op2 X f g') (c : Op2 X f g3) (e : ∀ h x y d, g2 h x y = some d → g h x y = some d ∨ g' h x y = some d ∨ g3 h x y = some d) : Op2 X f g2 := by
  obtain ⟨r, o, k⟩ := a
  obtain ⟨r', o', k'⟩ := b
  obtain ⟨r3, o3, k3⟩ := c
  refine ⟨_, o.or (o'.or o3), fun ρ h H σ S H0 x y vx vy d Q A dm rx ry eg q => ?_⟩
  rcases e h x y d eg with z | z | z
  · exact .inl (k ρ h H σ S H0 x y vx vy d Q A dm rx ry z q)
  · exact .inr (.inl (k' ρ h H σ S H0 x y vx vy d Q A dm rx ry z q))
  · exact .inr (.inr (k3 ρ h H σ S H0 x y vx vy d Q A dm rx ry z q))
def CMw (i j : Int) : Prop := i.natAbs < 2 ^ 250 ∧ j.natAbs < 2 ^ 250
instance : ∀ i j, Decidable (CMw i j) := fun i j => by unfold CMw; infer_instance
theorem op_mulw : OpR X (binaryOp .Mult) (rI CMw fun i j => .int (i * j)) := by
  intro pins s σ H x y v u Q I rx ry ⟨i, j, e1, e2, c, q⟩
  exact op_mulW pins s σ H x y v u Q I rx ry ⟨i, j, e1, e2, wide_mul c.1 c.2 (by decide) (by decide) (by decide), q⟩
theorem bin_ok (op : Operator) : Op2 X (binaryOp op) (fun h x y => binD h op x y) := by
  cases op with
  | Add =>
    refine Op2.or (op2_I0 (g' := fun i j => .int (i + j)) (fun _ _ _ => .int _) op_add) (Op2.or op2_add_ib (Op2.or (op2_S (g' := fun i j => .str (i ++ j)) (fun _ _ _ => .str _) op_add_str) (Op2.or op2_catT op2_cat (g2 := fun h x y => match x, y with | .tup xs, .tup ys => if xs.length + ys.length ≤ sizeLine then some (.tup (xs ++ ys)) else none | x, y => match mlD h x, mlD h y with
      | some xs, some ys => if xs.length + ys.length ≤ sizeLine then some (.lst (xs ++ ys)) else none
      | _, _ => none) ?_) (g2 := fun h x y => match x, y with | .str i, .str j => if i.length + j.length ≤ sizeLine then some (.str (i ++ j)) else none | x, y => match x, y with | .tup xs, .tup ys => if xs.length + ys.length ≤ sizeLine then some (.tup (xs ++ ys)) else none | x, y => match mlD h x, mlD h y with
      | some xs, some ys => if xs.length + ys.length ≤ sizeLine then some (.lst (xs ++ ys)) else none
      | _, _ => none) ?_) (g2 := fun h x y => match x, y with | .int i, .bl k => some (.int (i + (if k then 1 else 0))) | x, y => match x, y with | .str i, .str j => if i.length + j.length ≤ sizeLine then some (.str (i ++ j)) else none | x, y => match x, y with | .tup xs, .tup ys => if xs.length + ys.length ≤ sizeLine then some (.tup (xs ++ ys)) else none | x, y => match mlD h x, mlD h y with
      | some xs, some ys => if xs.length + ys.length ≤ sizeLine then some (.lst (xs ++ ys)) else none
      | _, _ => none) ?_) ?_
    all_goals intro h x y d e
    · cases x <;> first | exact .inr e | (cases y <;> first | exact .inl e | exact .inr e)
    · cases x <;> first | exact .inr e | (cases y <;> first | exact .inl e | exact .inr e)
    · cases x <;> first | exact .inr e | (cases y <;> first | exact .inl e | exact .inr e)
    · cases x <;> first | exact .inr e | (cases y <;> first | exact .inl e | exact .inr e)
  | Sub =>
    refine Op2.or (op2_I0 (g' := fun i j => .int (i - j)) (fun _ _ _ => .int _) op_sub) (Op2.none op_sub) fun h x y d e => ?_
    cases x <;> first | exact .inr e | (cases y <;> first | exact .inl e | exact .inr e)
  | Mult =>
    refine Op2.or3 (op2_I (C := CMul) (g' := fun i j => .int (i * j)) (fun _ _ _ => .int _) op_mul) (op2_I (C := CMw) (g' := fun i j => .int (i * j)) (fun _ _ _ => .int _) op_mulw) op2_rep fun h x y d e => ?_
    cases x with
    | int i =>
      cases y with
      | int j =>
        simp only [binD] at e
        split at e
        · rename_i c
          rcases c with c | c
          · exact .inl ((if_pos (show CMul i j from c)).trans e)
          · exact .inr (.inl ((if_pos (show CMw i j from c)).trans e))
        · cases e
      | _ => first | exact .inr (.inr e) | cases e
    | _ => cases y <;> first | exact .inr (.inr e) | cases e
  | FloorDiv =>
    refine Op2.or (op2_I (C := CDiv) (g' := fun i j => .int (i / j)) (fun _ _ _ => .int _) op_fdiv) (Op2.none op_fdiv) fun h x y d e => ?_
    cases x <;> first | exact .inr e | (cases y <;> first | exact .inl e | exact .inr e)
  | Mod =>
    refine Op2.or (op2_I (C := fun _ j => 0 < j) (g' := fun i j => .int (i % j)) (fun _ _ _ => .int _) op_mod) (Op2.none op_mod) fun h x y d e => ?_
    cases x <;> first | exact .inr e | (cases y <;> first | exact .inl e | exact .inr e)
  | Pow =>
    refine Op2.or (op2_I (C := CPow) (g' := fun i j => .int (i ^ j.toNat)) (fun _ _ _ => .int _) op_pow) (Op2.none op_pow) fun h x y d e => ?_
    cases x <;> first | exact .inr e | (cases y <;> first | exact .inl e | exact .inr e)
  | RShift =>
    refine Op2.or (op2_I (C := fun _ j => 0 ≤ j) (g' := fun i j => .int (i / 2 ^ j.toNat)) (fun _ _ _ => .int _) op_shr) (Op2.none op_shr) fun h x y d e => ?_
    cases x <;> first | exact .inr e | (cases y <;> first | exact .inl e | exact .inr e)
  | BitAnd =>
    refine Op2.or (op2_I0 (g' := fun i j => .int (Builtin.bitAnd i j)) (fun _ _ _ => .int _) op_and) (Op2.none op_and) fun h x y d e => ?_
    cases x <;> first | exact .inr e | (cases y <;> first | exact .inl e | exact .inr e)
  | _ => exact Op2.nil
theorem RE.go2 {ρ : Nat → Addr} {h : Hh} {H H0 H' : Hp} {σ : L2.St} {S : Sl} (A : At X ρ h H σ S) (g : Go (wd X ρ h H) (wd X ρ h H')) {v : V} {d : D} (r : RE (wd X ρ h H) H0 v d) : RE (wd X ρ h H') H0 v d := r.go g A.rep

/-! ### comparisons -/
theorem op2_sc {f : Value → Value → Sem Value} {neg : Bool} (o : OpR X f (if neg then rNe else rEq)) : Op2 X f (fun _ x y => (scD x y).map fun b => .bl (if neg then !b else b)) := by
  refine ⟨_, o, fun ρ h H σ S H0 x y vx vy d Q A dm rx ry e k => ?_⟩
  simp only [Option.map_eq_some_iff] at e
  obtain ⟨b, e, rfl⟩ := e
  have fin : ∀ {b' : Bool}, b' = b → scal vx vy = true → decide (vx = vy) = b' → (if neg then rNe else rEq) vx vy H Q := fun {b'} eb s de => by
    have q := k _ _ (Go.refl _) A (.held (.bl (if neg then !b else b)))
    cases neg with
    | true => exact ⟨s, by rw [de, eb]; exact q⟩
    | false => exact ⟨s, by rw [de, eb]; exact q⟩
  cases x <;> cases y <;> simp only [scD, Option.some.injEq, reduceCtorEq] at e
  all_goals first
    | (have ex := rx.non_inv; have ey := ry.non_inv; subst ex; subst ey; exact fin (b' := true) e rfl (by decide))
    | (have ex := rx.int_inv; have ey := ry.int_inv; subst ex; subst ey; refine fin (b' := decide (_ = _)) e rfl ?_; simp)
    | (have ex := rx.bl_inv; have ey := ry.bl_inv; subst ex; subst ey; refine fin (b' := decide (_ = _)) e rfl ?_; simp)
    | (have ex := rx.str_inv; have ey := ry.str_inv; subst ex; subst ey; refine fin (b' := decide (_ = _)) e rfl ?_; simp)
    | (have ex := rx.non_inv; have ey := ry.int_inv; subst ex; subst ey; exact fin (b' := false) e rfl (by simp))
    | (have ex := rx.non_inv; have ey := ry.bl_inv; subst ex; subst ey; exact fin (b' := false) e rfl (by simp))
    | (have ex := rx.non_inv; have ey := ry.str_inv; subst ex; subst ey; exact fin (b' := false) e rfl (by simp))
    | (have ex := rx.int_inv; have ey := ry.non_inv; subst ex; subst ey; exact fin (b' := false) e rfl (by simp))
    | (have ex := rx.bl_inv; have ey := ry.non_inv; subst ex; subst ey; exact fin (b' := false) e rfl (by simp))
    | (have ex := rx.str_inv; have ey := ry.non_inv; subst ex; subst ey; exact fin (b' := false) e rfl (by simp))
    | (have ex := rx.int_inv; have ey := ry.str_inv; subst ex; subst ey; exact fin (b' := false) e rfl (by simp))
    | (have ex := rx.str_inv; have ey := ry.int_inv; subst ex; subst ey; exact fin (b' := false) e rfl (by simp))
    | (have ex := rx.bl_inv; have ey := ry.str_inv; subst ex; subst ey; exact fin (b' := false) e rfl (by simp))
    | (have ex := rx.str_inv; have ey := ry.bl_inv; subst ex; subst ey; exact fin (b' := false) e rfl (by simp))
theorem op2_eqP (hu : X.A.units + 64 < cLine) : Op2 X (compareOp .Eq) (fun h x y => match toPy h 100000 x, toPy h 100000 y with
    | some a, some b => if SeqAt.shaped a = true ∧ SeqAt.shaped b = true then some (.bl (PyData.eqv a b)) else none
    | _, _ => none) := by
  refine ⟨_, op_eqD hu, fun ρ h H σ S H0 x y vx vy d Q A dm rx ry e k => ?_⟩
  simp only at e
  split at e
  · rename_i a b ea eb
    split at e
    · rename_i c
      cases e
      exact ⟨a, b, pyE_of A rx ea, pyE_of A ry eb, c.1, c.2, k _ _ (Go.refl _) A (.held (.bl _))⟩
    · cases e
  · cases e
theorem op2_neP (hu : X.A.units + 64 < cLine) : Op2 X (compareOp .NotEq) (fun h x y => match toPy h 100000 x, toPy h 100000 y with
    | some a, some b => if SeqAt.shaped a = true ∧ SeqAt.shaped b = true then some (.bl (!PyData.eqv a b)) else none
    | _, _ => none) := by
  refine ⟨_, op_neD hu, fun ρ h H σ S H0 x y vx vy d Q A dm rx ry e k => ?_⟩
  simp only at e
  split at e
  · rename_i a b ea eb
    split at e
    · rename_i c
      cases e
      exact ⟨a, b, pyE_of A rx ea, pyE_of A ry eb, c.1, c.2, k _ _ (Go.refl _) A (.held (.bl _))⟩
    · cases e
  · cases e
theorem fl_of {W : Wd} {v : V} {d : D} {w : V} (r : R W v d) (e : flD d = some w) : v = w := by
  cases r <;> first | (cases e; rfl) | cases e
theorem flE_of {W : Wd} {H0 : Hp} {v : V} {d : D} {w : V} (r : RE W H0 v d) (e : flD d = some w) : v = w := by
  cases r with
  | held r => exact fl_of r e
  | new => cases e
theorem flL_of {W : Wd} : ∀ {vs : List V} {ds : List D} {ws : List V}, RL W vs ds → flL ds = some ws → vs = ws
  | _, [], _, r, e => by cases e; exact r.nil_inv
  | _, d :: ds, _, r, e => by
    obtain ⟨v, us, rfl, rv, rl⟩ := r.cons_inv
    simp only [flL] at e
    split at e
    · rename_i w ws e1 e2
      cases e
      rw [fl_of rv e1, flL_of rl e2]
    · cases e
def inFl (h : Hh) (x y : D) : Option Bool := match sqD h y with
  | none => none
  | some ys => match flD x, flL ys with
    | some v, some vs => if flatV v = true ∧ vs.all flatV = true then some (inV v vs) else none
    | _, _ => none
def inPy (h : Hh) (x y : D) : Option Bool := match lsD h y with
  | none => none
  | some ys => match toPy h 100000 x, toPyL h 100000 ys with
    | some a, some bs => if SeqAt.shaped a = true ∧ SeqAt.shaped (.list bs) = true then some (bs.any fun z => PyData.eqv z a) else none
    | _, _ => none
def inSt (x y : D) : Option Bool := match x, y with
  | .str i, .str j => some (!(Builtin.Str.occurrences j i 0 j.length 1).isEmpty)
  | _, _ => none
theorem inD_cases {h : Hh} {x y : D} {b : Bool} (e : inD h x y = some b) : inSt x y = some b ∨ inFl h x y = some b ∨ inPy h x y = some b := by
  have sec : ∀ {x y : D}, (match sqD h y with
    | none => none
    | some ys => match flD x, flL ys with
      | some v, some vs => if flatV v = true ∧ vs.all flatV = true then some (inV v vs) else none
      | _, _ => match lsD h y with
        | none => none
        | some _ => match toPy h 100000 x, toPyL h 100000 ys with
          | some a, some bs => if SeqAt.shaped a = true ∧ SeqAt.shaped (.list bs) = true then some (bs.any fun z => PyData.eqv z a) else none
          | _, _ => none) = some b → inFl h x y = some b ∨ inPy h x y = some b := fun {x y} e => by
    split at e
    · cases e
    · rename_i ys es
      split at e
      · rename_i v vs e1 e2
        refine .inl ?_
        unfold inFl
        simp only [es, e1, e2]
        exact e
      · split at e
        · cases e
        · rename_i zs ez
          refine .inr ?_
          have : zs = ys := by
            have : sqD h y = some zs := by
              cases y <;> first | exact ez | cases ez
            rw [es] at this
            exact (Option.some.inj this).symm
          subst this
          unfold inPy
          simp only [ez]
          exact e
  cases x <;> cases y <;> first | exact .inl e | exact .inr (sec e)
theorem op2_inS {f : Value → Value → Sem Value} {neg : Bool} (o : OpR X f (fun x y H Q => ∃ i j, x = .str i ∧ y = .str j ∧ Q (.bl (if neg then !(!(Builtin.Str.occurrences j i 0 j.length 1).isEmpty) else (!(Builtin.Str.occurrences j i 0 j.length 1).isEmpty))) H)) :
    Op2 X f (fun _ x y => (inSt x y).map fun b => .bl (if neg then !b else b)) := by
  refine ⟨_, o, fun ρ h H σ S H0 x y vx vy d Q A dm rx ry e k => ?_⟩
  simp only [Option.map_eq_some_iff] at e
  obtain ⟨b, e, rfl⟩ := e
  cases x with
  | str i =>
    cases y with
    | str j =>
      cases e
      exact ⟨i, j, rx.str_inv, ry.str_inv, k _ _ (Go.refl _) A (.held (.bl _))⟩
    | _ => cases e
  | _ => cases e
theorem op2_inF {f : Value → Value → Sem Value} {neg : Bool} (o : OpR X f (rIn X.K neg)) : Op2 X f (fun h x y => (inFl h x y).map fun b => .bl (if neg then !b else b)) := by
  refine ⟨_, o, fun ρ h H σ S H0 x y vx vy d Q A dm rx ry e k => ?_⟩
  simp only [Option.map_eq_some_iff] at e
  obtain ⟨b, e, rfl⟩ := e
  unfold inFl at e
  split at e
  · cases e
  · rename_i ys es
    split at e
    · rename_i v vs e1 e2
      split at e
      · rename_i c
        cases e
        obtain ⟨a, ws, rfl, q, rl⟩ := sq_of A ry es
        have := flL_of rl e2
        subst this
        have := flE_of rx e1
        subst this
        exact ⟨a, ws, rfl, q, c.1, c.2, k _ _ (Go.refl _) A (.held (.bl _))⟩
      · cases e
    · cases e
theorem op2_inP (hu : X.A.units + 65 < cLine) : Op2 X (compareOp .In) (fun h x y => (inPy h x y).map fun b => .bl (if false then !b else b)) := by
  refine ⟨_, op_inD hu, fun ρ h H σ S H0 x y vx vy d Q A dm rx ry e k => ?_⟩
  simp only [Option.map_eq_some_iff] at e
  obtain ⟨b, e, rfl⟩ := e
  unfold inPy at e
  split at e
  · cases e
  · rename_i ys es
    split at e
    · rename_i p bs e1 e2
      split at e
      · rename_i c
        cases e
        obtain ⟨a, ws, rfl, q, rl⟩ := ls_of A ry es
        exact ⟨p, bs, pyE_of A rx e1, .lst q (pyL_of A _ rl e2), c.1, c.2, k _ _ (Go.refl _) A (.held (.bl _))⟩
      · cases e
    · cases e
theorem op2_notInP (hu : X.A.units + 65 < cLine) : Op2 X (compareOp .NotIn) (fun h x y => (inPy h x y).map fun b => .bl (if true then !b else b)) := by
  refine ⟨_, op_notInD hu, fun ρ h H σ S H0 x y vx vy d Q A dm rx ry e k => ?_⟩
  simp only [Option.map_eq_some_iff] at e
  obtain ⟨b, e, rfl⟩ := e
  unfold inPy at e
  split at e
  · cases e
  · rename_i ys es
    split at e
    · rename_i p bs e1 e2
      split at e
      · rename_i c
        cases e
        obtain ⟨a, ws, rfl, q, rl⟩ := ls_of A ry es
        exact ⟨p, bs, pyE_of A rx e1, .lst q (pyL_of A _ rl e2), c.1, c.2, k _ _ (Go.refl _) A (.held (.bl _))⟩
      · cases e
    · cases e
theorem op2_isB {f : Value → Value → Sem Value} {neg : Bool} (o : OpR X f (fun x y H Q => ∃ a b : Bool, x = .bl a ∧ y = .bl b ∧ Q (.bl (if neg then !decide (a = b) else decide (a = b))) H)) :
    Op2 X f (fun _ x y => match x, y with | .bl i, .bl j => some (.bl (if neg then !decide (i = j) else decide (i = j))) | _, _ => none) := by
  refine ⟨_, o, fun ρ h H σ S H0 x y vx vy d Q A dm rx ry e k => ?_⟩
  cases x with
  | bl i =>
    cases y with
    | bl j =>
      cases e
      exact ⟨i, j, rx.bl_inv, ry.bl_inv, k _ _ (Go.refl _) A (.held (.bl _))⟩
    | _ => cases e
  | _ => cases e
/-- whether it is None -/
def isN : D → Option Bool
  | .non => some true
  | .bl _ => some false | .int _ => some false | .str _ => some false | .tup _ => some false | .lst _ => some false | .ref _ => some false
  | _ => none
theorem op2_isN {f : Value → Value → Sem Value} {neg : Bool} (o : OpR X f (fun x y H Q => y = .non ∧ Q (.bl (if neg then !decide (x = .non) else decide (x = .non))) H)) :
    Op2 X f (fun _ x y => match y with | .non => (isN x).map fun b => .bl (if neg then !b else b) | _ => none) := by
  refine ⟨_, o, fun ρ h H σ S H0 x y vx vy d Q A dm rx ry e k => ?_⟩
  cases y with
  | non =>
    simp only [Option.map_eq_some_iff] at e
    obtain ⟨b, e, rfl⟩ := e
    refine ⟨ry.non_inv, ?_⟩
    have q := k _ _ (Go.refl _) A (.held (.bl (if neg then !b else b)))
    have : decide (vx = V.non) = b := by
      cases rx with
      | new => cases e; simp
      | held rx => cases rx <;> first | (cases e; simp) | cases e
    rw [this]
    exact q
  | _ => cases e
theorem cmp_ok (hu : X.A.units + 65 < cLine) (op : CmpOp) : Op2 X (compareOp op) (fun h x y => cmpD h op x y) := by
  cases op with
  | Eq =>
    refine Op2.or (op2_sc (neg := false) op_eq) (op2_eqP (by omega)) fun h x y d e => ?_
    simp only [cmpD, eqD, Option.map_eq_some_iff] at e
    obtain ⟨b, e, rfl⟩ := e
    split at e
    · rename_i b' eb
      cases e
      exact .inl (by rw [eb]; rfl)
    · refine .inr ?_
      split at e
      · rename_i a b ea eb
        try simp only [ea, eb]
        split at e
        · rename_i c
          cases e
          first | rw [if_pos c] | rfl
        · cases e
      · cases e
  | NotEq =>
    refine Op2.or (op2_sc (neg := true) op_ne) (op2_neP (by omega)) fun h x y d e => ?_
    simp only [cmpD, eqD, Option.map_eq_some_iff] at e
    obtain ⟨b, e, rfl⟩ := e
    split at e
    · rename_i b' eb
      cases e
      exact .inl (by rw [eb]; rfl)
    · refine .inr ?_
      split at e
      · rename_i a b ea eb
        try simp only [ea, eb]
        split at e
        · rename_i c
          cases e
          first | rw [if_pos c] | rfl
        · cases e
      · cases e
  | Lt =>
    refine Op2.or (op2_I0 (g' := fun i j => .bl (decide (i < j))) (fun _ _ _ => .bl _) op_lt) (op2_S0 (g' := fun i j => .bl (decide (i.cps.toList < j.cps.toList))) (fun _ _ _ => .bl _) op_lt_str) fun h x y d e => ?_
    cases x <;> first | exact .inr e | (cases y <;> first | exact .inl e | exact .inr e)
  | LtE =>
    refine Op2.or (op2_I0 (g' := fun i j => .bl (decide (i ≤ j))) (fun _ _ _ => .bl _) op_le) (op2_S0 (g' := fun i j => .bl (!decide (j.cps.toList < i.cps.toList))) (fun _ _ _ => .bl _) op_le_str) fun h x y d e => ?_
    cases x <;> first | exact .inr e | (cases y <;> first | exact .inl e | exact .inr e)
  | Gt =>
    refine Op2.or (op2_I0 (g' := fun i j => .bl (decide (j < i))) (fun _ _ _ => .bl _) op_gt) (op2_S0 (g' := fun i j => .bl (decide (j.cps.toList < i.cps.toList))) (fun _ _ _ => .bl _) op_gt_str) fun h x y d e => ?_
    cases x <;> first | exact .inr e | (cases y <;> first | exact .inl e | exact .inr e)
  | GtE =>
    refine Op2.or (op2_I0 (g' := fun i j => .bl (decide (j ≤ i))) (fun _ _ _ => .bl _) op_ge) (op2_S0 (g' := fun i j => .bl (!decide (i.cps.toList < j.cps.toList))) (fun _ _ _ => .bl _) op_ge_str) fun h x y d e => ?_
    cases x <;> first | exact .inr e | (cases y <;> first | exact .inl e | exact .inr e)
  | Is =>
    refine Op2.or (op2_isB (neg := false) op_isBl) (op2_isN (neg := false) op_isN) fun h x y d e => ?_
    cases x <;> cases y <;> first | exact .inl e | exact .inr e | cases e
  | IsNot =>
    refine Op2.or (op2_isB (neg := true) op_notBl) (op2_isN (neg := true) op_notN) fun h x y d e => ?_
    cases x <;> cases y <;> first | exact .inl e | exact .inr e | cases e
  | In =>
    refine Op2.or3 (op2_inS (neg := false) op_in_str) (op2_inF (neg := false) op_in_seq) (op2_inP hu) fun h x y d e => ?_
    simp only [cmpD, Option.map_eq_some_iff] at e
    obtain ⟨b, e, rfl⟩ := e
    rcases inD_cases e with z | z | z
    · exact .inl (by rw [z]; rfl)
    · exact .inr (.inl (by rw [z]; rfl))
    · exact .inr (.inr (by rw [z]; rfl))
  | NotIn =>
    refine Op2.or3 (op2_inS (neg := true) op_notin_str) (op2_inF (neg := true) op_notIn_seq) (op2_notInP hu) fun h x y d e => ?_
    simp only [cmpD, Option.map_eq_some_iff] at e
    obtain ⟨b, e, rfl⟩ := e
    rcases inD_cases e with z | z | z
    · exact .inl (by rw [z]; rfl)
    · exact .inr (.inl (by rw [z]; rfl))
    · exact .inr (.inr (by rw [z]; rfl))
end
end Z

/-! Z5: signs, subscripts, truth, built-ins, methods -/
namespace Z
open PySem L2 PyProof.Rows
section
variable {X : Cx} {ρ : Nat → Addr} {h : Hh} {H H0 : Hp} {σ : L2.St} {S : Sl} {v vx vy : V} {d x y : D} {xs ys : List D} {Q : VK}

theorem neg_ok (r : RE (wd X ρ h H) H0 v x) (e : negD x = some d) (A : At X ρ h H σ S)
    (k : ∀ H' v, Go (wd X ρ h H) (wd X ρ h H') → At X ρ h H' σ S → RE (wd X ρ h H') H0 v d → Q v H') : (rU fun i => .int (-i)) v H Q := by
  cases x with
  | int i =>
    cases e
    exact ⟨i, r.int_inv, k _ _ (Go.refl _) A (.held (.int _))⟩
  | _ => cases e

theorem atI_rl {W : Wd} {vs : List V} {xs : List D} {i : Int} {d : D} (r : RL W vs xs) (e : atI xs i = some d) : ∃ v, atI vs i = some v ∧ R W v d := by
  unfold atI at e ⊢
  rw [r.length]
  cases q : ixN xs.length i with
  | none => rw [q] at e; cases e
  | some j =>
    rw [q] at e
    obtain ⟨v, e1, r1⟩ := r.get j e
    exact ⟨v, e1, r1⟩
theorem ix_ok : ∃ r : R2, IxR X r ∧ ∀ ρ h H σ S H0 x y vx vy d Q, At X ρ h H σ S → RE (wd X ρ h H) H0 vx x → RE (wd X ρ h H) H0 vy y → ixD h x y = some d →
    (∀ H' v, Go (wd X ρ h H) (wd X ρ h H') → At X ρ h H' σ S → RE (wd X ρ h H') H0 v d → Q v H') → r vx vy H Q := by
  refine ⟨_, ix_seq, fun ρ h H σ S H0 x y vx vy d Q A rx ry e k => ?_⟩
  cases y with
  | int i =>
    by_cases c : ∃ z, x = .str z
    · obtain ⟨z, rfl⟩ := c
      simp only [ixD] at e
      split at e
      · rename_i hz
        simp only [Option.map_eq_some_iff] at e
        obtain ⟨c, e1, rfl⟩ := e
        exact .inr (.inr ⟨z, i, c, rx.str_inv, ry.int_inv, hz, e1, k _ _ (Go.refl _) A (.held (.str _))⟩)
      · cases e
    · have e' : (match sqD h x with | some xs => atI xs i | none => none) = some d := by
        rw [← e]
        cases x <;> first | rfl | exact absurd ⟨_, rfl⟩ c
      split at e'
      · rename_i xs es
        obtain ⟨a, vs, rfl, q, rl⟩ := sq_of A rx es
        obtain ⟨v, e2, r2⟩ := atI_rl rl e'
        rcases q with q | q
        · exact .inl ⟨a, vs, i, v, rfl, ry.int_inv, q, e2, k _ _ (Go.refl _) A (.held r2)⟩
        · exact .inr (.inl ⟨a, vs, i, v, rfl, ry.int_inv, q, e2, k _ _ (Go.refl _) A (.held r2)⟩)
      · cases e'
  | _ => cases x <;> cases e

theorem cut_rl {W : Wd} {vs : List V} {xs : List D} (r : RL W vs xs) (lo hi : Option Int) : RL W (cutV vs lo hi) (cutD xs lo hi) := by
  unfold cutV cutD
  rw [r.length]
  exact (r.drop _).take _
theorem sl_ok : ∃ r, SlR X r ∧ ∀ ρ h H σ S H0 x vx lo hi d Q, At X ρ h H σ S → (∀ a, H a = none → H0 a = none) → RE (wd X ρ h H) H0 vx x → slcD h x lo hi = some d →
    (∀ H' v, Go (wd X ρ h H) (wd X ρ h H') → At X ρ h H' σ S → RE (wd X ρ h H') H0 v d → Q v H') → r vx lo hi H Q := by
  refine ⟨_, sl_list.or (sl_tupA.or sl_str), fun ρ h H σ S H0 x vx lo hi d Q A dm rx e k => ?_⟩
  by_cases c : (∃ z, x = .str z) ∨ ∃ zs, x = .tup zs
  · rcases c with ⟨z, rfl⟩ | ⟨zs, rfl⟩
    · simp only [slcD] at e
      split at e
      · rename_i hz
        cases e
        exact .inr (.inr ⟨z, rx.str_inv, hz, k _ _ (Go.refl _) A (.held (.str _))⟩)
      · cases e
    · cases e
      obtain ⟨a, vs, rfl, q, rl⟩ := rx.tup_inv
      refine .inr (.inl ⟨a, vs, rfl, q, fun z => ?_, fun z p hp => ?_⟩)
      · refine k _ _ (Go.refl _) A (.held ?_)
        have e1 : cutD zs lo hi = zs := by
          unfold cutD
          rw [← rl.length]
          have z1 := z.1
          have z2 := z.2
          rw [z1, z2]
          rw [rl.length]
          simp
        rw [e1]
        exact .tup q rl
      · obtain ⟨g, A', r'⟩ := A.newT hp (cut_rl rl lo hi)
        exact k _ _ g A' (.held r')
  · have e' : (lsD h x).map (fun xs => D.lst (cutD xs lo hi)) = some d := by
      rw [← e]
      cases x <;> first | rfl | exact absurd (.inl ⟨_, rfl⟩) c | exact absurd (.inr ⟨_, rfl⟩) c
    simp only [Option.map_eq_some_iff] at e'
    obtain ⟨xs, es, rfl⟩ := e'
    obtain ⟨a, vs, rfl, q, rl⟩ := ls_of A rx es
    refine .inl ⟨a, vs, rfl, q, fun p hp => ?_⟩
    obtain ⟨g, A', r'⟩ := A.new hp (dm _ hp) (cut_rl rl lo hi)
    exact k _ _ g A' r'

theorem isEmpty_rl {W : Wd} {vs : List V} {xs : List D} (r : RL W vs xs) : vs.isEmpty = xs.isEmpty := by cases r <;> rfl
theorem tru_of (A : At X ρ h H σ S) (r : RE (wd X ρ h H) H0 v x) {b : Bool} (e : truD h x = some b) : TruV X.K v H b := by
  cases x with
  | non => cases e; rw [r.non_inv]; exact rfl
  | bl k => cases e; rw [r.bl_inv]; exact rfl
  | int i => cases e; rw [r.int_inv]; exact rfl
  | str z =>
    simp only [truD] at e
    split at e
    · rename_i hz
      cases e
      rw [r.str_inv]
      exact ⟨hz, rfl⟩
    · cases e
  | tup zs =>
    cases e
    obtain ⟨a, vs, rfl, q, rl⟩ := r.tup_inv
    exact .inr (.inl ⟨vs, q, by rw [isEmpty_rl rl]⟩)
  | lst zs =>
    cases e
    obtain ⟨a, vs, rfl, q, rl⟩ := ls_of A r (show lsD h (.lst zs) = some zs from rfl)
    exact .inl ⟨vs, q, by rw [isEmpty_rl rl]⟩
  | frl zs =>
    cases e
    obtain ⟨a, vs, rfl, q, rl⟩ := ls_of A r (show lsD h (.frl zs) = some zs from rfl)
    exact .inl ⟨vs, q, by rw [isEmpty_rl rl]⟩
  | ref n =>
    simp only [truD] at e
    cases r with
    | held r =>
      cases r with
      | ref n hn =>
        split at e
        · rename_i zs q
          cases e
          cases A.cell q with
          | lst hh rl => exact .inl ⟨_, SqL.of hh, by rw [isEmpty_rl rl]⟩
        · rename_i kvs q
          cases e
          cases A.cell q with
          | dic hh ek rl =>
            refine .inr (.inr ⟨_, hh, ?_⟩)
            have := congrArg List.isEmpty ek
            simpa using this.symm
        · cases e
  | ty _ => cases e
  | fn _ => cases e
  | cls _ => cases e

/-! ### built-ins of one argument -/
/-- f is called with values that come to d -/
def Cal (X : Cx) (f : Value) (g : Hh → List D → Option D) : Prop := ∃ r, CallR X f r ∧ ∀ ρ h H σ S H0 ds vs d Q, At X ρ h H σ S → (∀ a, H a = none → H0 a = none) → Paired (fun v d => RE (wd X ρ h H) H0 v d) vs ds → g h ds = some d →
    (∀ H' v, Go (wd X ρ h H) (wd X ρ h H') → At X ρ h H' σ S → RE (wd X ρ h H') H0 v d → Q v H') → r vs H Q
theorem pr1 {F : V → D → Prop} {vs : List V} {d : D} (p : Paired F vs [d]) : ∃ v, vs = [v] ∧ F v d := by
  cases p with | cons a t => cases t; exact ⟨_, rfl, a⟩
theorem pr2 {F : V → D → Prop} {vs : List V} {d d' : D} (p : Paired F vs [d, d']) : ∃ v v', vs = [v, v'] ∧ F v d ∧ F v' d' := by
  cases p with | cons a t => cases t with | cons b t => cases t; exact ⟨_, _, rfl, a, b⟩
theorem cal_len : Cal X (.builtin "len") lenD := by
  refine ⟨_, call_len_str.or call_len_seq, fun ρ h H σ S H0 ds vs d Q A dm rr e k => ?_⟩
  match ds, rr, e with
  | [x], rr, e =>
    obtain ⟨v, rfl, r⟩ := pr1 rr
    by_cases c : ∃ z, x = .str z
    · obtain ⟨z, rfl⟩ := c
      simp only [lenD] at e
      split at e
      · rename_i hz
        cases e
        exact .inl ⟨z, by rw [r.str_inv], hz, k _ _ (Go.refl _) A (.held (.int _))⟩
      · cases e
    · have e' : (sqD h x).map (fun xs => D.int xs.length) = some d := by
        rw [← e]
        cases x <;> first | rfl | exact absurd ⟨_, rfl⟩ c
      simp only [Option.map_eq_some_iff] at e'
      obtain ⟨xs, es, rfl⟩ := e'
      obtain ⟨a, ws, rfl, q, rl⟩ := sq_of A r es
      refine .inr ⟨a, ws, rfl, q, ?_⟩
      rw [rl.length]
      exact k _ _ (Go.refl _) A (.held (.int _))
  | _ :: _ :: _, _, e => simp [lenD] at e
theorem cal_sum (hc : X.calm = true) : Cal X (.builtin "sum") (overL fun xs => (intsD xs).map fun ns => .int ns.sum) := by
  refine ⟨_, cr_sum hc, fun ρ h H σ S H0 ds vs d Q A dm rr e k => ?_⟩
  match ds, rr, e with
  | [x], rr, e =>
    obtain ⟨v, rfl, r⟩ := pr1 rr
    simp only [overL] at e
    split at e
    · rename_i xs es
      simp only [Option.map_eq_some_iff] at e
      obtain ⟨ns, e1, rfl⟩ := e
      obtain ⟨a, ws, rfl, q, rl⟩ := ls_of A r es
      have := ints_of rl e1
      subst this
      exact ⟨a, ns, rfl, q, k _ _ (Go.refl _) A (.held (.int _))⟩
    · cases e
theorem cal_any (hc : X.calm = true) : Cal X (.builtin "any") (overL fun xs => (blsD xs).map fun ns => .bl (ns.any id)) := by
  refine ⟨_, cr_any hc, fun ρ h H σ S H0 ds vs d Q A dm rr e k => ?_⟩
  match ds, rr, e with
  | [x], rr, e =>
    obtain ⟨v, rfl, r⟩ := pr1 rr
    simp only [overL] at e
    split at e
    · rename_i xs es
      simp only [Option.map_eq_some_iff] at e
      obtain ⟨ns, e1, rfl⟩ := e
      obtain ⟨a, ws, rfl, q, rl⟩ := ls_of A r es
      have := bls_of rl e1
      subst this
      exact ⟨a, ns, rfl, q, k _ _ (Go.refl _) A (.held (.bl _))⟩
    · cases e
theorem cal_all (hc : X.calm = true) : Cal X (.builtin "all") (overL fun xs => (blsD xs).map fun ns => .bl (ns.all id)) := by
  refine ⟨_, cr_all hc, fun ρ h H σ S H0 ds vs d Q A dm rr e k => ?_⟩
  match ds, rr, e with
  | [x], rr, e =>
    obtain ⟨v, rfl, r⟩ := pr1 rr
    simp only [overL] at e
    split at e
    · rename_i xs es
      simp only [Option.map_eq_some_iff] at e
      obtain ⟨ns, e1, rfl⟩ := e
      obtain ⟨a, ws, rfl, q, rl⟩ := ls_of A r es
      have := bls_of rl e1
      subst this
      exact ⟨a, ns, rfl, q, k _ _ (Go.refl _) A (.held (.bl _))⟩
    · cases e
theorem cal_str : Cal X (.type "str") (fun _ ds => strD ds) := by
  refine ⟨_, call_str_int, fun ρ h H σ S H0 ds vs d Q A dm rr e k => ?_⟩
  match ds, rr, e with
  | [.int i], rr, e =>
    obtain ⟨v, rfl, r⟩ := pr1 rr
    simp only [strD] at e
    split at e
    · rename_i hz
      cases e
      exact ⟨i, by rw [r.int_inv], hz, k _ _ (Go.refl _) A (.held (.str _))⟩
    · cases e
theorem cal_int : Cal X (.type "int") (fun _ ds => intD ds) := by
  refine ⟨_, call_int1, fun ρ h H σ S H0 ds vs d Q A dm rr e k => ?_⟩
  match ds, rr, e with
  | [.int i], rr, e =>
    obtain ⟨v, rfl, r⟩ := pr1 rr
    cases e
    exact .inl ⟨i, by rw [r.int_inv], k _ _ (Go.refl _) A (.held (.int _))⟩
  | [.bl b], rr, e =>
    obtain ⟨v, rfl, r⟩ := pr1 rr
    cases e
    exact .inr ⟨b, by rw [r.bl_inv], k _ _ (Go.refl _) A (.held (.int _))⟩
theorem cal_list : Cal X (.type "list") listD := by
  refine ⟨_, call_list_of, fun ρ h H σ S H0 ds vs d Q A dm rr e k => ?_⟩
  match ds, rr, e with
  | [x], rr, e =>
    obtain ⟨v, rfl, r⟩ := pr1 rr
    simp only [listD, Option.map_eq_some_iff] at e
    obtain ⟨xs, es, rfl⟩ := e
    obtain ⟨a, ws, rfl, q, rl⟩ := sq_of A r es
    refine ⟨a, ws, rfl, q, fun p hp => ?_⟩
    obtain ⟨g, A', r'⟩ := A.new hp (dm _ hp) rl
    exact k _ _ g A' r'
theorem cal_tuple : Cal X (.type "tuple") tupD := by
  refine ⟨_, call_tuple_of, fun ρ h H σ S H0 ds vs d Q A dm rr e k => ?_⟩
  match ds, rr, e with
  | [x], rr, e =>
    obtain ⟨v, rfl, r⟩ := pr1 rr
    simp only [tupD, Option.map_eq_some_iff] at e
    obtain ⟨xs, es, rfl⟩ := e
    obtain ⟨a, ws, rfl, q, rl⟩ := sq_of A r es
    rcases q with q | q
    · refine ⟨a, ws, rfl, .inl ⟨q, fun p hp => ?_⟩⟩
      obtain ⟨g, A', r'⟩ := A.newT hp rl
      exact k _ _ g A' (.held r')
    · exact ⟨a, ws, rfl, .inr ⟨q, k _ _ (Go.refl _) A (.held (.tup q rl))⟩⟩
theorem ty_of (A : At X ρ h H σ S) (r : RE (wd X ρ h H) H0 v x) {t : String} (e : tyD h x = some t) : TyX X.K H v (.type t) := by
  cases x with
  | non => cases e; rw [r.non_inv]; exact .base .non
  | bl k => cases e; rw [r.bl_inv]; exact .base (.bl _)
  | int i => cases e; rw [r.int_inv]; exact .base (.int _)
  | str z => cases e; rw [r.str_inv]; exact .base (.str _)
  | tup zs =>
    cases e
    obtain ⟨a, vs, rfl, q, rl⟩ := r.tup_inv
    rcases q with (q | ⟨ob, q⟩) | ⟨o, its, n, q, hc, _⟩
    · exact .base (.tup q)
    · exact .fTuple q
    · exact .kTuple q hc
  | lst zs =>
    cases e
    cases r with
    | new q _ _ _ => exact .base (.lst q)
    | held r => exact r.notLst.elim
  | frl zs =>
    cases e
    cases r with
    | held r =>
      cases r with
      | frl q rl =>
        rcases q with ⟨ob, q⟩ | ⟨o, its, n, q, hc, _⟩
        · exact .base (.frz q)
        · exact .kList q hc
  | ref n =>
    simp only [tyD] at e
    cases r with
    | held r =>
      cases r with
      | ref n hn =>
        split at e
        · rename_i zs q
          cases e
          cases A.cell q with
          | lst hh rl => exact .base (.lst hh)
        · rename_i kvs q
          cases e
          cases A.cell q with
          | dic hh ek rl => exact .base (.dK hh)
        · cases e
  | ty _ => cases e
  | fn _ => cases e
  | cls _ => cases e
theorem isi_kit {a b : String} {r : Bool} (e : isiD a b = some r) : kitB a b = some r := by
  unfold isiD at e
  split at e
  · rename_i hb
    subst hb
    split at e
    · rename_i ha
      cases e
      rcases ha with rfl | rfl <;> decide +kernel
    · split at e
      · rename_i ha
        cases e
        rcases ha with rfl | rfl | rfl | rfl | rfl <;> decide +kernel
      · cases e
  · split at e
    · rename_i hb
      split at e
      · rename_i ha
        cases e
        rcases hb with rfl | rfl | rfl | rfl | rfl <;> rcases ha with rfl | rfl | rfl | rfl | rfl | rfl | rfl <;> decide +kernel
      · cases e
    · cases e
theorem cal_isi : Cal X (.builtin "isinstance") isinD := by
  refine ⟨_, call_isi, fun ρ h H σ S H0 ds vs d Q A dm rr e k => ?_⟩
  match ds, rr, e with
  | [x, .ty t], rr, e =>
    obtain ⟨v, u, rfl, r, ru⟩ := pr2 rr
    simp only [isinD] at e
    split at e
    · rename_i a ea
      simp only [Option.map_eq_some_iff] at e
      obtain ⟨b, e1, rfl⟩ := e
      refine ⟨v, u, .type a, .type t, b, rfl, ?_, ty_of A r ea, kit_ty (isi_kit e1), k _ _ (Go.refl _) A (.held (.bl _))⟩
      rw [ru.ty_inv]
      constructor
    · cases e
end
end Z

/-! Z6: where an expression stands; the parts of its soundness -/
namespace Z
open PySem L2

/-- what a call promises -/
def spF (P : Program) (w : World) (K : PySem.W.Frag) (mg : Str → Option Value) (Φ : CallF) (x : Str) (n : Nat) : Sp := fun vs H Q E =>
  ∃ ρ h ds r, Rep ⟨K, mg, ρ, h.length, H⟩ h ∧ RL ⟨K, mg, ρ, h.length, H⟩ vs ds ∧ ds.length = n ∧ Φ x ds h = some r ∧ match r with
    | (.ok d, h') => ∀ ρ' H' v, Go ⟨K, mg, ρ, h.length, H⟩ ⟨K, mg, ρ', h'.length, H'⟩ → Rep ⟨K, mg, ρ', h'.length, H'⟩ h' → RE ⟨K, mg, ρ', h'.length, H'⟩ H v d → Q v H'
    | (.ex C fs, h') => ∀ ρ' H' cls dx, Go ⟨K, mg, ρ, h.length, H⟩ ⟨K, mg, ρ', h'.length, H'⟩ → Rep ⟨K, mg, ρ', h'.length, H'⟩ h' → RX ⟨K, mg, ρ', h'.length, H'⟩ cls dx C fs → E cls dx H'
/-- a def that may be called from here -/
structure CallOk (X : Cx) (Φ : CallF) (x : Str) (n : Nat) : Prop where
  ex : ∃ (f : Addr) (fd : FuncData) (ps : List Str) (k : Nat), FnOk X.prog X.w X.K X.mg X.base (L2.CX X.prog X.w) k f fd ps (spF X.prog X.w X.K X.mg Φ x n) ∧ Room k X.A ∧ X.mg x = some (.ref f) ∧ PySem.W.keepIn X.K (.ref f) = true ∧ Binds X.K fd ps []
/-- a value of a dict of the top -/
def GV (mg : Str → Option Value) : Option Value → Option Gv → Prop
  | some u, some (.s x) => ∃ t, u = .str x t
  | some u, some (.i n) => ∃ t, u = .int n t
  | some u, some (.f x) => ∃ a, u = .ref a ∧ mg x = some (.ref a)
  | none, none => True
  | _, _ => False
def GdOk (K : PySem.W.Frag) (w : World) (mg : Str → Option Value) (x : Str) (kvs : List (Str × Gv)) : Prop :=
  ∃ a es n, mg x = some (.ref a) ∧ L2.KDict K w a es n ∧ ∀ z, ∃ o, PySem.W.nsIn K a z = some o ∧ GV mg o (kvs.lookup z)
/-- where an expression stands -/
structure Cok (G : Gs) (Φ : CallF) (Γ : Sc) (X : Cx) (Wx : WX) : Prop where
  N : X.N = Γ.N
  nd : Γ.N.Nodup
  sc : X.env.scope = Γ.sc
  calm : X.calm = true
  units : X.A.units + 65 < cLine
  fn : ∀ x, stoB Γ x = true → X.fn x = true ∨ X.env.scope.names.lookup x = some .local
  takes : Takes X Wx
  glob : ∀ x d, G.glob.lookup x = some d → ∃ u v, X.mg x = some u ∧ RelV v u ∧ ∀ ρ n H, R ⟨X.K, X.mg, ρ, n, H⟩ v d
  blt : ∀ x ∈ G.blt, X.mg x = none
  fns : ∀ x n, G.fns.lookup x = some n → CallOk X Φ x n
  noat : ∀ C f, (C, f) ∈ G.noat → ∀ Ca, X.mg C = some (.ref Ca) → Cls X.K Ca ∧ NoAttr X.K Ca f
  mets : ∀ C m q n, (C, m, q, n) ∈ G.mets → ∃ (Ca g : Addr) (fd : FuncData) (ps : List Str) (k : Nat), X.mg C = some (.ref Ca) ∧ Cls X.K Ca ∧ Meth X.K Ca m g ∧ FnOk X.prog X.w X.K X.mg X.base (L2.CX X.prog X.w) k g fd ps (spF X.prog X.w X.K X.mg Φ q n) ∧ Room k X.A ∧ Binds X.K fd ps []
  mks : ∀ C q n, (C, q, n) ∈ G.mks → ∃ (Ca g : Addr) (fd : FuncData) (ps : List Str) (k : Nat), X.mg C = some (.ref Ca) ∧ Mk X.K Ca g ∧ FnOk X.prog X.w X.K X.mg X.base (L2.CX X.prog X.w) k g fd ps (spF X.prog X.w X.K X.mg Φ q n) ∧ Room (k + 1) X.A ∧ Binds X.K fd ps []
  isc : ∀ C ∈ G.isc, ∃ Ca, X.mg C = some (.ref Ca) ∧ C8.InsC X.K Ca
  gdic : ∀ x kvs, (x, kvs) ∈ G.gdic → GdOk X.K X.w X.mg x kvs

section
variable {G : Gs} {Φ : CallF} {Γ : Sc} {X : Cx} {Wx : WX}
theorem vis_of (c : Cok G Φ Γ X Wx) {x : Str} (h : visB Γ.sc x = true) : Vis X.env.scope x := by
  rw [c.sc]
  unfold visB at h
  unfold Vis
  split at h
  · exact .inl (by assumption)
  · exact .inr (.inl (by assumption))
  · exact .inr (.inr (by assumption))
  · cases h
theorem gl_of (c : Cok G Φ Γ X Wx) {x : Str} (h : glB Γ.sc x = true) : Gl X x := by
  unfold glB at h
  split at h
  · rename_i e
    show X.env.scope.names.lookup x = _
    rw [c.sc]
    exact e
  · cases h
theorem sto_of (c : Cok G Φ Γ X Wx) {x : Str} (h : stoB Γ x = true) : L2.Loc X.env.scope x := by
  have key : ∀ sc : Scope, locB sc x = true → L2.Loc sc x := fun sc h => by
    unfold locB at h
    unfold L2.Loc
    split at h
    · exact .inl (by assumption)
    · exact .inr (by assumption)
    · cases h
  rw [c.sc]
  unfold stoB at h
  split at h
  · exact key _ h
  · exact key _ (by simp only [Bool.and_eq_true] at h; exact h.2)
theorem okName_d {x : Str} (h : okName x = true) : (x == ("__debug__" : Str)) = false ∧ (x == ("__classdict__" : Str)) = false ∧ x ≠ "__name__" := by
  unfold okName at h
  simp only [Bool.and_eq_true, Bool.not_eq_true'] at h
  exact ⟨h.1.1, h.1.2, fun z => by rw [z] at h; simp at h⟩

/-! ### the forms -/
theorem notStar {G : Gs} {Γ : Sc} {e : E} {ex : Expr} (h : chkE G Γ e ex = true) : ∀ y p, ex ≠ .Starred y p := by
  rintro y p rfl
  cases e <;> simp [chkE] at h
theorem starEach_of {ex : Expr} {es : List Expr} {env : Env} (h : ∀ y p, ex ≠ .Starred y p) : starEach (ex :: es) env = (false, eval ex env) :: starEach es env := by
  cases ex <;> first | rfl | exact absurd rfl (h _ _)
theorem nomark_of {G : Gs} {Γ : Sc} {e : E} {ex : Expr} (h : chkE G Γ e ex = true) (op : CmpOp) : behindInMarks op ex = false := by
  cases ex <;> first | rfl | (cases e <;> simp [chkE] at h)
theorem plainIx_of {ex : Expr} (h : nsl ex = true) : PlainIx ex := by
  intro o i
  cases ex <;> first | rfl | (simp [nsl] at h)
theorem base_of {ex : Expr} {a : Str} {env : Env} {wh : Sem Value} (h : nsup ex = true) : attributeBase ex a env wh = wh := by
  cases ex with
  | Call f as kws p =>
    cases f with
    | Name id q =>
      cases as with
      | nil =>
        cases kws with
        | nil => simp [nsup] at h
        | cons _ _ => rfl
      | cons _ _ => rfl
    | _ => rfl
  | _ => rfl
theorem folded_of {G : Gs} {Γ : Sc} {e : E} {ex : Expr} {env : Env} (h : chkE G Γ e ex = true) : ∀ x, foldedSetIterable ex env x = pure x := by
  intro x
  cases ex <;> first | rfl | (cases e <;> simp [chkE] at h)

/-! ### from one part to the next -/
theorem At.newer {ρ ρ' : Nat → Addr} {h h' : Hh} {H H' : Hp} {σ : St} {S : Sl} (A : At X ρ h H σ S) (g : Go (wd X ρ h H) (wd X ρ' h' H')) {H0 : Hp} {v : V} {d : D} (r : RE (wd X ρ h H) H0 v d) : RE (wd X ρ' h' H') H0 v d := r.go g A.rep

theorem RE.since {W : Wd} {ρ ρ' : Nat → Addr} {h h' : Hh} {H H' : Hp} (g : Go (wd X ρ h H) (wd X ρ' h' H')) {v : V} {d : D} (r : RE W H' v d) : RE W H v d := by
  cases r with
  | held r => exact .held r
  | new e f n0 r => exact .new e f (g.dom _ n0) r

theorem Fin.since {ρ ρ1 : Nat → Addr} {h h1 : Hh} {H H1 : Hp} {σ : St} {S : Sl} {r : Rs D × Hh} {Q : VK} (g : Go (wd X ρ h H) (wd X ρ1 h1 H1))
    (F : Fin X Wx ρ1 h1 H1 σ S r fun ρ' h' H' d => ∀ v, RE (wd X ρ' h' H') H v d → Q v H') : Fin X Wx ρ1 h1 H1 σ S r fun ρ' h' H' d => ∀ v, RE (wd X ρ' h' H') H1 v d → Q v H' := by
  match r, F with
  | (.ok d, h'), F => exact fun ρ' H' g' A' v rv => F ρ' H' g' A' v (rv.since g)
  | (.ex C fs, h'), F => exact F
theorem je_op {op : Operator} {a b : Expr} {fa fb : EF} {pos : Pos} (ja : JE X Wx a fa) (jb : JE X Wx b fb) : JE X Wx (.BinOp a op b pos) (fun S h => bd (fa S h) fun x h1 => bd (fb S h1) fun y h2 => pu (binD h2 op x y) h2) := by
  obtain ⟨r, o, k⟩ := bin_ok (X := X) op
  refine PE.imp (pe_op o ja jb) fun σ H Q ⟨ρ, S, h, rr, A, e, F⟩ => ?_
  refine tE.bd A e F fun x h1 ρ1 H1 vx g1 A1 rx e1 F1 => ?_
  refine tE.bd A1 e1 F1 fun y h2 ρ2 H2 vy g2 A2 ry e2 F2 => ?_
  obtain ⟨d, ed, q⟩ := Fin.pu e2 F2
  refine k ρ2 h2 H2 σ S H x y vx vy d Q A2 (fun a z => g1.dom a (g2.dom a z)) (A1.newer g2 rx) (ry.since g1) ed fun H' v g A' r' => q ρ2 H' g A' v r'

theorem je_neg {a : Expr} {fa : EF} {pos : Pos} (ja : JE X Wx a fa) : JE X Wx (.UnaryOp .USub a pos) (fun S h => bd (fa S h) fun x h1 => pu (negD x) h1) := by
  refine PE.imp (pe_un un_neg ja) fun σ H Q ⟨ρ, S, h, rr, A, e, F⟩ => ?_
  refine tE.bd A e F fun x h1 ρ1 H1 vx g1 A1 rx e1 F1 => ?_
  obtain ⟨d, ed, q⟩ := Fin.pu e1 F1
  exact neg_ok rx ed A1 fun H' v g A' r' => q ρ1 H' g A' v r'
theorem je_cmp {op : CmpOp} {a b : Expr} {fa fb : EF} {pos : Pos} (hu : X.A.units + 65 < cLine) (ja : JE X Wx a fa) (jb : JE X Wx b fb) (hm : behindInMarks op b = false) :
    JE X Wx (.Compare a [op] [b] pos) (fun S h => bd (fa S h) fun x h1 => bd (fb S h1) fun y h2 => pu (cmpD h2 op x y) h2) := by
  obtain ⟨r, o, k⟩ := cmp_ok hu op
  refine PE.imp (pe_cmpR o ja jb hm) fun σ H Q ⟨ρ, S, h, rr, A, e, F⟩ => ?_
  refine tE.bd A e F fun x h1 ρ1 H1 vx g1 A1 rx e1 F1 => ?_
  refine tE.bd A1 e1 F1 fun y h2 ρ2 H2 vy g2 A2 ry e2 F2 => ?_
  obtain ⟨d, ed, q⟩ := Fin.pu e2 F2
  exact k ρ2 h2 H2 σ S H x y vx vy d Q A2 (fun a z => g1.dom a (g2.dom a z)) (A1.newer g2 rx) (ry.since g1) ed fun H' v g A' r' => q ρ2 H' g A' v r'
theorem jt_cmp {op : CmpOp} {a b : Expr} {fa fb : EF} {pos : Pos} (hu : X.A.units + 65 < cLine) (ja : JE X Wx a fa) (jb : JE X Wx b fb) (hm : behindInMarks op b = false) :
    JT X Wx (.Compare a [op] [b] pos) (fun S h => bd (fa S h) fun x h1 => bd (fb S h1) fun y h2 => match cmpD h2 op x y with | some (.bl k) => some (.ok k, h2) | _ => none) := by
  obtain ⟨r, o, k⟩ := cmp_ok hu op
  refine PT.imp (pt_cmpR o ja jb hm) fun σ H Q ⟨ρ, S, h, rr, A, e, F⟩ => ?_
  refine tE.bd A e F fun x h1 ρ1 H1 vx g1 A1 rx e1 F1 => ?_
  refine tE.bd A1 e1 F1 fun y h2 ρ2 H2 vy g2 A2 ry e2 F2 => ?_
  split at e2
  · rename_i b eb
    cases e2
    exact k ρ2 h2 H2 σ S H x y vx vy _ _ A2 (fun a z => g1.dom a (g2.dom a z)) (A1.newer g2 rx) (ry.since g1) eb fun H' v g A' r' => ⟨b, r'.bl_inv, F2 ρ2 H' g A'⟩
  · cases e2
theorem je_chn {o p : CmpOp} {a b c : Expr} {fa fb fc : EF} {pos : Pos} (hu : X.A.units + 65 < cLine) (ja : JE X Wx a fa) (jb : JE X Wx b fb) (jc : JE X Wx c fc) (h1 : o ≠ .In) (h2 : o ≠ .NotIn) (h3 : p ≠ .In) (h4 : p ≠ .NotIn) :
    JE X Wx (.Compare a [o, p] [b, c] pos) (fun S h => bd (fa S h) fun x h1 => bd (fb S h1) fun y h2 => match cmpD h2 o x y with
      | some (.bl true) => bd (fc S h2) fun z h3 => pu (cmpD h3 p y z) h3
      | some (.bl false) => some (.ok (.bl false), h2)
      | _ => none) := by
  obtain ⟨r, ro, k⟩ := cmp_ok hu o
  obtain ⟨r', ro', k'⟩ := cmp_ok hu p
  refine PE.imp (pe_chain ro ro' ja jb jc (nobehind c h3 h4)) fun σ H Q ⟨ρ, S, h, rr, A, e, F⟩ => ?_
  refine tE.bd A e F fun x h1 ρ1 H1 vx g1 A1 rx e1 F1 => ?_
  refine tE.bd A1 e1 F1 fun y h2 ρ2 H2 vy g2 A2 ry e2 F2 => ?_
  split at e2
  · rename_i eb
    refine k ρ2 h2 H2 σ S H x y vx vy _ _ A2 (fun a z => g1.dom a (g2.dom a z)) (A1.newer g2 rx) (ry.since g1) eb fun H' v g A' r' => ⟨true, r'.bl_inv, ?_⟩
    rw [if_pos rfl]
    refine tE.bd A' e2 (F2.go g) fun z h3 ρ3 H3 vz g3 A3 rz e3 F3 => ?_
    obtain ⟨d, ed, q⟩ := Fin.pu e3 F3
    exact k' ρ3 h3 H3 σ S H y z vy vz d Q A3 (fun a z => g1.dom a (g2.dom a (g.dom a (g3.dom a z)))) (A'.newer g3 (A2.newer g (ry.since g1))) ((rz.since g).since (g1.trans g2)) ed fun H' v g A' r' => q ρ3 H' g A' v r'
  · rename_i eb
    cases e2
    refine k ρ2 h2 H2 σ S H x y vx vy _ _ A2 (fun a z => g1.dom a (g2.dom a z)) (A1.newer g2 rx) (ry.since g1) eb fun H' v g A' r' => ⟨false, r'.bl_inv, ?_⟩
    rw [if_neg Bool.false_ne_true]
    exact F2 ρ2 H' g A' _ (.held (.bl false))
  · cases e2
theorem jt_chn {o p : CmpOp} {a b c : Expr} {fa fb fc : EF} {pos : Pos} (hu : X.A.units + 65 < cLine) (ja : JE X Wx a fa) (jb : JE X Wx b fb) (jc : JE X Wx c fc) (h1 : o ≠ .In) (h2 : o ≠ .NotIn) (h3 : p ≠ .In) (h4 : p ≠ .NotIn) :
    JT X Wx (.Compare a [o, p] [b, c] pos) (fun S h => bd (fa S h) fun x h1 => bd (fb S h1) fun y h2 => match cmpD h2 o x y with
      | some (.bl true) => bd (fc S h2) fun z h3 => match cmpD h3 p y z with
        | some (.bl k) => some (.ok k, h3)
        | _ => none
      | some (.bl false) => some (.ok false, h2)
      | _ => none) := by
  obtain ⟨r, ro, k⟩ := cmp_ok hu o
  obtain ⟨r', ro', k'⟩ := cmp_ok hu p
  refine PT.imp (pt_chain ro ro' ja jb jc (nobehind c h3 h4)) fun σ H Q ⟨ρ, S, h, rr, A, e, F⟩ => ?_
  refine tE.bd A e F fun x h1 ρ1 H1 vx g1 A1 rx e1 F1 => ?_
  refine tE.bd A1 e1 F1 fun y h2 ρ2 H2 vy g2 A2 ry e2 F2 => ?_
  split at e2
  · rename_i eb
    refine k ρ2 h2 H2 σ S H x y vx vy _ _ A2 (fun a z => g1.dom a (g2.dom a z)) (A1.newer g2 rx) (ry.since g1) eb fun H' v g A' r' => ⟨true, r'.bl_inv, ?_⟩
    rw [if_pos rfl]
    refine tE.bd A' e2 (F2.go g) fun z h3 ρ3 H3 vz g3 A3 rz e3 F3 => ?_
    split at e3
    · rename_i b eb
      cases e3
      exact k' ρ3 h3 H3 σ S H y z vy vz _ _ A3 (fun a z => g1.dom a (g2.dom a (g.dom a (g3.dom a z)))) (A'.newer g3 (A2.newer g (ry.since g1))) ((rz.since g).since (g1.trans g2)) eb fun H' v g A' r' => ⟨b, r'.bl_inv, F3 ρ3 H' g A'⟩
    · cases e3
  · rename_i eb
    cases e2
    refine k ρ2 h2 H2 σ S H x y vx vy _ _ A2 (fun a z => g1.dom a (g2.dom a z)) (A1.newer g2 rx) (ry.since g1) eb fun H' v g A' r' => ⟨false, r'.bl_inv, ?_⟩
    rw [if_neg Bool.false_ne_true]
    exact ⟨false, rfl, F2 ρ2 H' g A'⟩
  · cases e2
theorem je_and {a b : Expr} {r : List Expr} {fa fb : EF} {pos : Pos} (ja : JE X Wx a fa) (jb : JE X Wx (.BoolOp .And (b :: r) pos) fb) : JE X Wx (.BoolOp .And (a :: b :: r) pos) (fun S h => bd (fa S h) fun x h1 => match x with
      | .bl true => fb S h1
      | .bl false => some (.ok (.bl false), h1)
      | _ => none) := by
  refine PE.imp (pe_and ja jb) fun σ H Q ⟨ρ, S, h, rr, A, e, F⟩ => ?_
  refine tE.bd A e F fun x h1 ρ1 H1 vx g1 A1 rx e1 F1 => ?_
  split at e1
  · refine ⟨true, rx.bl_inv, ?_⟩
    rw [if_pos rfl]
    refine ⟨ρ1, S, h1, rr, A1, e1, ?_⟩
    exact F1.since g1
  · refine ⟨false, rx.bl_inv, ?_⟩
    rw [if_neg Bool.false_ne_true]
    cases e1
    exact F1 ρ1 H1 (Go.refl _) A1 _ (.held (.bl false))
  · cases e1
theorem je_or {a b : Expr} {r : List Expr} {fa fb : EF} {pos : Pos} (ja : JE X Wx a fa) (jb : JE X Wx (.BoolOp .Or (b :: r) pos) fb) : JE X Wx (.BoolOp .Or (a :: b :: r) pos) (fun S h => bd (fa S h) fun x h1 => match x with
      | .bl true => some (.ok (.bl true), h1)
      | .bl false => fb S h1
      | _ => none) := by
  refine PE.imp (pe_or ja jb) fun σ H Q ⟨ρ, S, h, rr, A, e, F⟩ => ?_
  refine tE.bd A e F fun x h1 ρ1 H1 vx g1 A1 rx e1 F1 => ?_
  split at e1
  · refine ⟨true, rx.bl_inv, ?_⟩
    rw [if_pos rfl]
    cases e1
    exact F1 ρ1 H1 (Go.refl _) A1 _ (.held (.bl true))
  · refine ⟨false, rx.bl_inv, ?_⟩
    rw [if_neg Bool.false_ne_true]
    refine ⟨ρ1, S, h1, rr, A1, e1, ?_⟩
    exact F1.since g1
  · cases e1
theorem je_not {a : Expr} {fa : EF} {pos : Pos} (ja : JE X Wx a fa) : JE X Wx (.UnaryOp .Not a pos) (fun S h => bd (fa S h) fun x h1 => match x with
      | .bl k => some (.ok (.bl (!k)), h1)
      | _ => none) := by
  refine PE.imp (pe_not ja) fun σ H Q ⟨ρ, S, h, rr, A, e, F⟩ => ?_
  refine tE.bd A e F fun x h1 ρ1 H1 vx g1 A1 rx e1 F1 => ?_
  split at e1
  · rename_i k
    cases e1
    exact ⟨k, rx.bl_inv, F1 ρ1 H1 (Go.refl _) A1 _ (.held (.bl _))⟩
  · cases e1
theorem je_ite {c a b : Expr} {ft : TF} {fa fb : EF} {pos : Pos} (jc : JT X Wx c ft) (ja : JE X Wx a fa) (jb : JE X Wx b fb) : JE X Wx (.IfExp c a b pos) (fun S h => bd (ft S h) fun k h1 => if k = true then fa S h1 else fb S h1) := by
  refine PE.imp (pe_ifExp jc ja jb) fun σ H Q ⟨ρ, S, h, rr, A, e, F⟩ => ?_
  refine tT.bd A e F fun k h1 ρ1 H1 g1 A1 e1 F1 => ?_
  cases k with
  | true =>
    rw [if_pos rfl] at e1 ⊢
    exact ⟨ρ1, S, h1, rr, A1, e1, F1.since g1⟩
  | false =>
    rw [if_neg Bool.false_ne_true] at e1 ⊢
    exact ⟨ρ1, S, h1, rr, A1, e1, F1.since g1⟩

/-! ### tests -/
theorem jt_and1 {a b : Expr} {fa fb : TF} {pos : Pos} (ja : JT X Wx a fa) (jb : JT X Wx b fb) : JT X Wx (.BoolOp .And [a, b] pos) (fun S h => bd (fa S h) fun k h1 => if k = true then fb S h1 else some (.ok false, h1)) := by
  refine PT.imp (pw_and ja (pw_and1 jb)).pt fun σ H Q ⟨ρ, S, h, rr, A, e, F⟩ => ?_
  refine tT.bd A e F fun k h1 ρ1 H1 g1 A1 e1 F1 => ?_
  cases k with
  | true =>
    rw [if_pos rfl] at e1 ⊢
    exact ⟨ρ1, S, h1, rr, A1, e1, F1⟩
  | false =>
    rw [if_neg Bool.false_ne_true] at e1 ⊢
    cases e1
    exact F1 ρ1 H1 (Go.refl _) A1
theorem jt_or1 {a b : Expr} {fa fb : TF} {pos : Pos} (ja : JT X Wx a fa) (jb : JT X Wx b fb) : JT X Wx (.BoolOp .Or [a, b] pos) (fun S h => bd (fa S h) fun k h1 => if k = true then some (.ok true, h1) else fb S h1) := by
  refine PT.imp (pw_or ja (pw_or1 jb)).pt fun σ H Q ⟨ρ, S, h, rr, A, e, F⟩ => ?_
  refine tT.bd A e F fun k h1 ρ1 H1 g1 A1 e1 F1 => ?_
  cases k with
  | true =>
    rw [if_pos rfl] at e1 ⊢
    cases e1
    exact F1 ρ1 H1 (Go.refl _) A1
  | false =>
    rw [if_neg Bool.false_ne_true] at e1 ⊢
    exact ⟨ρ1, S, h1, rr, A1, e1, F1⟩
abbrev JW (X : Cx) (Wx : WX) (e : Expr) (f : TF) : Prop := PW X e (tT X Wx f)
theorem PW.imp {e : Expr} {t t' : TT} (h : PW X e t) (i : ∀ σ H Q, t' σ H Q → t σ H Q) : PW X e t' := ⟨fun wh pins s σ H Q I q => h.run wh pins s σ H Q I (i _ _ _ q)⟩
theorem jw_and {a b : Expr} {r : List Expr} {fa fb : TF} {pos : Pos} (ja : JT X Wx a fa) (jb : JW X Wx (.BoolOp .And (b :: r) pos) fb) : JW X Wx (.BoolOp .And (a :: b :: r) pos) (fun S h => bd (fa S h) fun k h1 => if k = true then fb S h1 else some (.ok false, h1)) := by
  refine PW.imp (pw_and ja jb) fun σ H Q ⟨ρ, S, h, rr, A, e, F⟩ => ?_
  refine tT.bd A e F fun k h1 ρ1 H1 g1 A1 e1 F1 => ?_
  cases k with
  | true =>
    rw [if_pos rfl] at e1 ⊢
    exact ⟨ρ1, S, h1, rr, A1, e1, F1⟩
  | false =>
    rw [if_neg Bool.false_ne_true] at e1 ⊢
    cases e1
    exact F1 ρ1 H1 (Go.refl _) A1
theorem jw_or {a b : Expr} {r : List Expr} {fa fb : TF} {pos : Pos} (ja : JT X Wx a fa) (jb : JW X Wx (.BoolOp .Or (b :: r) pos) fb) : JW X Wx (.BoolOp .Or (a :: b :: r) pos) (fun S h => bd (fa S h) fun k h1 => if k = true then some (.ok true, h1) else fb S h1) := by
  refine PW.imp (pw_or ja jb) fun σ H Q ⟨ρ, S, h, rr, A, e, F⟩ => ?_
  refine tT.bd A e F fun k h1 ρ1 H1 g1 A1 e1 F1 => ?_
  cases k with
  | true =>
    rw [if_pos rfl] at e1 ⊢
    cases e1
    exact F1 ρ1 H1 (Go.refl _) A1
  | false =>
    rw [if_neg Bool.false_ne_true] at e1 ⊢
    exact ⟨ρ1, S, h1, rr, A1, e1, F1⟩
theorem jt_not {a : Expr} {fa : TF} {pos : Pos} (ja : JT X Wx a fa) : JT X Wx (.UnaryOp .Not a pos) (fun S h => bd (fa S h) fun k h1 => some (.ok (!k), h1)) := by
  refine PT.imp (pt_not ja) fun σ H Q ⟨ρ, S, h, rr, A, e, F⟩ => ?_
  refine tT.bd A e F fun k h1 ρ1 H1 g1 A1 e1 F1 => ?_
  cases e1
  exact F1 ρ1 H1 (Go.refl _) A1
/-- a test by its value's truth -/
theorem jt_val {a : Expr} {fa : EF} (ja : JE X Wx a fa) (he : ∀ whole, isTrue a X.env whole = (do let v ← whole; standAt a.pos; holding [v] (truthy v))) : JT X Wx a (tv fa) := by
  refine PT.imp (pt_truth ja he) fun σ H Q ⟨ρ, S, h, rr, A, e, F⟩ => ?_
  refine tE.bd A e F fun x h1 ρ1 H1 vx g1 A1 rx e1 F1 => ?_
  obtain ⟨b, eb, q⟩ := Fin.pu e1 F1
  exact ⟨b, tru_of A1 rx eb, q ρ1 H1 (Go.refl _) A1⟩

/-! ### names and constants -/
theorem je_const {ex : Expr} {v : V} {d : D} (p : PE X ex (tC v)) (r : ∀ W, R W v d) : JE X Wx ex (fun _ h => some (.ok d, h)) := by
  refine PE.imp p fun σ H Q ⟨ρ, S, h, rr, A, e, F⟩ => ?_
  cases e
  exact F ρ H (Go.refl _) A v (.held (r _))
theorem je_var {i : Nat} {x : Str} {pos : Pos} (c : Cok G Φ Γ X Wx) (hN : Γ.N[i]? = some x) (hv : visB Γ.sc x = true) (ho : okName x = true) : JE X Wx (.Name x pos) (fun S h => pu (getS S i) h) := by
  obtain ⟨o1, o2, o3⟩ := okName_d ho
  refine PE.imp (pe_var (i := i) (by rw [c.N]; exact hN) (vis_of c hv) o1 o2) fun σ H Q ⟨ρ, S, h, rr, A, e, F⟩ => ?_
  obtain ⟨d, ed, q⟩ := Fin.pu e F
  have : S[i]? = some (some d) := by
    unfold getS at ed
    cases z : S[i]? with
    | none => rw [z] at ed; cases ed
    | some y =>
      rw [z] at ed
      have ed' : y = some d := ed
      rw [ed']
  obtain ⟨v, ev, rv⟩ := A.sl.at_ i d this
  exact ⟨v, ev, q ρ H (Go.refl _) A v (.held rv)⟩
theorem je_glob {x : Str} {pos : Pos} (c : Cok G Φ Γ X Wx) (hg : glB Γ.sc x = true) (ho : okName x = true) (hs : (G.glob.lookup x).isSome = true) : JE X Wx (.Name x pos) (fun _ h => pu (G.glob.lookup x) h) := by
  obtain ⟨o1, o2, o3⟩ := okName_d ho
  obtain ⟨d, ed⟩ := Option.isSome_iff_exists.mp hs
  obtain ⟨u, v, hm, rv, hr⟩ := c.glob x d ed
  refine PE.imp (pe_glob (gl_of c hg) hm rv o1) fun σ H Q ⟨ρ, S, h, rr, A, e, F⟩ => ?_
  rw [ed] at e
  cases e
  exact F ρ H (Go.refl _) A v (.held (hr _ _ _))
theorem typ_boot {t : String} (h : t ∈ tyNames) : bootBuiltins (Str.ofString t) = some (.type t) := by
  simp only [tyNames, List.mem_cons, List.not_mem_nil, or_false] at h
  rcases h with rfl | rfl | rfl | rfl | rfl | rfl <;> decide +kernel
theorem je_typ {x : Str} {t : String} {pos : Pos} (c : Cok G Φ Γ X Wx) (hg : glB Γ.sc x = true) (ho : okName x = true) (hb : x ∈ G.blt) (ht : x = Str.ofString t) (hx : t ∈ tyNames) :
    JE X Wx (.Name x pos) (fun _ h => some (.ok (.ty t), h)) := by
  obtain ⟨o1, o2, o3⟩ := okName_d ho
  exact je_const (pe_bltn (v := .ty t) (gl_of c hg) (c.blt x hb) (by rw [ht]; exact typ_boot hx) rfl o3 o1) fun W => .ty t

/-! ### lists of parts -/
theorem ja_nil : JA X Wx [] (fun _ h => some (.ok [], h)) := by
  refine PA.imp pa_nil fun σ H Q ⟨ρ, S, h, rr, A, e, F⟩ => ?_
  cases e
  exact F ρ H (Go.refl _) A [] .nil
theorem ja_cons {ex : Expr} {es : List Expr} {f : EF} {fs : AF} (j : JE X Wx ex f) (js : JA X Wx es fs) (ns : ∀ y p, ex ≠ .Starred y p) :
    JA X Wx (ex :: es) (fun S h => bd (vv f S h) fun d h1 => bd (fs S h1) fun ds h2 => some (.ok (d :: ds), h2)) := by
  refine PA.imp (pa_cons (JE.vv j) js (starEach_of ns)) fun σ H Q ⟨ρ, S, h, rr, A, e, F⟩ => ?_
  obtain ⟨ra, e1, F1⟩ := Fin.bd (Pa := fun ρ' h' H' d => ∀ v, RE (wd X ρ' h' H') H v d → tA X Wx fs σ H' fun vs H2 => Q (v :: vs) H2) e F fun d h1 ρ1 H1 eq1 g1 A1 e1 F1 v rv => by
    have hv := rv.ofHeld (vv_held eq1)
    refine tA.bd A1 e1 F1 fun ds h2 ρ2 H2 vs g2 A2 rs e2 F2 => ?_
    cases e2
    exact F2 ρ2 H2 (Go.refl _) A2 (v :: vs) (.cons (hv.go g2 A1.rep) rs)
  exact ⟨ρ, S, h, ra, A, e1, F1⟩
theorem ja_star {ex : Expr} {es : List Expr} {f : EF} {fs : AF} {p : Pos} (j : JE X Wx ex f) (js : JA X Wx es fs) :
    JA X Wx (.Starred ex p :: es) (fun S h => bd (f S h) fun x h1 => match sqD h1 x with
      | some xs => bd (fs S h1) fun ds h2 => some (.ok (xs ++ ds), h2)
      | none => none) := by
  refine PA.imp (StX.pa_star j js) fun σ H Q ⟨ρ, S, h, rr, A, e, F⟩ => ?_
  refine tE.bd A e F fun x h1 ρ1 H1 vx g1 A1 rx e1 F1 => ?_
  split at e1
  · rename_i xs es
    obtain ⟨a, vs, rfl, q, rl⟩ := sq_of A1 rx es
    refine ⟨a, vs, rfl, q.symm, ?_⟩
    refine tA.bd A1 e1 F1 fun ds h2 ρ2 H2 ws g2 A2 rs e2 F2 => ?_
    cases e2
    exact F2 ρ2 H2 (Go.refl _) A2 (vs ++ ws) ((rl.go g2 A1.rep).append rs)
  · cases e1
theorem je_tup {es : List Expr} {fs : AF} {k : Nat} {pos : Pos} (js : JA X Wx es fs) : JE X Wx (.Tuple es k pos) (fun S h => bd (fs S h) fun ds h1 => if ds.length ≤ sizeLine then some (.ok (.tup ds), h1) else none) := by
  refine PE.imp (pe_tup js) fun σ H Q ⟨ρ, S, h, rr, A, e, F⟩ => ?_
  refine tA.bd A e F fun ds h1 ρ1 H1 vs g1 A1 rs e1 F1 => ?_
  split at e1
  · rename_i c
    cases e1
    refine ⟨by rw [rs.length]; exact c, fun p hp => ?_⟩
    obtain ⟨g, A', r'⟩ := A1.newT hp rs
    exact F1 ρ1 _ g A' _ (.held r')
  · cases e1
theorem je_lst {es : List Expr} {fs : AF} {pos : Pos} (js : JA X Wx es fs) : JE X Wx (.List es pos) (fun S h => bd (fs S h) fun ds h1 => if ds.length ≤ sizeLine then some (.ok (.lst ds), h1) else none) := by
  refine PE.imp (pe_lst js) fun σ H Q ⟨ρ, S, h, rr, A, e, F⟩ => ?_
  refine tA.bd A e F fun ds h1 ρ1 H1 vs g1 A1 rs e1 F1 => ?_
  split at e1
  · rename_i c
    cases e1
    refine ⟨by rw [rs.length]; exact c, fun p hp => ?_⟩
    obtain ⟨g, A', r'⟩ := A1.new hp (g1.dom _ hp) rs
    exact F1 ρ1 _ g A' _ r'
  · cases e1

theorem je_dic0 {pos : Pos} : JE X Wx (.Dict [] [] pos) (fun _ h => some (.ok (.ref h.length), h ++ [.dic []])) := by
  refine PE.imp pe_dnewK fun σ H Q ⟨ρ, S, h, r, A, e, F⟩ => ?_
  cases e
  intro p hp
  obtain ⟨g, A1⟩ := A.tmp (o := .dK []) hp
  obtain ⟨g2, A2, r2, _⟩ := A1.give (o := .dic []) g (A.rep.ne hp) hp fun le => .dic upd_same rfl .nil
  exact F _ _ g2 A2 _ (.held r2)

theorem je_bad {ex : Expr} : JE X Wx ex (fun _ _ => none) := ⟨fun pins s σ H Q I q => by
  obtain ⟨_, _, _, _, _, e, _⟩ := q
  cases e⟩
theorem jt_bad {ex : Expr} : JT X Wx ex (fun _ _ => none) := ⟨fun pins s σ H Q I q => by
  obtain ⟨_, _, _, _, _, e, _⟩ := q
  cases e⟩
theorem RL.look {W : Wd} {f : Str} {d : D} : ∀ {gs : List (Str × V)} {fs : List (Str × D)}, gs.map (·.1) = fs.map (·.1) → RL W (gs.map (·.2)) (fs.map (·.2)) → fs.lookup f = some d → ∃ v, gs.lookup f = some v ∧ R W v d
  | [], [], _, _, e => by cases e
  | [], _ :: _, h, _, _ => by cases h
  | _ :: _, [], h, _, _ => by cases h
  | (a, v) :: gs, (b, x) :: fs, h, r, e => by
    have h1 : a = b := (List.cons.inj h).1
    have h2 := (List.cons.inj h).2
    subst h1
    cases r with
    | cons r0 r1 =>
      rw [List.lookup_cons] at e ⊢
      cases z : f == a with
      | true => rw [z] at e; cases e; exact ⟨v, rfl, r0⟩
      | false => rw [z] at e; exact RL.look h2 r1 e
theorem look_none {f : Str} : ∀ {gs : List (Str × V)} {fs : List (Str × D)}, gs.map (·.1) = fs.map (·.1) → fs.lookup f = none → gs.lookup f = none
  | [], _, _, _ => rfl
  | _ :: _, [], h, _ => by cases h
  | (a, v) :: gs, (b, x) :: fs, h, e => by
    have h1 : a = b := (List.cons.inj h).1
    subst h1
    rw [List.lookup_cons] at e ⊢
    cases z : f == a with
    | true => rw [z] at e; cases e
    | false => rw [z] at e; exact look_none (List.cons.inj h).2 e
theorem RE.ref_inv {W : Wd} {H0 : Hp} {v : V} {n : Nat} (r : RE W H0 v (.ref n)) : R W v (.ref n) := by
  cases r with
  | held r => exact r
theorem je_fldc {a : Expr} {f : Str} {cs : List Str} {fa : EF} {pos : Pos} (c : Cok G Φ Γ X Wx) (ja : JE X Wx a fa) (hs : nsup a = true) (hc : ∀ C ∈ cs, (C, f) ∈ G.noat) :
    JE X Wx (.Attribute a f pos) (fun S h => bd (fa S h) fun x h1 => match x with
      | .ref n => match h1[n]? with
        | some (.ins C fs) => if C ∈ cs then pu (fs.lookup f) h1 else none
        | _ => none
      | _ => none) := by
  refine PE.imp (pe_fld ja (base_of hs)) fun σ H Q ⟨ρ, S, h, rr, A, e, F⟩ => ?_
  refine tE.bd A e F fun d h1 ρ1 H1 v g A1 rv ek F1 => ?_
  cases d with
  | ref n =>
    have rr := rv.ref_inv
    simp only at ek
    split at ek
    · rename_i C fs ec
      split at ek
      · rename_i hC
        cases q : fs.lookup f with
        | none => rw [q] at ek; cases ek
        | some d =>
          rw [q] at ek
          cases ek
          obtain ⟨u, rfl, eu⟩ : ∃ u, v = .ref u ∧ u = ρ1 n := by
            cases rr with
            | ref _ => exact ⟨_, rfl, rfl⟩
          subst eu
          cases A1.rep.obj n _ ec with
          | ins cc hh en rl =>
            rename_i Ca dx gs
            obtain ⟨k1, k2⟩ := c.noat C f (hc C hC) Ca cc
            obtain ⟨w, l, rw'⟩ := RL.look en rl q
            exact ⟨_, Ca, dx, gs, w, rfl, hh, k1, k2, l, F1 _ _ (Go.refl _) A1 _ (.held rw')⟩
      · cases ek
    · cases ek
  | _ => cases ek

/-! ### what is behind a call -/
mutual
theorem R.cut {W : Wd} {n : Nat} : ∀ {v : V} {d : D}, R W v d → clD n d = true → R { W with n := n } v d
  | _, _, .non, _ => .non
  | _, _, .bl b, _ => .bl b
  | _, _, .int b, _ => .int b
  | _, _, .str b, _ => .str b
  | _, _, .ty b, _ => .ty b
  | _, _, .ref i hi, c => .ref (W := { W with n := n }) i (by simpa [clD] using c)
  | _, _, .tup q r, c => .tup q (RL.cut r (by simpa [clD] using c))
  | _, _, .frl q r, c => .frl q (RL.cut r (by simpa [clD] using c))
  | _, _, .fn e, _ => .fn e
  | _, _, .cls e, _ => .cls e
theorem RL.cut {W : Wd} {n : Nat} : ∀ {vs : List V} {ds : List D}, RL W vs ds → clL n ds = true → RL { W with n := n } vs ds
  | _, _, .nil, _ => .nil
  | _, _, .cons r t, c => by
    simp only [clL, Bool.and_eq_true] at c
    exact .cons (R.cut r c.1) (RL.cut t c.2)
end
mutual
theorem R.cl {W : Wd} : ∀ {v : V} {d : D}, R W v d → clD W.n d = true
  | _, _, .non => rfl
  | _, _, .bl b => rfl
  | _, _, .int b => rfl
  | _, _, .str b => rfl
  | _, _, .ty b => rfl
  | _, _, .ref i hi => by simpa [clD] using hi
  | _, _, .tup q r => by simp only [clD]; exact RL.cl r
  | _, _, .frl q r => by simp only [clD]; exact RL.cl r
  | _, _, .fn e => rfl
  | _, _, .cls e => rfl
theorem RL.cl {W : Wd} : ∀ {vs : List V} {ds : List D}, RL W vs ds → clL W.n ds = true
  | _, _, .nil => rfl
  | _, _, .cons r t => by simp only [clL, Bool.and_eq_true]; exact ⟨R.cl r, RL.cl t⟩
end
theorem RO.cl {W : Wd} {a : Addr} {o : O} (r : RO W a o) : clO W.n o = true := by
  cases r with
  | lst _ rl => exact rl.cl
  | dic _ _ rl => exact rl.cl
  | ins _ _ _ rl => exact rl.cl
  | fdc _ _ rl => exact rl.cl
theorem RO.cut {W : Wd} {a : Addr} {o : O} {n : Nat} (r : RO W a o) (c : clO n o = true) : RO { W with n := n } a o := by
  cases r with
  | lst q rl => exact .lst q (rl.cut c)
  | dic q z rl => exact .dic q z (rl.cut c)
  | ins k q z rl => exact .ins k q z (rl.cut c)
  | fdc q z rl => exact .fdc q z (rl.cut c)
theorem At.cut {ρ ρ2 : Nat → Addr} {h h2 : Hh} {H H2 : Hp} {σ : St} {S : Sl} (A0 : At X ρ h H σ S) (g : Go (wd X ρ h H) (wd X ρ2 h2 H2)) (p2 : Rep (wd X ρ2 h2 H2) h2) (ok : okH h h2) :
    wd X ρ2 (h2.take h.length) H2 = { wd X ρ2 h2 H2 with n := h.length } ∧ Go (wd X ρ h H) (wd X ρ2 (h2.take h.length) H2) ∧ At X ρ2 (h2.take h.length) H2 σ S := by
  have hn : h.length ≤ h2.length := g.n
  have hl : (h2.take h.length).length = h.length := by rw [List.length_take]; omega
  have ew : wd X ρ2 (h2.take h.length) H2 = { wd X ρ2 h2 H2 with n := h.length } := by
    show (⟨X.K, X.mg, ρ2, (h2.take h.length).length, H2⟩ : Wd) = ⟨X.K, X.mg, ρ2, h.length, H2⟩
    rw [hl]
  have g' : Go (wd X ρ h H) (wd X ρ2 (h2.take h.length) H2) := by
    rw [ew]
    refine ⟨rfl, rfl, Nat.le_refl _, g.ag, g.keep, g.dom, fun i a b => ?_, g.frz⟩
    have a' : h.length ≤ i := a
    have b' : i < h.length := b
    omega
  refine ⟨ew, g', ⟨?_, A0.sl.go g' A0.rep⟩⟩
  refine ⟨by rw [ew]; exact hl.symm, fun i j hi hj z => ?_, fun i o e => ?_⟩
  · rw [ew] at hi hj
    have hi' : i < h.length := hi
    have hj' : j < h.length := hj
    exact p2.inj i j (show i < h2.length by omega) (show j < h2.length by omega) z
  · have hi : i < h.length := by
      have := (List.getElem?_eq_some_iff.mp e).1
      omega
    rw [List.getElem?_take_of_lt hi] at e
    rw [ew]
    refine (p2.obj i o e).cut ?_
    rcases ok with z | z
    · have e' : h[i]? = some o := by
        rw [← z, List.getElem?_take_of_lt hi]
        exact e
      exact (A0.rep.obj i o e').cl
    · refine List.all_eq_true.mp z o (List.mem_of_getElem? (i := i) ?_)
      rw [List.getElem?_take_of_lt hi]
      exact e
open Classical in
theorem fix_ok {ρ ρ2 : Nat → Addr} {h h2 : Hh} {H H2 : Hp} {σ : St} {S : Sl} {v : V} {d : D} {r : Rs D × Hh} (A0 : At X ρ h H σ S) (g : Go (wd X ρ h H) (wd X ρ2 h2 H2)) (A2 : At X ρ2 h2 H2 σ S) (rv : RE (wd X ρ2 h2 H2) H v d)
    (e : fix h d h2 = some r) : ∃ d' h', r = (.ok d', h') ∧ Go (wd X ρ h H) (wd X ρ2 h' H2) ∧ At X ρ2 h' H2 σ S ∧ RE (wd X ρ2 h' H2) H v d' := by
  have same : some (Rs.ok d, h2) = some r → ∃ d' h', r = (.ok d', h') ∧ Go (wd X ρ h H) (wd X ρ2 h' H2) ∧ At X ρ2 h' H2 σ S ∧ RE (wd X ρ2 h' H2) H v d' := fun z => by
    cases z
    exact ⟨d, h2, rfl, g, A2, rv⟩
  have plain : (∀ m, d ≠ .ref m) → fix h d h2 = (if okH h h2 ∧ clD h.length d = true then some (Rs.ok d, h2.take h.length) else some (Rs.ok d, h2)) := fun nr => by
    cases d <;> first | rfl | exact absurd rfl (nr _)
  by_cases c : ∃ m, d = .ref m
  · obtain ⟨m, rfl⟩ := c
    simp only [fix] at e
    split at e
    · rename_i hm
      split at e
      · rename_i ok
        cases e
        obtain ⟨ew, g', A'⟩ := A0.cut g A2.rep ok
        refine ⟨_, _, rfl, g', A', ?_⟩
        rw [ew]
        cases rv with
        | held rv => exact .held (rv.cut (by simpa [clD] using hm))
      · exact same e
    · rename_i hm
      split at e
      · rename_i xs ex
        split at e
        · rename_i ok
          cases e
          obtain ⟨ew, g', A'⟩ := A0.cut g A2.rep ok.1
          refine ⟨_, _, rfl, g', A', ?_⟩
          cases rv with
          | held rv =>
            cases rv with
            | ref m hm2 =>
              cases A2.rep.obj m _ ex with
              | lst q rl =>
                refine .new q (fun i hi z => ?_) (g.fresh m (by show h.length ≤ m; omega) hm2) (by rw [ew]; exact rl.cut ok.2)
                rw [ew] at hi
                have hi' : i < h.length := hi
                have hn : h.length ≤ h2.length := g.n
                have := A2.rep.inj i m (show i < h2.length by omega) hm2 z
                omega
        · exact same e
      · exact same e
  · rw [plain fun m z => c ⟨m, z⟩] at e
    split at e
    · rename_i ok
      cases e
      obtain ⟨ew, g', A'⟩ := A0.cut g A2.rep ok.1
      refine ⟨_, _, rfl, g', A', ?_⟩
      cases rv with
      | held rv => rw [ew]; exact .held (rv.cut ok.2)
      | new q f n0 rl =>
        refine .new q (fun i hi => ?_) n0 (by rw [ew]; exact rl.cut (by simpa [clD] using ok.2))
        rw [ew] at hi
        have hi' : i < h.length := hi
        have hn : h.length ≤ h2.length := g.n
        exact f i (show i < h2.length by omega)
    · exact same e

/-! ### calls -/
theorem je_call {x : Str} {e0 : Expr} {es : List Expr} {fs : AF} {p pos : Pos} (c : Cok G Φ Γ X Wx) (hg : glB Γ.sc x = true) (ho : okName x = true) {n : Nat} (hf : G.fns.lookup x = some n) (js : JA X Wx (e0 :: es) fs)
    (ns : ∀ y q, e0 ≠ .Starred y q) (hpl : ∀ pos, (backTo pos (starEach es X.env)).any (·.1) = false) (hlen : ∀ S h ds h', fs S h = some (.ok ds, h') → ds.length = n) :
    JE X Wx (.Call (.Name x p) (e0 :: es) [] pos) (fun S h => bd (fs S h) fun ds h1 => bd (Φ x ds h1) fun d h2 => fix h d h2) := by
  obtain ⟨o1, o2, o3⟩ := okName_d ho
  obtain ⟨f, fd, ps, k, F, hr, hm, hk, hb⟩ := (c.fns x n hf).ex
  refine PE.imp (pe_callSD (E := fun σ => WE Wx σ) F hr (gl_of c hg) hm hk hb .nil (fun σ => passAt c.takes σ) js o1 (starEach_of ns) (hpl _)) fun σ H Q ⟨ρ, S, h, rr, A, e, Fi⟩ => ?_
  obtain ⟨ra, e1, F1⟩ := Fin.bd (Pa := fun ρ' h' H' ds => ∀ vs, RL (wd X ρ' h' H') vs ds → spF X.prog X.w X.K X.mg Φ x n (vs ++ []) H' Q (WE Wx σ)) e Fi fun ds h1 ρ1 H1 eq1 g1 A1 e1 F1 vs rs => by
    rw [List.append_nil]
    refine ⟨ρ1, h1, ds, ?_⟩
    cases z : Φ x ds h1 with
    | none => rw [z] at e1; cases e1
    | some r =>
      refine ⟨r, A1.rep, rs, hlen _ _ _ _ eq1, rfl, ?_⟩
      match r, z with
      | (.ok d, h'), z =>
        rw [z] at e1
        intro ρ' H' v g2 p2 rv
        have e2 : fix h d h' = some rr := e1
        have A2 : At X ρ' h' H' σ S := ⟨p2, A1.sl.go g2 A1.rep⟩
        obtain ⟨d', h3, rfl, g3, A3, r3⟩ := fix_ok A (g1.trans g2) A2 (rv.since g1) e2
        exact Fi ρ' H' g3 A3 v r3
      | (.ex C fs', h'), z =>
        rw [z] at e1
        intro ρ' H' cls dx g2 p2 rx
        have e2 : some (Rs.ex C fs', h') = some rr := e1
        cases e2
        exact Fi ρ' H' cls dx (g1.trans g2) ⟨p2, A1.sl.go g2 A1.rep⟩ rx
  exact ⟨ρ, S, h, ra, A, e1, F1⟩
theorem je_call0 {x : Str} {p pos : Pos} (c : Cok G Φ Γ X Wx) (hg : glB Γ.sc x = true) (ho : okName x = true) (hf : G.fns.lookup x = some 0) :
    JE X Wx (.Call (.Name x p) [] [] pos) (fun S h => match Φ x [] h with
      | some (.ok d, h2) => fix h d h2
      | _ => none) := by
  obtain ⟨o1, o2, o3⟩ := okName_d ho
  obtain ⟨f, fd, ps, k, F, hr, hm, hk, hb⟩ := (c.fns x 0 hf).ex
  refine PE.imp (pe_call0 F hr (gl_of c hg) hm hk hb .nil passL o1) fun σ H Q ⟨ρ, S, h, rr, A, e, Fi⟩ => ?_
  dsimp only at e
  split at e
  · rename_i d h2 z
    refine ⟨ρ, h, [], _, A.rep, .nil, rfl, z, fun ρ' H' v g2 p2 rv => ?_⟩
    have A2 : At X ρ' h2 H' σ S := ⟨p2, A.sl.go g2 A.rep⟩
    obtain ⟨d', h3, rfl, g3, A3, r3⟩ := fix_ok A g2 A2 rv e
    exact Fi ρ' H' g3 A3 v r3
  · cases e
theorem meth_ht {o : Expr} {m : Str} {apos pos : Pos} {es : List Expr} {env : Env} (hs : nsup o = true) (hl : (apos.endLine == pos.line) = true) (hp : (backTo pos (starEach es env)).all (fun x => !x.1) = true) (h30 : es.length < 30) :
    eval (.Call (.Attribute o m apos) es [] pos) env = (do
        let ov ← eval o env
        standAt apos.atName
        let (f, first) ← holding [ov] (getMethod ov m (do return (← importBound o env).getD true))
        callWith pos f first (backTo pos (starEach es env)) (backToKw pos (keywordEach [] env))) := by
  show (do
    let ov ← attributeBase o m env (eval o env)
    standAt apos.atName
    methodCall o m apos pos env ov (es.length + ([] : List Keyword).length) (backTo pos (starEach es env)) (backToKw pos (keywordEach [] env))) = _
  rw [base_of hs]
  have hf : methodCallForm (es.length + ([] : List Keyword).length) (backTo pos (starEach es env)) (backToKw pos (keywordEach [] env)) = true := by
    unfold methodCallForm
    rw [hp]
    show (true && true && decide (es.length + 0 + 0 < 30)) = true
    simpa using h30
  unfold methodCall
  simp only [hf, calleeOf, methodCallPos, hl]
  rfl
theorem omth_end {q : Str} {n : Nat} {ρ ρ1 ρ2 : Nat → Addr} {h h1 h2 : Hh} {H H1 H2 : Hp} {σ : St} {S : Sl} {rr : Rs D × Hh} {Q : VK} {v : V} {i : Nat} {vs : List V} {ds : List D} (A : At X ρ h H σ S) (g : Go (wd X ρ h H) (wd X ρ1 h1 H1)) (A1 : At X ρ1 h1 H1 σ S) (rv : R (wd X ρ1 h1 H1) v (.ref i))
    (g2 : Go (wd X ρ1 h1 H1) (wd X ρ2 h2 H2)) (A2 : At X ρ2 h2 H2 σ S) (rs : RL (wd X ρ2 h2 H2) vs ds) (hl : ds.length + 1 = n) (e : (match Φ q (.ref i :: ds) h2 with | some (.ok d, h3) => fix h d h3 | _ => none) = some rr)
    (F : Fin X Wx ρ h H σ S rr fun ρ' h' H' d => ∀ v, RE (wd X ρ' h' H') H v d → Q v H') (E : XK) : spF X.prog X.w X.K X.mg Φ q n (v :: (vs ++ [])) H2 Q E := by
  rw [List.append_nil]
  cases z : Φ q (.ref i :: ds) h2 with
  | none => rw [z] at e; cases e
  | some r =>
    rw [z] at e
    match r, z, e with
    | (.ex C fs, h'), z, e => cases e
    | (.ok d, h'), z, e =>
      refine ⟨ρ2, h2, .ref i :: ds, _, A2.rep, .cons (rv.go g2 A1.rep) rs, hl, z, fun ρ' H' v' g3 p3 rv' => ?_⟩
      have A3 : At X ρ' h' H' σ S := ⟨p3, A2.sl.go g3 A2.rep⟩
      have g12 := g.trans g2
      obtain ⟨d', h3, rfl, g4, A4, r4⟩ := fix_ok A (g12.trans g3) A3 (rv'.since g12) e
      exact F ρ' H' g4 A4 v' r4
theorem je_omth0 {C m q : Str} {a : Expr} {fa : EF} {apos pos : Pos} (c : Cok G Φ Γ X Wx) (ja : JE X Wx a fa) (hs : nsup a = true) (hl : (apos.endLine == pos.line) = true) (hm : (C, m, q, 1) ∈ G.mets) :
    JE X Wx (.Call (.Attribute a m apos) [] [] pos) (fun S h => bd (fa S h) fun x h1 => match x with
      | .ref n => match h1[n]? with
        | some (.ins B fs) => if B = C ∧ fs.lookup m = none then bd (some (.ok [], h1) : M (List D)) fun ds h2 => (match Φ q (.ref n :: ds) h2 with
          | some (.ok d, h3) => fix h d h3
          | _ => none) else none
        | _ => none
      | _ => none) := by
  obtain ⟨Ca, g, fd, ps, k, mC, cl, me, Fn, hr, hb⟩ := c.mets C m q 1 hm
  refine PE.imp (pe_meth0 ja cl me Fn hr hb .nil passL (meth_ht hs hl rfl (by decide))) fun σ H Q ⟨ρ, S, h, rr, A, e, F⟩ => ?_
  refine tE.bd A e F fun d h1 ρ1 H1 v g1 A1 rv ek F1 => ?_
  cases d with
  | ref i =>
    have r1 := rv.ref_inv
    simp only at ek
    split at ek
    · rename_i B fs ec
      split at ek
      · rename_i hC
        obtain ⟨rfl, hn⟩ := hC
        obtain ⟨rfl⟩ : v = .ref (ρ1 i) := by cases r1; rfl
        cases A1.rep.obj i _ ec with
        | ins cc hh en rl =>
          have cc' := mC.symm.trans cc
          cases cc'
          exact ⟨_, _, _, rfl, hh, look_none en hn, omth_end A g1 A1 r1 (Go.refl _) A1 .nil rfl ek F _⟩
      · cases ek
    · cases ek
  | _ => cases ek
theorem je_omth {C m q : Str} {a e0 : Expr} {es : List Expr} {fa : EF} {fs : AF} {apos pos : Pos} (c : Cok G Φ Γ X Wx) (ja : JE X Wx a fa) (hs : nsup a = true) (hl : (apos.endLine == pos.line) = true) {n : Nat} (hm : (C, m, q, n) ∈ G.mets) (js : JA X Wx (e0 :: es) fs)
    (ns : ∀ y q, e0 ≠ .Starred y q) (hpl : ∀ pos, (backTo pos (starEach es X.env)).any (·.1) = false) (h30 : (e0 :: es).length < 30) (hlen : ∀ S h ds h', fs S h = some (.ok ds, h') → ds.length + 1 = n) :
    JE X Wx (.Call (.Attribute a m apos) (e0 :: es) [] pos) (fun S h => bd (fa S h) fun x h1 => match x with
      | .ref n => match h1[n]? with
        | some (.ins B gs) => if B = C ∧ gs.lookup m = none then bd (fs S h1) fun ds h2 => (match Φ q (.ref n :: ds) h2 with
          | some (.ok d, h3) => fix h d h3
          | _ => none) else none
        | _ => none
      | _ => none) := by
  obtain ⟨Ca, g, fd, ps, k, mC, cl, me, Fn, hr, hb⟩ := c.mets C m q n hm
  have hall : (backTo pos (starEach (e0 :: es) X.env)).all (fun x => !x.1) = true := by
    rw [starEach_of ns]
    have := hpl pos
    rw [List.any_eq_false] at this
    show ((!false) && (backTo pos (starEach es X.env)).all (fun x => !x.1)) = true
    rw [Bool.not_false, Bool.true_and, List.all_eq_true]
    intro x hx
    have := this x hx
    simpa using this
  refine PE.imp (pe_meth ja cl me Fn hr hb .nil passL js (starEach_of ns) (hpl pos) (meth_ht hs hl hall h30)) fun σ H Q ⟨ρ, S, h, rr, A, e, F⟩ => ?_
  refine tE.bd A e F fun d h1 ρ1 H1 v g1 A1 rv ek F1 => ?_
  cases d with
  | ref i =>
    have r1 := rv.ref_inv
    simp only at ek
    split at ek
    · rename_i B gs ec
      split at ek
      · rename_i hC
        obtain ⟨rfl, hn⟩ := hC
        obtain ⟨rfl⟩ : v = .ref (ρ1 i) := by cases r1; rfl
        cases A1.rep.obj i _ ec with
        | ins cc hh en rl =>
          have cc' := mC.symm.trans cc
          cases cc'
          refine ⟨_, _, _, rfl, hh, look_none en hn, ?_⟩
          obtain ⟨ra, e1, F2⟩ := Fin.bd (Pa := fun ρ' h' H' ds => ∀ vs, RL (wd X ρ' h' H') vs ds → spF X.prog X.w X.K X.mg Φ q n (.ref (ρ1 i) :: (vs ++ [])) H' Q E0) ek F1 fun ds h2 ρ2 H2 eq2 g2 A2 e2 F3 vs rs =>
            omth_end A g1 A1 r1 g2 A2 rs (hlen _ _ _ _ eq2) e2 F _
          exact ⟨ρ1, S, h1, ra, A1, e1, F2⟩
      · cases ek
    · cases ek
  | _ => cases ek
theorem mk_end {C q : Str} {Ca : Addr} {n : Nat} {ρ ρ1 : Nat → Addr} {h h1 : Hh} {H H1 : Hp} {σ : St} {S : Sl} {rr : Rs D × Hh} {Q : VK} {vs : List V} {ds : List D} (mC : X.mg C = some (.ref Ca)) (A : At X ρ h H σ S) (g : Go (wd X ρ h H) (wd X ρ1 h1 H1)) (A1 : At X ρ1 h1 H1 σ S)
    (rs : RL (wd X ρ1 h1 H1) vs ds) (hl : ds.length + 1 = n) (e : (match Φ q (.ref h1.length :: ds) (h1 ++ [.ins C []]) with | some (.ok .non, h2) => some (.ok (.ref h1.length), h2) | _ => none) = some rr)
    (F : Fin X Wx ρ h H σ S rr fun ρ' h' H' d => ∀ v, RE (wd X ρ' h' H') H v d → Q v H') (E : XK) (x dx : Addr) (hx : H1 x = none) (hdx : H1 dx = none) (ne : dx ≠ x) :
    spF X.prog X.w X.K X.mg Φ q n (.ref x :: (vs ++ [])) (upd (upd H1 dx (.own x)) x (.ins Ca dx [])) (fun v H2 => v = .non ∧ Q (.ref x) H2) E := by
  rw [List.append_nil]
  obtain ⟨ga, Aa⟩ := A1.tmp (o := .own x) hdx
  have hx' : upd H1 dx (.own x) x = none := by rw [upd_ne ne.symm]; exact hx
  obtain ⟨gb, Ab⟩ := Aa.tmp (o := .ins Ca dx []) hx'
  obtain ⟨gc, Ac, rc, le⟩ := Ab.give (o := .ins C []) (ga.trans gb) (A1.rep.ne hx) hx fun le => .ins mC upd_same rfl .nil
  split at e
  · rename_i h2 z
    cases e
    refine ⟨_, _, .ref h1.length :: ds, _, Ac.rep, .cons rc (rs.go gc A1.rep), hl, z, fun ρ' H' v g3 p3 rv => ⟨rv.non_inv, ?_⟩⟩
    have A3 : At X ρ' h2 H' σ S := ⟨p3, Ac.sl.go g3 Ac.rep⟩
    exact F ρ' H' (g.trans (gc.trans g3)) A3 (.ref x) (.held (rc.go g3 Ac.rep))
  · cases e
theorem je_mk0 {C q : Str} {p pos : Pos} (c : Cok G Φ Γ X Wx) (hg : glB Γ.sc C = true) (ho : okName C = true) (hm : (C, q, 1) ∈ G.mks) :
    JE X Wx (.Call (.Name C p) [] [] pos) (fun S h => bd (some (.ok [], h) : M (List D)) fun ds h1 => match Φ q (.ref h1.length :: ds) (h1 ++ [.ins C []]) with
      | some (.ok .non, h2) => some (.ok (.ref h1.length), h2)
      | _ => none) := by
  obtain ⟨Ca, g, fd, ps, k, mC, me, Fn, hr, hb⟩ := c.mks C q 1 hm
  refine PE.imp (pe_make0 me Fn hr (gl_of c hg) mC hb .nil passL (okName_d ho).1) fun σ H Q ⟨ρ, S, h, rr, A, e, F⟩ => ?_
  intro x dx hx hdx ne
  exact mk_end mC A (Go.refl _) A .nil rfl e F _ x dx hx hdx ne
theorem je_mk {C q : Str} {e0 : Expr} {es : List Expr} {fs : AF} {p pos : Pos} (c : Cok G Φ Γ X Wx) (hg : glB Γ.sc C = true) (ho : okName C = true) {n : Nat} (hm : (C, q, n) ∈ G.mks) (js : JA X Wx (e0 :: es) fs)
    (ns : ∀ y q, e0 ≠ .Starred y q) (hpl : ∀ pos, (backTo pos (starEach es X.env)).any (·.1) = false) (hlen : ∀ S h ds h', fs S h = some (.ok ds, h') → ds.length + 1 = n) :
    JE X Wx (.Call (.Name C p) (e0 :: es) [] pos) (fun S h => bd (fs S h) fun ds h1 => match Φ q (.ref h1.length :: ds) (h1 ++ [.ins C []]) with
      | some (.ok .non, h2) => some (.ok (.ref h1.length), h2)
      | _ => none) := by
  obtain ⟨Ca, g, fd, ps, k, mC, me, Fn, hr, hb⟩ := c.mks C q n hm
  refine PE.imp (pe_make me Fn hr (gl_of c hg) mC hb .nil passL js (okName_d ho).1 (starEach_of ns) (hpl _)) fun σ H Q ⟨ρ, S, h, rr, A, e, F⟩ => ?_
  obtain ⟨ra, e1, F1⟩ := Fin.bd (Pa := fun ρ' h' H' ds => ∀ vs, RL (wd X ρ' h' H') vs ds → ∀ x dx, H' x = none → H' dx = none → dx ≠ x → spF X.prog X.w X.K X.mg Φ q n (.ref x :: (vs ++ [])) (upd (upd H' dx (.own x)) x (.ins Ca dx [])) (fun v H2 => v = .non ∧ Q (.ref x) H2) E0) e F fun ds h1 ρ1 H1 eq1 g1 A1 e1 F1 vs rs x dx hx hdx ne =>
    mk_end mC A g1 A1 rs (hlen _ _ _ _ eq1) e1 F _ x dx hx hdx ne
  exact ⟨ρ, S, h, ra, A, e1, F1⟩
/-! ### f-strings -/
theorem je_fv {a : Expr} {fa : EF} {pos : Pos} (j : JE X Wx a fa) : JE X Wx (.FormattedValue a (-1) none pos) (fun S h => bd (fa S h) fun x h1 => match x with
      | .str y => if y.length ≤ sizeLine then some (.ok (.str y), h1) else none
      | .int i => if i.natAbs.log2 < 1920 then some (.ok (.str (toString i)), h1) else none
      | _ => none) := by
  refine PE.imp (pe_fmt j) fun σ H Q ⟨ρ, S, h, rr, A, e, F⟩ => ?_
  refine tE.bd A e F fun d h1 ρ1 H1 v g A1 rv ek F1 => ?_
  cases d with
  | str y =>
    simp only at ek
    split at ek
    · rename_i c
      cases ek
      exact .inl ⟨y, rv.str_inv, c, F1 ρ1 H1 (Go.refl _) A1 _ (.held (.str y))⟩
    · cases ek
  | int i =>
    simp only at ek
    split at ek
    · rename_i c
      cases ek
      exact .inr ⟨i, rv.int_inv, c, F1 ρ1 H1 (Go.refl _) A1 _ (.held (.str _))⟩
    · cases ek
  | _ => cases ek
def tsOf (X : Cx) (Wx : WX) (G : List (Str × D)) (Φ : CallF) : EL → List TE
  | .nil => []
  | .cons _ e es => tE X Wx ((ev G Φ e).v) :: tsOf X Wx G Φ es
theorem fj {Gl : List (Str × D)} {σ : St} {S : Sl} {Q : Str → Hp → Prop} : ∀ (es : EL) (acc : Str) {ρ : Nat → Addr} {h : Hh} {H : Hp} {r : Rs Str × Hh}, At X ρ h H σ S → evF Gl Φ es acc S h = some r → Fin X Wx ρ h H σ S r (fun _ _ H' y => Q y H') → tJs (tsOf X Wx Gl Φ es) acc σ H Q
  | .nil, acc, ρ, h, H, r, A, e, F => by
    simp only [evF, Option.some.injEq] at e
    subst e
    exact F ρ H (Go.refl _) A
  | .cons st e0 es, acc, ρ, h, H, r, A, e, F => by
    simp only [evF] at e
    show tE X Wx ((ev Gl Φ e0).v) σ H _
    refine tE.bd A e F fun d h1 ρ1 H1 v g A1 rv ek F1 => ?_
    cases d with
    | str y =>
      simp only at ek
      split at ek
      · rename_i c
        exact ⟨y, rv.str_inv, c, fj es _ A1 ek F1⟩
      · cases ek
    | _ => cases ek
theorem je_fmt {Gl : List (Str × D)} {x y : Expr} {r : List Expr} {ps : EL} {pos : Pos} (p : PJ X (x :: y :: r) (tsOf X Wx Gl Φ ps)) : JE X Wx (.JoinedStr (x :: y :: r) pos) (fun S h => bd (evF Gl Φ ps Str.empty S h) fun z h1 => some (.ok (.str z), h1)) := by
  refine PE.imp (pe_joined p) fun σ H Q ⟨ρ, S, h, rr, A, e, F⟩ => ?_
  obtain ⟨ra, e1, F1⟩ := Fin.bd (Pa := fun _ _ H' y => Q (.str y) H') e F fun z h1 ρ' H' eq g A1 ek F1 => by
    cases ek
    exact F1 ρ' H' (Go.refl _) A1 _ (.held (.str z))
  exact fj ps _ A e1 F1
end
end Z

/-! Z7: built-ins, methods, subscripts, comprehensions -/
namespace Z
open PySem L2
section
variable {G : Gs} {Φ : CallF} {Γ : Sc} {X : Cx} {Wx : WX}

/-- an object of ours is changed -/
theorem At.write {ρ : Nat → Addr} {h : Hh} {H : Hp} {σ : St} {S : Sl} (A : At X ρ h H σ S) {n : Nat} (hn : n < h.length) {u : HO} {o : O} (hz : ∀ ob w, H (ρ n) ≠ some (.frz ob w))
    (r : Le (wd X ρ h H) (wd X ρ (h.set n o) (upd H (ρ n) u)) → RO (wd X ρ (h.set n o) (upd H (ρ n) u)) (ρ n) o) :
    Go (wd X ρ h H) (wd X ρ (h.set n o) (upd H (ρ n) u)) ∧ At X ρ (h.set n o) (upd H (ρ n) u) σ S := by
  have hl : (h.set n o).length = h.length := List.length_set
  have g : Go (wd X ρ h H) (wd X ρ (h.set n o) (upd H (ρ n) u)) := by
    refine ⟨rfl, rfl, Nat.le_of_eq hl.symm, fun _ _ => rfl, fun a b q f => ?_, fun a q => ?_, fun i x y => ?_, fun a ob w q => ?_⟩
    · show upd H (ρ n) u a = some b
      rw [upd_ne (Ne.symm (f n hn))]
      exact q
    · have q' : upd H (ρ n) u a = none := q
      by_cases c : a = ρ n
      · rw [c, upd_same] at q'; cases q'
      · rwa [upd_ne c] at q'
    · have x' : h.length ≤ i := x
      have y' : i < (h.set n o).length := y
      omega
    · show upd H (ρ n) u a = some (.frz ob w)
      rw [upd_ne]
      · exact q
      · rintro rfl
        exact hz ob w q
  refine ⟨g, ⟨⟨rfl, fun i j hi hj => A.rep.inj i j (by have h1 : i < (h.set n o).length := hi; show i < h.length; omega) (by have h1 : j < (h.set n o).length := hj; show j < h.length; omega), fun i b q => ?_⟩, A.sl.go g A.rep⟩⟩
  by_cases c : n = i
  · subst c
    rw [List.getElem?_set_self hn] at q
    cases q
    exact r (g.le A.rep)
  · rw [List.getElem?_set_ne c] at q
    have hi : i < h.length := (List.getElem?_eq_some_iff.mp q).1
    refine (A.rep.obj i b q).keep g A.rep (upd_ne fun z => c ?_)
    exact (A.rep.inj i n hi hn z).symm

theorem pd_of {ρ : Nat → Addr} {h : Hh} {H H0 : Hp} : ∀ {vs : List V} {ds : List D}, RL (wd X ρ h H) vs ds → Paired (fun v d => RE (wd X ρ h H) H0 v d) vs ds
  | _, _, .nil => .nil
  | _, _, .cons r t => .cons (.held r) (pd_of t)

/-- f(e) of a built-in -/
theorem je_cal1 {x : Str} {ex : Expr} {f : EF} {p pos : Pos} {F : Value} {g : Hh → List D → Option D} (pe : ∀ {r : List V → Hp → VK → Prop} {t : TA}, CallR X F r → PA X [ex] t → PE X (.Call (.Name x p) [ex] [] pos) (tCB r t))
    (k : Cal X F g) (j : JE X Wx ex f) (ns : ∀ y p, ex ≠ .Starred y p) : JE X Wx (.Call (.Name x p) [ex] [] pos) (fun S h => bd (f S h) fun d h1 => pu (g h1 [d]) h1) := by
  obtain ⟨r, hr, k⟩ := k
  refine PE.imp (pe hr (pa_cons j pa_nil (starEach_of ns))) fun σ H Q ⟨ρ, S, h, rr, A, e, F⟩ => ?_
  refine tE.bd A e F fun d h1 ρ1 H1 v g1 A1 rv e1 F1 => ?_
  obtain ⟨d', ed, q⟩ := Fin.pu e1 F1
  exact k ρ1 h1 H1 σ S H [d] [v] d' Q A1 (fun a z => g1.dom a z) (.cons rv .nil) ed fun H' v' g' A' r' => q ρ1 H' g' A' v' r'
theorem je_cals {x : Str} {e0 : Expr} {es : List Expr} {fs : AF} {p pos : Pos} {F : Value} {g : Hh → List D → Option D} (pe : ∀ {r : List V → Hp → VK → Prop} {t : TA}, CallR X F r → PA X (e0 :: es) t → PE X (.Call (.Name x p) (e0 :: es) [] pos) (tCB r t))
    (k : Cal X F g) (js : JA X Wx (e0 :: es) fs) : JE X Wx (.Call (.Name x p) (e0 :: es) [] pos) (fun S h => bd (fs S h) fun ds h1 => pu (g h1 ds) h1) := by
  obtain ⟨r, hr, k⟩ := k
  refine PE.imp (pe hr js) fun σ H Q ⟨ρ, S, h, rr, A, e, F⟩ => ?_
  refine tA.bd A e F fun ds h1 ρ1 H1 vs g1 A1 rs e1 F1 => ?_
  obtain ⟨d', ed, q⟩ := Fin.pu e1 F1
  exact k ρ1 h1 H1 σ S H ds vs d' Q A1 (fun a z => g1.dom a z) (pd_of rs) ed fun H' v' g' A' r' => q ρ1 H' g' A' v' r'
theorem je_bl1 {x : Str} {b : Bn} {ex : Expr} {f : EF} {p pos : Pos} (c : Cok G Φ Γ X Wx) (hg : glB Γ.sc x = true) (ho : okName x = true) (hb : x ∈ G.blt) (hx : x = b.nm) (h1 : b.one = true) (j : JE X Wx ex f) (ns : ∀ y p, ex ≠ .Starred y p) :
    JE X Wx (.Call (.Name x p) [ex] [] pos) (fun S h => bd (f S h) fun d h1 => pu (bltD h1 b [d]) h1) := by
  obtain ⟨o1, o2, o3⟩ := okName_d ho
  have gl := gl_of c hg
  have mn := c.blt x hb
  subst hx
  cases b with
  | len => exact je_cal1 (fun hc ha => pe_callB hc gl mn (by decide +kernel) ha o3 o1 (starEach_of ns) rfl) cal_len j ns
  | sum => exact je_cal1 (fun hc ha => pe_callB hc gl mn (by decide +kernel) ha o3 o1 (starEach_of ns) rfl) (cal_sum c.calm) j ns
  | any => exact je_cal1 (fun hc ha => pe_callB hc gl mn (by decide +kernel) ha o3 o1 (starEach_of ns) rfl) (cal_any c.calm) j ns
  | all => exact je_cal1 (fun hc ha => pe_callB hc gl mn (by decide +kernel) ha o3 o1 (starEach_of ns) rfl) (cal_all c.calm) j ns
  | str => exact je_cal1 (fun hc ha => pe_callTy hc gl mn (by decide +kernel) ha o3 o1 (starEach_of ns) rfl) cal_str j ns
  | int => exact je_cal1 (fun hc ha => pe_callTy hc gl mn (by decide +kernel) ha o3 o1 (starEach_of ns) rfl) cal_int j ns
  | list => exact je_cal1 (fun hc ha => pe_callTy hc gl mn (by decide +kernel) ha o3 o1 (starEach_of ns) rfl) cal_list j ns
  | tuple => exact je_cal1 (fun hc ha => pe_callTy hc gl mn (by decide +kernel) ha o3 o1 (starEach_of ns) rfl) cal_tuple j ns
  | isi => cases h1
theorem je_blt {x : Str} {b : Bn} {e0 : Expr} {es : List Expr} {fs : AF} {p pos : Pos} (c : Cok G Φ Γ X Wx) (hg : glB Γ.sc x = true) (ho : okName x = true) (hb : x ∈ G.blt) (hx : x = b.nm) (h1 : b.one = false) (js : JA X Wx (e0 :: es) fs) (ns : ∀ y p, e0 ≠ .Starred y p)
    (hpl : ∀ pos, (backTo pos (starEach es X.env)).any (·.1) = false) : JE X Wx (.Call (.Name x p) (e0 :: es) [] pos) (fun S h => bd (fs S h) fun ds h1 => pu (bltD h1 b ds) h1) := by
  obtain ⟨o1, o2, o3⟩ := okName_d ho
  have gl := gl_of c hg
  have mn := c.blt x hb
  subst hx
  cases b with
  | isi => exact je_cals (fun hc ha => pe_callB hc gl mn (by decide +kernel) ha o3 o1 (starEach_of ns) (hpl _)) cal_isi js
  | _ => cases h1

/-! ### methods -/
theorem mth_ok (m : Mn) : ∃ id r, PySem.Slot "str" m.nm id ∧ typeOf (.builtin id) = pure (.type "method_descriptor") ∧ MtR X id r ∧
    ∀ ρ h H σ S H0 z y vy d Q, At X ρ h H σ S → (∀ a, H a = none → H0 a = none) → RE (wd X ρ h H) H0 vy y → mthD h z m y = some d →
    (∀ H' v, Go (wd X ρ h H) (wd X ρ h H') → At X ρ h H' σ S → RE (wd X ρ h H') H0 v d → Q v H') → r (.str z) [vy] H Q := by
  cases m with
  | split =>
    refine ⟨_, _, PySem.F.slot_str_split, PySem.F.type_str_split, mt_split, fun ρ h H σ S H0 z y vy d Q A dm ry e k => ?_⟩
    simp only [mthD] at e
    split at e
    · rename_i b
      split at e
      · rename_i c
        cases e
        refine ⟨z, b, rfl, by rw [ry.str_inv], c.1, c.2, fun p hp => ?_⟩
        obtain ⟨g, A', r'⟩ := A.new hp (dm _ hp) (RL.of_map (W := wd X ρ h H) (f := V.str) (g := D.str) (fun a => .str a) (Txt.split z b))
        exact k _ _ g A' r'
      · cases e
    · cases e
  | join =>
    refine ⟨_, _, PySem.F.slot_str_join, PySem.F.type_str_join, mt_join, fun ρ h H σ S H0 z y vy d Q A dm ry e k => ?_⟩
    simp only [mthD] at e
    split at e
    · rename_i xs es
      split at e
      · rename_i ys eys
        split at e
        · rename_i c
          cases e
          obtain ⟨p, vs, rfl, q, rl⟩ := sq_of A ry es
          have := strs_of rl eys
          subst this
          exact ⟨z, p, ys, rfl, rfl, q, c, k _ _ (Go.refl _) A (.held (.str _))⟩
        · cases e
      · cases e
    · cases e
  | index =>
    refine ⟨_, _, PySem.F.slot_str_index, PySem.F.type_str_index, mt_sindex, fun ρ h H σ S H0 z y vy d Q A dm ry e k => ?_⟩
    simp only [mthD] at e
    split at e
    · rename_i b
      split at e
      · rename_i i rest eo
        cases e
        exact ⟨z, b, i, rest, rfl, by rw [ry.str_inv], eo, k _ _ (Go.refl _) A (.held (.int _))⟩
      · cases e
    · cases e
theorem je_met1 {x : Str} {m : Mn} {o ex : Expr} {fo f : EF} {apos pos : Pos} (hm : x = m.nm) (hl : (apos.endLine == pos.line) = true) (hs : nsup o = true) (jo : JE X Wx o fo) (j : JE X Wx ex f) (ns : ∀ y p, ex ≠ .Starred y p) :
    JE X Wx (.Call (.Attribute o x apos) [ex] [] pos) (fun S h => bd (vv fo S h) fun x h1 => match x with
      | .str z => bd (f S h1) fun d h2 => pu (mthD h2 z m d) h2
      | _ => none) := by
  subst hm
  obtain ⟨id, r, slot, ty, rule, k⟩ := mth_ok (X := X) m
  refine PE.imp (pe_m1 slot ty rule (JE.vv jo) j (starEach_of ns) (base_of hs) hl) fun σ H Q ⟨ρ, S, h, rr, A, e, F⟩ => ?_
  refine tE.bd A e F fun x h1 ρ1 H1 vx g1 A1 rx e1 F1 => ?_
  split at e1
  · rename_i z
    refine ⟨⟨z, rx.str_inv⟩, ?_⟩
    refine tE.bd A1 e1 F1 fun d h2 ρ2 H2 vy g2 A2 ry e2 F2 => ?_
    obtain ⟨d', ed, q⟩ := Fin.pu e2 F2
    rw [rx.str_inv]
    exact k ρ2 h2 H2 σ S H z d vy d' Q A2 (fun a z => g1.dom a (g2.dom a z)) (ry.since g1) ed fun H' v' g' A' r' => q ρ2 H' g' A' v' r'
  · cases e1
theorem few1 {ex : Expr} {cpos : Pos} {env : Env} (ns : ∀ y p, ex ≠ .Starred y p) : ((backTo cpos (starEach (ex :: []) env)).all (fun x => !x.1) && (backToKw cpos (keywordEach [] env)).all (fun x => x.1.isSome)
      && decide ((ex :: []).length + ([] : List Keyword).length + (if ([] : List Keyword).isEmpty then 0 else 1) < 30)) = true := by
  rw [starEach_of ns]
  rfl
theorem je_append {x : Str} {m : Mu} {o ex : Expr} {fo : EF} {fs : AF} {apos pos : Pos} (hm : x = m.nm) (hl : (apos.endLine == pos.line) = true) (hs : nsup o = true) (jo : JE X Wx o fo) (js : JA X Wx [ex] fs) (ns : ∀ y p, ex ≠ .Starred y p) :
    JE X Wx (.Call (.Attribute o x apos) [ex] [] pos) (fun S h => bd (vv fo S h) fun x h1 => match x with
      | .ref n => match h1[n]? with
        | some (.lst _) => bd (fs S h1) fun ds h2 => match mutD h2 n m ds with
          | some (d, h3) => some (.ok d, h3)
          | none => none
        | _ => none
      | _ => none) := by
  subst hm
  cases m
  refine PE.imp (pe_bm PySem.F.plainAttrs_list PySem.F.slot_list_append PySem.F.type_list_append mt_append (JE.vv jo) js (base_of hs) (few1 ns) hl (starEach_of ns) rfl) fun σ H Q ⟨ρ, S, h, rr, A, e, F⟩ => ?_
  refine tE.bd A e F fun x h1 ρ1 H1 vx g1 A1 rx e1 F1 => ?_
  split at e1
  · rename_i n
    split at e1
    · rename_i xs0 ex0
      cases rx with
      | held rx =>
        cases rx with
        | ref n hn =>
          refine ⟨?_, ?_⟩
          · cases A1.cell ex0 with
            | lst q rl => exact .inl ⟨rfl, _, SqL.of q⟩
          · refine tA.bd A1 e1 F1 fun ds h2 ρ2 H2 vs g2 A2 rs e2 F2 => ?_
            split at e2
            · rename_i d h3 em
              cases e2
              simp only [mutD] at em
              split at em
              · rename_i d0
                split at em
                · rename_i xs exs
                  split at em
                  · rename_i hz
                    cases em
                    obtain ⟨v, ws, rfl, rv, rw'⟩ := rs.cons_inv
                    have := rw'.nil_inv
                    subst this
                    have hn2 : n < h2.length := (List.getElem?_eq_some_iff.mp exs).1
                    cases A2.cell exs with
                    | lst q rl =>
                      rename_i us
                      obtain ⟨g', A'⟩ := A2.write (u := .lst (us ++ [v])) (o := .lst (xs ++ [d0])) hn2 (fun ob w z => by rw [show H2 (ρ2 n) = _ from q] at z; cases z) fun le => .lst upd_same ((rl.append (.cons rv .nil)).le le)
                      refine ⟨ρ2 n, us, v, ?_, rfl, q, by rw [rl.length]; exact hz, F2 ρ2 _ g' A' _ (.held .non)⟩
                      have : (wd X ρ2 h2 H2).ρ n = (wd X ρ1 h1 H1).ρ n := g2.ag n hn
                      exact congrArg V.ref this.symm
                  · cases em
                · cases em
              · cases em
            · cases e2
    · cases e1
  · cases e1

/-! ### subscripts -/
theorem je_ix {a b : Expr} {fa fb : EF} {pos : Pos} (ja : JE X Wx a fa) (jb : JE X Wx b fb) (hn : nsl b = true) : JE X Wx (.Subscript a b pos) (fun S h => bd (fa S h) fun x h1 => bd (fb S h1) fun y h2 => pu (ixD h2 x y) h2) := by
  obtain ⟨r, o, k⟩ := ix_ok (X := X)
  refine PE.imp (pe_ix o ja jb (plainIx_of hn)) fun σ H Q ⟨ρ, S, h, rr, A, e, F⟩ => ?_
  refine tE.bd A e F fun x h1 ρ1 H1 vx g1 A1 rx e1 F1 => ?_
  refine tE.bd A1 e1 F1 fun y h2 ρ2 H2 vy g2 A2 ry e2 F2 => ?_
  obtain ⟨d, ed, q⟩ := Fin.pu e2 F2
  exact k ρ2 h2 H2 σ S H x y vx vy d Q A2 (A1.newer g2 rx) (ry.since g1) ed fun H' v g A' r' => q ρ2 H' g A' v r'
/-- an optional part -/
abbrev OF := Sl → Hh → M (Option Int)
def tOo (X : Cx) (Wx : WX) (f : OF) : TO := fun σ H Q => ∃ ρ S h r, At X ρ h H σ S ∧ f S h = some r ∧ Fin X Wx ρ h H σ S r fun _ _ H' b => Q b H'
abbrev JO (X : Cx) (Wx : WX) (e : Option Expr) (f : OF) : Prop := PO X e (tOo X Wx f)
theorem PO.imp {e : Option Expr} {t t' : TO} (h : PO X e t) (i : ∀ σ H Q, t' σ H Q → t σ H Q) : PO X e t' := ⟨fun pins s σ H Q I q => h.run pins s σ H Q I (i _ _ _ q)⟩
theorem jo_no : JO X Wx none (fun _ h => some (.ok none, h)) := by
  refine PO.imp po_none fun σ H Q ⟨ρ, S, h, rr, A, e, F⟩ => ?_
  cases e
  exact F ρ H (Go.refl _) A
theorem jo_yes {ex : Expr} {f : EF} (j : JE X Wx ex f) : JO X Wx (some ex) (fun S h => bd (f S h) fun x h1 => match x with
      | .int i => some (.ok (some i), h1)
      | _ => none) := by
  refine PO.imp (po_some j) fun σ H Q ⟨ρ, S, h, rr, A, e, F⟩ => ?_
  refine tE.bd A e F fun x h1 ρ1 H1 vx g1 A1 rx e1 F1 => ?_
  split at e1
  · rename_i i
    cases e1
    exact ⟨i, rx.int_inv, F1 ρ1 H1 (Go.refl _) A1⟩
  · cases e1
theorem tOo.bd {β : Type} {ρ : Nat → Addr} {h : Hh} {H : Hp} {σ : St} {S : Sl} {fa : OF} {k : Option Int → Hh → M β} {r : Rs β × Hh} {P : (Nat → Addr) → Hh → Hp → β → Prop} {Q : Option Int → Hp → Prop} (A : At X ρ h H σ S)
    (e : Z.bd (fa S h) k = some r) (F : Fin X Wx ρ h H σ S r P)
    (hk : ∀ b h1 ρ' H', Go (wd X ρ h H) (wd X ρ' h1 H') → At X ρ' h1 H' σ S → k b h1 = some r → Fin X Wx ρ' h1 H' σ S r P → Q b H') : tOo X Wx fa σ H Q := by
  obtain ⟨ra, e1, F1⟩ := Fin.bd (Pa := fun _ _ H' b => Q b H') e F fun b h1 ρ' H' _ g A1 ek F1 => hk b h1 ρ' H' g A1 ek F1
  exact ⟨ρ, S, h, ra, A, e1, F1⟩
theorem je_slc {a : Expr} {lo hi : Option Expr} {fa : EF} {fl fu : OF} {p2 pos : Pos} (ja : JE X Wx a fa) (jl : JO X Wx lo fl) (ju : JO X Wx hi fu) :
    JE X Wx (.Subscript a (.Slice lo hi none p2) pos) (fun S h => bd (fa S h) fun x h1 => bd (fl S h1) fun l h2 => bd (fu S h2) fun u h3 => pu (slcD h3 x l u) h3) := by
  obtain ⟨r, o, k⟩ := sl_ok (X := X)
  refine PE.imp (pe_slice o ja jl ju) fun σ H Q ⟨ρ, S, h, rr, A, e, F⟩ => ?_
  refine tE.bd A e F fun x h1 ρ1 H1 vx g1 A1 rx e1 F1 => ?_
  refine tOo.bd A1 e1 F1 fun l h2 ρ2 H2 g2 A2 e2 F2 => ?_
  refine tOo.bd A2 e2 F2 fun u h3 ρ3 H3 g3 A3 e3 F3 => ?_
  obtain ⟨d, ed, q⟩ := Fin.pu e3 F3
  exact k ρ3 h3 H3 σ S H x vx l u d Q A3 (fun a z => g1.dom a (g2.dom a (g3.dom a z))) (A2.newer g3 (A1.newer g2 rx)) ed fun H' v g A' r' => q ρ3 H' g A' v r'

/-- a written text and a replaced one -/
theorem je_crep {o : Expr} {fo : EF} {c y z : Str} {k0 k1 k2 : Nat} {p0 p1 p2 apos cpos pos : Pos} (hyz : (y == z) = false) (hl : (apos.endLine == cpos.line) = true) (hs : nsup o = true) (jo : JE X Wx o fo) :
    JE X Wx (.BinOp (.Constant (.str c) k0 p0) .Add (.Call (.Attribute o "replace" apos) [.Constant (.str y) k1 p1, .Constant (.str z) k2 p2] [] cpos) pos) (fun S h => bd (fo S h) fun x h1 => match x with
      | .str x => if x.length + (x.length + 1) * z.length ≤ 16777216 ∧ c.length + (Txt.replace x y z).length ≤ sizeLine then some (.ok (.str (c ++ Txt.replace x y z)), h1) else none
      | _ => none) := by
  refine ⟨fun pins s σ H Q I ⟨ρ, S, h, rr, A, e, F⟩ => ?_⟩
  refine wpAny_BinOp (Calls.Constant_str ?_)
  have I' : Inv X pins σ H { s with toks := s.toks + 1 } := I.tok _
  have hq : CwR.tReplC (tE X Wx fo) y z σ H (fun v H1 => ∃ x, v = .str (Txt.replace x y z) ∧ c.length + (Txt.replace x y z).length ≤ sizeLine ∧ Q (.str (c ++ Txt.replace x y z)) H1) := by
    refine tE.bd A e F fun x h1 ρ1 H1 vx g1 A1 rx e1 F1 => ?_
    split at e1
    · rename_i x
      split at e1
      · rename_i hz
        cases e1
        exact ⟨x, rx.str_inv, hz.1, x, rfl, hz.2, F1 ρ1 H1 (Go.refl _) A1 _ (.held (.str _))⟩
      · cases e1
    · cases e1
  refine thn (CwR.pet_replC jo hyz rfl (base_of hs) hl pins _ σ H _ (by show 1 ≤ s.toks + 1; omega) I' hq) fun v s1 ⟨w, H1, I1, r1, x, ew, hz, q⟩ => ?_
  subst ew
  obtain ⟨t, rfl⟩ := r1
  exact op_add_str pins s1 σ H1 (.str c) (.str (Txt.replace x y z)) _ _ Q I1 ⟨_, rfl⟩ ⟨_, rfl⟩ ⟨c, Txt.replace x y z, rfl, rfl, hz, q⟩
end
end Z

/-! Z8: what is walked; comprehensions -/
namespace Z
open PySem L2
section
variable {G : Gs} {Φ : CallF} {Γ : Sc} {X : Cx} {Wx : WX}

/-- an iterator over these items, so long as what must stay stays -/
def Wk (X : Cx) (s : Src) (ρ : Nat → Addr) (h : Hh) (H : Hp) (J : L2.It) : Prop := ∀ ρ2 h2 H2 σ S, Go (wd X ρ h H) (wd X ρ2 h2 H2) → At X ρ2 h2 H2 σ S → stayB h2 s.stay →
  J.stop s.items.length H2 ∧ ∀ i, i < s.items.length → J.go i H2 ∧ ∀ x H3, J.yld i H2 x H3 → ∃ d, s.items[i]? = some d ∧ Go (wd X ρ2 h2 H2) (wd X ρ2 h2 H3) ∧ At X ρ2 h2 H3 σ S ∧ R (wd X ρ2 h2 H3) x d
abbrev IF := Sl → Hh → M Src
def tI (X : Cx) (Wx : WX) (f : IF) : TI := fun σ H R => ∃ ρ S h r, At X ρ h H σ S ∧ f S h = some r ∧ Fin X Wx ρ h H σ S r fun ρ' h' H' s => ∀ J, Wk X s ρ' h' H' J → R J H'
abbrev JI (X : Cx) (Wx : WX) (tg e : Expr) (f : IF) : Prop := PI X tg e (tI X Wx f)

theorem stay_app {h : Hh} : ∀ {a b : List (Nat × List D)}, stayB h (a ++ b) → stayB h a ∧ stayB h b
  | [], _, s => ⟨trivial, s⟩
  | (n, xs) :: r, b, s => by
    obtain ⟨s1, s2⟩ := s
    obtain ⟨s3, s4⟩ := stay_app (a := r) s2
    exact ⟨⟨s1, s3⟩, s4⟩
/-- a list is, later, the list it was -/
theorem ls_later {ρ : Nat → Addr} {h : Hh} {H H0 : Hp} {σ : St} {S : Sl} {v : V} {d : D} {xs : List D} (A : At X ρ h H σ S) (r : RE (wd X ρ h H) H0 v d) (e : lsD h d = some xs) :
    ∃ a, v = .ref a ∧ ∀ ρ2 h2 H2 σ S, Go (wd X ρ h H) (wd X ρ2 h2 H2) → At X ρ2 h2 H2 σ S → stayB h2 (stayOf d xs) → ∃ vs, SqL X.K H2 a vs ∧ RL (wd X ρ2 h2 H2) vs xs := by
  cases r with
  | new q f _ rl =>
    have e' : some _ = some xs := e
    cases e'
    exact ⟨_, rfl, fun ρ2 h2 H2 σ S g A2 _ => ⟨_, SqL.of (g.keep _ _ q f), rl.go g A.rep⟩⟩
  | held r =>
    cases r with
    | ref n hn =>
      refine ⟨_, rfl, fun ρ2 h2 H2 σ S g A2 st => ?_⟩
      have en : ρ2 n = ρ n := g.ag n hn
      obtain ⟨s1, _⟩ := st
      cases A2.rep.obj n _ s1 with
      | lst q rl =>
        rename_i vs
        have q' : H2 (ρ2 n) = some (.lst vs) := q
        rw [en] at q'
        exact ⟨vs, SqL.of q', rl⟩
    | frl q rl =>
      cases e
      exact ⟨_, rfl, fun ρ2 h2 H2 σ S g A2 _ => ⟨_, ((g.le A.rep).fz _ _ q).sq, rl.go g A.rep⟩⟩
    | _ => cases e
theorem tup_later {ρ : Nat → Addr} {h : Hh} {H H0 : Hp} {σ : St} {S : Sl} {v : V} {xs : List D} (A : At X ρ h H σ S) (r : RE (wd X ρ h H) H0 v (.tup xs)) :
    ∃ a, v = .ref a ∧ ∀ ρ2 h2 H2, Go (wd X ρ h H) (wd X ρ2 h2 H2) → ∃ vs, SqT X.K H2 a vs ∧ RL (wd X ρ2 h2 H2) vs xs := by
  obtain ⟨a, vs, rfl, q, rl⟩ := r.tup_inv
  exact ⟨a, rfl, fun ρ2 h2 H2 g => ⟨vs, (g.le A.rep).tup _ _ q, rl.go g A.rep⟩⟩
theorem wk_list {ρ : Nat → Addr} {h : Hh} {H H0 : Hp} {σ : St} {S : Sl} {v : V} {d : D} {xs : List D} (A : At X ρ h H σ S) (r : RE (wd X ρ h H) H0 v d) (e : lsD h d = some xs) :
    ∃ a, v = .ref a ∧ (∃ vs, SqL X.K H a vs) ∧ Wk X ⟨xs, stayOf d xs⟩ ρ h H (Itl X.K a) := by
  obtain ⟨a, rfl, k⟩ := ls_later A r e
  obtain ⟨a', vs, e2, q, _⟩ := ls_of A r e
  cases e2
  refine ⟨a, rfl, ⟨vs, q⟩, fun ρ2 h2 H2 σ2 S2 g A2 st => ?_⟩
  obtain ⟨ws, q2, rl⟩ := k ρ2 h2 H2 σ2 S2 g A2 st
  have w := walk_list (K := X.K) (a := a) (xs := ws)
  refine ⟨by have := w.stops H2 q2; rw [rl.length] at this; exact this, fun i hi => ⟨w.goes i H2 (by rw [rl.length]; exact hi) q2, fun x H3 y => ?_⟩⟩
  obtain ⟨rfl, ex⟩ := w.yields i H2 x H3 (by rw [rl.length]; exact hi) q2 y
  obtain ⟨d, ed, rd⟩ := rl.getV i ex
  exact ⟨d, ed, Go.refl _, A2, rd⟩
theorem wk_tup {ρ : Nat → Addr} {h : Hh} {H H0 : Hp} {σ : St} {S : Sl} {v : V} {xs : List D} (A : At X ρ h H σ S) (r : RE (wd X ρ h H) H0 v (.tup xs)) (st0 : List (Nat × List D)) :
    ∃ a, v = .ref a ∧ (∃ vs, SqT X.K H a vs) ∧ Wk X ⟨xs, st0⟩ ρ h H (Itt X.K a) := by
  obtain ⟨a, rfl, k⟩ := tup_later A r
  obtain ⟨vs, q, _⟩ := k ρ h H (Go.refl _)
  refine ⟨a, rfl, ⟨vs, q⟩, fun ρ2 h2 H2 σ2 S2 g A2 st => ?_⟩
  obtain ⟨ws, q2, rl⟩ := k ρ2 h2 H2 g
  have w := walk_tup (K := X.K) (a := a) (xs := ws)
  refine ⟨by have := w.stops H2 q2; rw [rl.length] at this; exact this, fun i hi => ⟨w.goes i H2 (by rw [rl.length]; exact hi) q2, fun x H3 y => ?_⟩⟩
  obtain ⟨rfl, ex⟩ := w.yields i H2 x H3 (by rw [rl.length]; exact hi) q2 y
  obtain ⟨d, ed, rd⟩ := rl.getV i ex
  exact ⟨d, ed, Go.refl _, A2, rd⟩
theorem wk_str {ρ : Nat → Addr} {h : Hh} {H : Hp} (z : Str) : Wk X ⟨strItems z, []⟩ ρ h H (Its z) := by
  intro ρ2 h2 H2 σ2 S2 g A2 st
  have w := walk_str (z := z)
  have hl : (strItems z).length = z.cps.size := by simp [strItems]
  refine ⟨by have := w.stops H2 trivial; rw [← hl] at this; exact this, fun i hi => ⟨w.goes i H2 (by rw [← hl]; exact hi) trivial, fun x H3 y => ?_⟩⟩
  obtain ⟨rfl, c, ec, rfl⟩ := w.yields i H2 x H3 (by rw [← hl]; exact hi) trivial y
  refine ⟨.str ⟨#[c]⟩, ?_, Go.refl _, A2, .str _⟩
  show (strItems z)[i]? = _
  unfold strItems
  rw [List.getElem?_map, Array.getElem?_toList, ec]
  rfl
theorem wk_rng {ρ : Nat → Addr} {h : Hh} {H : Hp} (lo : Int) (n : Nat) : Wk X ⟨rngItems lo n, []⟩ ρ h H (Itr lo n) := by
  intro ρ2 h2 H2 σ2 S2 g A2 st
  have w := walk_range (lo := lo) (n := n)
  have hl : (rngItems lo n).length = n := by simp [rngItems]
  refine ⟨by have := w.stops H2 trivial; show (Itr lo n).stop (rngItems lo n).length H2; rw [hl]; exact this, fun i hi => ?_⟩
  have hi' : i < n := by rw [← hl]; exact hi
  refine ⟨w.goes i H2 hi' trivial, fun x H3 y => ?_⟩
  obtain ⟨rfl, rfl⟩ := w.yields i H2 x H3 hi' trivial y
  refine ⟨.int (lo + (i : Nat)), ?_, Go.refl _, A2, .int _⟩
  show (rngItems lo n)[i]? = _
  unfold rngItems
  rw [List.getElem?_map, List.getElem?_range hi']
  rfl
theorem enItems_get : ∀ (xs : List D) (k i : Nat) {d : D}, xs[i]? = some d → (enItems k xs)[i]? = some (.tup [.int ((k + i : Nat) : Int), d])
  | [], _, _, _, e => by simp at e
  | x :: xs, k, 0, d, e => by simp at e; subst e; rfl
  | x :: xs, k, i + 1, d, e => by
    have := enItems_get xs (k + 1) i (d := d) (by simpa using e)
    show (enItems (k + 1) xs)[i]? = _
    rw [this, show k + 1 + i = k + (i + 1) by omega]
theorem enItems_len : ∀ (xs : List D) (k : Nat), (enItems k xs).length = xs.length
  | [], _ => rfl
  | _ :: xs, k => congrArg (· + 1) (enItems_len xs (k + 1))
theorem zpItems_len : ∀ (xs ys : List D), (zpItems xs ys).length = min xs.length ys.length
  | [], _ => by simp [zpItems]
  | _ :: _, [] => by simp [zpItems]
  | _ :: xs, _ :: ys => by
    show (zpItems xs ys).length + 1 = _
    rw [zpItems_len xs ys]
    simp only [List.length_cons]
    omega
theorem zpItems_get : ∀ (xs ys : List D) (i : Nat) {a b : D}, xs[i]? = some a → ys[i]? = some b → (zpItems xs ys)[i]? = some (.tup [a, b])
  | [], _, _, _, _, e, _ => by simp at e
  | _ :: _, [], _, _, _, _, e => by simp at e
  | x :: xs, y :: ys, 0, a, b, e, f => by simp at e f; subst e; subst f; rfl
  | x :: xs, y :: ys, i + 1, a, b, e, f => by
    show (zpItems xs ys)[i]? = _
    exact zpItems_get xs ys i (by simpa using e) (by simpa using f)
theorem wk_en {ρ : Nat → Addr} {h : Hh} {H H0 : Hp} {σ : St} {S : Sl} {v : V} {d : D} {xs : List D} (A : At X ρ h H σ S) (r : RE (wd X ρ h H) H0 v d) (e : lsD h d = some xs) :
    ∃ a vs, v = .ref a ∧ SqL X.K H a vs ∧ Wk X ⟨enItems 0 xs, stayOf d xs⟩ ρ h H (Ite X.K a) := by
  obtain ⟨a, rfl, k⟩ := ls_later A r e
  obtain ⟨a', vs, e2, q, _⟩ := ls_of A r e
  cases e2
  refine ⟨a, vs, rfl, q, fun ρ2 h2 H2 σ2 S2 g A2 st => ?_⟩
  obtain ⟨ws, q2, rl⟩ := k ρ2 h2 H2 σ2 S2 g A2 st
  have w := walk_enum (K := X.K) (a := a) (xs := ws)
  have hl : (enItems 0 xs).length = ws.length := by rw [enItems_len, rl.length]
  refine ⟨by have := w.stops H2 q2; rw [← hl] at this; exact this, fun i hi => ?_⟩
  have hi' : i < ws.length := by rw [← hl]; exact hi
  refine ⟨w.goes i H2 hi' q2, fun x H3 y => ?_⟩
  obtain ⟨T, p, u, rfl, hT, rfl, e1, e2⟩ := w.yields i H2 x H3 hi' q2 y
  cases e1
  obtain ⟨du, edu, rdu⟩ := rl.getV i e2
  obtain ⟨g3, A3, r3⟩ := A2.newT hT (RL.cons (.int (i : Nat)) (.cons rdu .nil))
  refine ⟨_, ?_, g3, A3, r3⟩
  have := enItems_get xs 0 i edu
  rw [Nat.zero_add] at this
  exact this
theorem wk_zp {ρ : Nat → Addr} {h : Hh} {H H0 : Hp} {σ : St} {S : Sl} {v u : V} {d d' : D} {xs ys : List D} (A : At X ρ h H σ S) (r : RE (wd X ρ h H) H0 v d) (e : lsD h d = some xs) (r' : RE (wd X ρ h H) H0 u d') (e' : lsD h d' = some ys) :
    ∃ a b vs us, v = .ref a ∧ u = .ref b ∧ SqL X.K H a vs ∧ SqL X.K H b us ∧ Wk X ⟨zpItems xs ys, stayOf d xs ++ stayOf d' ys⟩ ρ h H (Itz X.K a b) := by
  obtain ⟨a, rfl, k⟩ := ls_later A r e
  obtain ⟨_, vs, z1, q, _⟩ := ls_of A r e
  cases z1
  obtain ⟨b, rfl, k'⟩ := ls_later A r' e'
  obtain ⟨_, us, z2, q', _⟩ := ls_of A r' e'
  cases z2
  refine ⟨a, b, vs, us, rfl, rfl, q, q', fun ρ2 h2 H2 σ2 S2 g A2 st => ?_⟩
  obtain ⟨st1, st2⟩ := stay_app st
  obtain ⟨ws, q2, rl⟩ := k ρ2 h2 H2 σ2 S2 g A2 st1
  obtain ⟨ws', q2', rl'⟩ := k' ρ2 h2 H2 σ2 S2 g A2 st2
  have w := walk_zip (K := X.K) (a := a) (b := b) (xs := ws) (ys := ws') rfl
  have hl : (zpItems xs ys).length = min ws.length ws'.length := by rw [zpItems_len, rl.length, rl'.length]
  refine ⟨by have := w.stops H2 ⟨q2, q2'⟩; rw [← hl] at this; exact this, fun i hi => ?_⟩
  have hi' : i < min ws.length ws'.length := by rw [← hl]; exact hi
  refine ⟨w.goes i H2 hi' ⟨q2, q2'⟩, fun x H3 y => ?_⟩
  obtain ⟨T, p, u, rfl, hT, rfl, e1, e2⟩ := w.yields i H2 x H3 hi' ⟨q2, q2'⟩ y
  obtain ⟨dp, edp, rdp⟩ := rl.getV i e1
  obtain ⟨du, edu, rdu⟩ := rl'.getV i e2
  obtain ⟨g3, A3, r3⟩ := A2.newT hT (RL.cons rdp (.cons rdu .nil))
  exact ⟨_, zpItems_get xs ys i edp edu, g3, A3, r3⟩

/-! ### the judgements of what is walked -/
theorem ji_sq {tg ex : Expr} {f : EF} (j : JE X Wx ex f) : JI X Wx tg ex (fun S h => bd (f S h) fun x h1 => match x with
      | .str z => some (.ok ⟨strItems z, []⟩, h1)
      | x => match sqD h1 x with
        | some xs => some (.ok ⟨xs, stayOf x xs⟩, h1)
        | none => none) := by
  refine ⟨fun pins s σ H Rr I ⟨ρ, S, h, rr, A, e, F⟩ => ?_⟩
  by_cases c1 : ∃ z h1, f S h = some (.ok (.str z), h1)
  · obtain ⟨z0, h0, ef⟩ := c1
    refine (pi_str j).run pins s σ H Rr I ?_
    refine tE.bd' ef A e F fun ρ1 H1 vx g1 A1 rx e1 F1 => ?_
    cases e1
    exact ⟨z0, rx.str_inv, F1 ρ1 H1 (Go.refl _) A1 _ (wk_str z0)⟩
  · by_cases c2 : ∃ zs h1, f S h = some (.ok (.tup zs), h1)
    · obtain ⟨zs, h0, ef⟩ := c2
      refine (pi_tup j).run pins s σ H Rr I ?_
      refine tE.bd' ef A e F fun ρ1 H1 vx g1 A1 rx e1 F1 => ?_
      cases e1
      obtain ⟨a, rfl, q, w⟩ := wk_tup A1 rx (stayOf (.tup zs) zs)
      exact ⟨a, rfl, q, F1 ρ1 H1 (Go.refl _) A1 _ w⟩
    · refine (pi_list j).run pins s σ H Rr I ?_
      refine tE.bdq A e F fun x h1 ρ1 H1 vx eq1 g1 A1 rx e1 F1 => ?_
      have e2 : (match lsD h1 x with
        | some xs => some (Rs.ok (⟨xs, stayOf x xs⟩ : Src), h1)
        | none => none) = some rr := by
        rw [← e1]
        cases x with
        | str z => exact (c1 ⟨_, _, eq1⟩).elim
        | tup zs => exact (c2 ⟨_, _, eq1⟩).elim
        | _ => rfl
      split at e2
      · rename_i xs ex
        cases e2
        obtain ⟨a, rfl, q, w⟩ := wk_list A1 rx ex
        exact ⟨a, rfl, q, F1 ρ1 H1 (Go.refl _) A1 _ w⟩
      · cases e2

theorem ji_r1 {tg a : Expr} {f : EF} {p pos : Pos} {y : Str} (c : Cok G Φ Γ X Wx) (hy : y = "range") (hg : glB Γ.sc y = true) (hb : y ∈ G.blt) (j : JE X Wx a f) (ns : ∀ y p, a ≠ .Starred y p) :
    JI X Wx tg (.Call (.Name y p) [a] [] pos) (fun S h => bd (f S h) fun x h1 => match x with
      | .int j => if -(2 ^ 62) ≤ j ∧ j < 2 ^ 62 then some (.ok ⟨rngItems 0 j.toNat, []⟩, h1) else none
      | _ => none) := by
  subst hy
  refine ⟨fun pins s σ H Rr I ⟨ρ, S, h, rr, A, e, F⟩ => ?_⟩
  refine (pi_range1 (gl_of c hg) (c.blt _ hb) (pa_cons j pa_nil (starEach_of ns)) (starEach_of ns)).run pins s σ H Rr I ?_
  refine tE.bd A e F fun x h1 ρ1 H1 vx g1 A1 rx e1 F1 => ?_
  split at e1
  · rename_i n
    split at e1
    · rename_i hz
      cases e1
      rw [rx.int_inv]
      exact ⟨n, rfl, hz.1, hz.2, F1 ρ1 H1 (Go.refl _) A1 _ (wk_rng 0 n.toNat)⟩
    · cases e1
  · cases e1
theorem ji_r2 {tg a b : Expr} {f f' : EF} {p pos : Pos} {y : Str} (c : Cok G Φ Γ X Wx) (hy : y = "range") (hg : glB Γ.sc y = true) (hb : y ∈ G.blt) (j : JE X Wx a f) (j' : JE X Wx b f') (ns : ∀ y p, a ≠ .Starred y p) (ns' : ∀ y p, b ≠ .Starred y p) :
    JI X Wx tg (.Call (.Name y p) [a, b] [] pos) (fun S h => bd (f S h) fun x h1 => bd (f' S h1) fun y h2 => match x, y with
      | .int i, .int j => if -(2 ^ 62) ≤ i ∧ i < 2 ^ 62 ∧ -(2 ^ 62) ≤ j ∧ j < 2 ^ 62 then some (.ok ⟨rngItems i (j - i).toNat, []⟩, h2) else none
      | _, _ => none) := by
  subst hy
  refine ⟨fun pins s σ H Rr I ⟨ρ, S, h, rr, A, e, F⟩ => ?_⟩
  refine (pi_range2 (gl_of c hg) (c.blt _ hb) (pa_cons j (pa_cons j' pa_nil (starEach_of ns')) (starEach_of ns)) (by rw [starEach_of ns, starEach_of ns']; rfl) (starEach_of ns')).run pins s σ H Rr I ?_
  refine tE.bd A e F fun x h1 ρ1 H1 vx g1 A1 rx e1 F1 => ?_
  refine tE.bd A1 e1 F1 fun y h2 ρ2 H2 vy g2 A2 ry e2 F2 => ?_
  split at e2
  · rename_i i k
    split at e2
    · rename_i hz
      cases e2
      rw [rx.int_inv, ry.int_inv]
      exact ⟨i, k, rfl, hz, F2 ρ2 H2 (Go.refl _) A2 _ (wk_rng i (k - i).toNat)⟩
    · cases e2
  · cases e2
theorem ji_en {a : Expr} {f : EF} {elts : List Expr} {kk : Nat} {p pos tpos : Pos} {y : Str} (c : Cok G Φ Γ X Wx) (hy : y = "enumerate") (hg : glB Γ.sc y = true) (hb : y ∈ G.blt) (j : JE X Wx a f) (ns : ∀ y p, a ≠ .Starred y p) :
    JI X Wx (.Tuple elts kk tpos) (.Call (.Name y p) [a] [] pos) (fun S h => bd (f S h) fun x h1 => match lsD h1 x with
      | some xs => some (.ok ⟨enItems 0 xs, stayOf x xs⟩, h1)
      | none => none) := by
  subst hy
  refine ⟨fun pins s σ H Rr I ⟨ρ, S, h, rr, A, e, F⟩ => ?_⟩
  refine (pi_enum (gl_of c hg) (c.blt _ hb) (pa_cons j pa_nil (starEach_of ns)) (starEach_of ns)).run pins s σ H Rr I ?_
  refine tE.bd A e F fun x h1 ρ1 H1 vx g1 A1 rx e1 F1 => ?_
  split at e1
  · rename_i xs ex
    cases e1
    obtain ⟨a, vs, rfl, q, w⟩ := wk_en A1 rx ex
    exact ⟨a, vs, rfl, q, F1 ρ1 H1 (Go.refl _) A1 _ w⟩
  · cases e1
theorem wk_zpT {ρ : Nat → Addr} {h : Hh} {H H0 : Hp} {σ : St} {S : Sl} {v u : V} {xs ys : List D} (A : At X ρ h H σ S) (r : RE (wd X ρ h H) H0 v (.tup xs)) (r' : RE (wd X ρ h H) H0 u (.tup ys)) :
    ∃ a b vs us, v = .ref a ∧ u = .ref b ∧ SqT X.K H a vs ∧ SqT X.K H b us ∧ Wk X ⟨zpItems xs ys, []⟩ ρ h H (RZ.ItzT X.K a b) := by
  obtain ⟨a, rfl, k⟩ := tup_later A r
  obtain ⟨vs, q, _⟩ := k ρ h H (Go.refl _)
  obtain ⟨b, rfl, k'⟩ := tup_later A r'
  obtain ⟨us, q', _⟩ := k' ρ h H (Go.refl _)
  refine ⟨a, b, vs, us, rfl, rfl, q, q', fun ρ2 h2 H2 σ2 S2 g A2 st => ?_⟩
  obtain ⟨ws, q2, rl⟩ := k ρ2 h2 H2 g
  obtain ⟨ws', q2', rl'⟩ := k' ρ2 h2 H2 g
  have hl : (zpItems xs ys).length = min ws.length ws'.length := by rw [zpItems_len, rl.length, rl'.length]
  refine ⟨⟨ws, ws', q2, q2', by rw [hl]; omega⟩, fun i hi => ?_⟩
  rw [hl] at hi
  have hx := List.getElem?_eq_getElem (l := ws) (show i < ws.length by omega)
  have hy := List.getElem?_eq_getElem (l := ws') (show i < ws'.length by omega)
  refine ⟨⟨ws, ws', _, _, q2, q2', hx, hy⟩, fun x H3 y => ?_⟩
  obtain ⟨T, p, u, rfl, hT, rfl, m1, m2⟩ := y
  obtain ⟨dp, edp, rdp⟩ := rl.getV i (m1 _ q2)
  obtain ⟨du, edu, rdu⟩ := rl'.getV i (m2 _ q2')
  obtain ⟨g3, A3, r3⟩ := A2.newT hT (RL.cons rdp (.cons rdu .nil))
  exact ⟨_, zpItems_get xs ys i edp edu, g3, A3, r3⟩
theorem ji_zp {a b : Expr} {f f' : EF} {elts : List Expr} {kk : Nat} {p pos tpos : Pos} {y : Str} (c : Cok G Φ Γ X Wx) (hy : y = "zip") (hg : glB Γ.sc y = true) (hb : y ∈ G.blt) (j : JE X Wx a f) (j' : JE X Wx b f') (ns : ∀ y p, a ≠ .Starred y p) (ns' : ∀ y p, b ≠ .Starred y p) :
    JI X Wx (.Tuple elts kk tpos) (.Call (.Name y p) [a, b] [] pos) (fun S h => bd (f S h) fun x h1 => bd (f' S h1) fun y h2 => pu (zpD h2 x y) h2) := by
  subst hy
  refine ⟨fun pins s σ H Rr I ⟨ρ, S, h, rr, A, e, F⟩ => ?_⟩
  refine (RZ.pi_zipA (gl_of c hg) (c.blt _ hb) (pa_cons j (pa_cons j' pa_nil (starEach_of ns')) (starEach_of ns)) (starEach_of ns) (by rw [starEach_of ns']; rfl)).run pins s σ H Rr I ?_
  refine tE.bd A e F fun x h1 ρ1 H1 vx g1 A1 rx e1 F1 => ?_
  refine tE.bd A1 e1 F1 fun y h2 ρ2 H2 vy g2 A2 ry e2 F2 => ?_
  obtain ⟨sr, es, q0⟩ := Fin.pu e2 F2
  by_cases t : ∃ xs ys, x = .tup xs ∧ y = .tup ys
  · obtain ⟨xs, ys, rfl, rfl⟩ := t
    cases es
    obtain ⟨a, b, vs, us, rfl, rfl, q, q', w⟩ := wk_zpT A2 (A1.newer g2 rx) (ry.since g1)
    exact ⟨a, b, _, _, rfl, .inr ⟨q, q', q0 ρ2 H2 (Go.refl _) A2 _ w⟩⟩
  · have es' : (match lsD h2 x, lsD h2 y with | some xs, some ys => some (⟨zpItems xs ys, stayOf x xs ++ stayOf y ys⟩ : Src) | _, _ => none) = some sr := by
      cases x <;> first | exact es | (cases y <;> first | exact absurd ⟨_, _, rfl, rfl⟩ t | exact es)
    split at es'
    · rename_i xs ys ex ey
      cases es'
      obtain ⟨a, b, vs, us, rfl, rfl, q, q', w⟩ := wk_zp A2 (A1.newer g2 rx) ex (ry.since g1) ey
      exact ⟨a, b, _, _, rfl, .inl ⟨q, q', q0 ρ2 H2 (Go.refl _) A2 _ w⟩⟩
    · cases es'
end
end Z

/-! Z9: targets; list comprehensions -/
namespace Z
open PySem L2
section
variable {G : Gs} {Φ : CallF} {Γ : Sc} {X : Cx} {Wx : WX}

theorem wipe_idem (σ : St) : ∀ vs : List Nat, ∀ i : Nat, ((wipe σ vs)[i]? = if i ∈ vs then (if i < σ.length then some none else none) else σ[i]?)
  | [], i => by simp [wipe]
  | v :: vs, i => by
    unfold wipe
    by_cases c : v = i
    · subst c
      by_cases hl : v < σ.length
      · rw [List.getElem?_set_self (by rw [wipe_length]; exact hl)]
        simp [hl]
      · rw [List.getElem?_eq_none (by rw [List.length_set, wipe_length]; omega)]
        simp [hl]
    · rw [List.getElem?_set_ne c, wipe_idem σ vs i]
      have : (i ∈ v :: vs) = (i ∈ vs) := by
        simp [List.mem_cons, Ne.symm c]
      simp only [this]
theorem wipe_eq {σ τ : St} {vs : List Nat} (hl : σ.length = τ.length) (h : ∀ i, i ∉ vs → σ[i]? = τ[i]?) : wipe σ vs = wipe τ vs := by
  refine List.ext_getElem? fun i => ?_
  rw [wipe_idem, wipe_idem, hl]
  split
  · rfl
  · exact h i (by assumption)
theorem wipe_wipe (σ : St) (vs : List Nat) : wipe (wipe σ vs) vs = wipe σ vs := by
  refine wipe_eq (wipe_length _ _) fun i hi => ?_
  rw [wipe_idem, if_neg hi]
theorem wipeS_at : ∀ (S : Sl) (vs : List Nat) (i : Nat), ((wipeS S vs)[i]? = if i ∈ vs then (if i < S.length then some none else none) else S[i]?) ∧ (wipeS S vs).length = S.length
  | S, [], i => by simp [wipeS]
  | S, v :: vs, i => by
    unfold wipeS
    have ih := wipeS_at S vs i
    refine ⟨?_, by rw [List.length_set]; exact ih.2⟩
    by_cases c : v = i
    · subst c
      by_cases hl : v < S.length
      · rw [List.getElem?_set_self (by rw [ih.2]; exact hl)]
        simp [hl]
      · rw [List.getElem?_eq_none (by rw [List.length_set, ih.2]; omega)]
        simp [hl]
    · rw [List.getElem?_set_ne c, ih.1]
      have : (i ∈ v :: vs) = (i ∈ vs) := by
        simp [List.mem_cons, Ne.symm c]
      simp only [this]
theorem RS.wipe {W : Wd} {σ : St} {S : Sl} (r : RS W σ S) (vs : List Nat) : RS W (L2.wipe σ vs) (wipeS S vs) := by
  refine ⟨by rw [wipe_length, (wipeS_at S vs 0).2]; exact r.len, fun i d e => ?_⟩
  rw [(wipeS_at S vs i).1] at e
  rw [wipe_idem]
  split at e
  · split at e <;> cases e
  · rename_i c
    rw [if_neg c]
    exact r.at_ i d e

/-! ### targets -/
def tG (X : Cx) (t : Tg) : TG := fun v σ H Q => ∃ ρ S h d S', At X ρ h H σ S ∧ R (wd X ρ h H) v d ∧ bindT h t d S = some S' ∧ ∀ σ', At X ρ h H σ' S' → σ'.length = σ.length → (∀ i, i ∉ tgIx t → σ'[i]? = σ[i]?) → Q σ' H
def tGs (X : Cx) (t : TL) : TGs := fun vs σ H Q => ∃ ρ S h ds S', At X ρ h H σ S ∧ RL (wd X ρ h H) vs ds ∧ bindTs h t ds S = some S' ∧ ∀ σ', At X ρ h H σ' S' → σ'.length = σ.length → (∀ i, i ∉ tgIxs t → σ'[i]? = σ[i]?) → Q σ' H
theorem PG.imp {e : Expr} {t t' : TG} (h : PG X e t) (i : ∀ v σ H Q, t' v σ H Q → t v σ H Q) : PG X e t' := ⟨fun pins s σ H v u Q I r q => h.run pins s σ H v u Q I r (i _ _ _ _ q)⟩
theorem PGs.imp {e : List Expr} {t t' : TGs} (h : PGs X e t) (i : ∀ v σ H Q, t' v σ H Q → t v σ H Q) : PGs X e t' := ⟨fun pins s σ H v u Q I r q => h.run pins s σ H v u Q I r (i _ _ _ _ q)⟩
theorem chkG_ns {t : Tg} {ex : Expr} (h : chkG Γ t ex = true) : ∀ y p, ex ≠ .Starred y p := by
  rintro y p rfl
  cases t <;> simp [chkG] at h
theorem assignEach_of {ex : Expr} {es : List Expr} {env : Env} (h : ∀ y p, ex ≠ .Starred y p) : assignEach (ex :: es) env = (false, assign ex env) :: assignEach es env := by
  cases ex <;> first | rfl | exact absurd rfl (h _ _)
theorem assignEach_len {env : Env} : ∀ {l : TL} {es : List Expr}, chkGL Γ l es = true → (assignEach es env).length = es.length ∧ (assignEach es env).findIdx? (·.1) = none
  | .nil, [], _ => ⟨rfl, rfl⟩
  | .nil, _ :: _, h => by simp [chkGL] at h
  | .cons t l, [], h => by simp [chkGL] at h
  | .cons t l, x :: xs, h => by
    simp only [chkGL, Bool.and_eq_true] at h
    rw [assignEach_of (chkG_ns h.1)]
    obtain ⟨h1, h2⟩ := assignEach_len (env := env) h.2
    refine ⟨by rw [List.length_cons, h1]; rfl, ?_⟩
    rw [List.findIdx?_cons]
    simp [h2]
theorem bindTs_len {h : Hh} : ∀ {l : TL} {ds : List D} {S S' : Sl} {es : List Expr}, chkGL Γ l es = true → bindTs h l ds S = some S' → ds.length = es.length
  | .nil, [], _, _, [], _, _ => rfl
  | .nil, [], _, _, _ :: _, c, _ => by simp [chkGL] at c
  | .nil, _ :: _, _, _, _, _, e => by simp [bindTs] at e
  | .cons t l, [], _, _, _, _, e => by simp [bindTs] at e
  | .cons t l, d :: ds, S, S', [], c, _ => by simp [chkGL] at c
  | .cons t l, d :: ds, S, S', x :: xs, c, e => by
    simp only [chkGL, Bool.and_eq_true] at c
    simp only [bindTs, Option.bind_eq_some_iff] at e
    obtain ⟨S1, _, e2⟩ := e
    rw [List.length_cons, List.length_cons, bindTs_len c.2 e2]
mutual
theorem jg (c : Cok G Φ Γ X Wx) : ∀ (t : Tg) (ex : Expr), chkG Γ t ex = true → PG X ex (tG X t)
  | .nm i, ex, h => by
    cases ex with
    | Name x pos =>
      simp only [chkG, Bool.and_eq_true, decide_eq_true_eq] at h
      refine PG.imp (pg_name (i := i) (by rw [c.N]; exact c.nd) (by rw [c.N]; exact h.1) (sto_of c h.2) (c.fn x h.2)) fun v σ H Q ⟨ρ, S, hh, d, S', A, r, e, k⟩ => ?_
      simp only [bindT, Option.some.injEq] at e
      subst e
      refine k _ ⟨A.rep, A.sl.set i r⟩ List.length_set fun j hj => ?_
      have : i ≠ j := fun z => hj (by simp [tgIx, z])
      rw [List.getElem?_set_ne this]
    | _ => simp [chkG] at h
  | .tp l, ex, h => by
    cases ex with
    | Tuple xs kk pos =>
      simp only [chkG] at h
      obtain ⟨h1, h2⟩ := assignEach_len (env := X.env) h
      refine PG.imp (pg_tup c.calm (jgs c l xs h) h1 h2) fun v σ H Q ⟨ρ, S, hh, d, S', A, r, e, k⟩ => ?_
      simp only [bindT] at e
      split at e
      · rename_i ds
        cases r with
        | tup q rl =>
          refine ⟨_, _, rfl, q, by rw [rl.length]; exact bindTs_len h e, ?_⟩
          exact ⟨ρ, S, hh, ds, S', A, rl, e, k⟩
      · cases e
    | _ => simp [chkG] at h
theorem jgs (c : Cok G Φ Γ X Wx) : ∀ (t : TL) (es : List Expr), chkGL Γ t es = true → PGs X es (tGs X t)
  | .nil, [], _ => by
    refine PGs.imp pgs_nil fun vs σ H Q ⟨ρ, S, hh, ds, S', A, r, e, k⟩ => ?_
    cases ds with
    | nil =>
      simp only [bindTs, Option.some.injEq] at e
      subst e
      exact ⟨r.nil_inv, k σ A rfl fun _ _ => rfl⟩
    | cons _ _ => simp [bindTs] at e
  | .nil, _ :: _, h => by simp [chkGL] at h
  | .cons t l, [], h => by simp [chkGL] at h
  | .cons t l, x :: xs, h => by
    simp only [chkGL, Bool.and_eq_true] at h
    refine PGs.imp (pgs_cons (jg c t x h.1) (jgs c l xs h.2) (by rw [assignEach_of (chkG_ns h.1)]; rfl)) fun vs σ H Q ⟨ρ, S, hh, ds, S', A, r, e, k⟩ => ?_
    cases ds with
    | nil => simp [bindTs] at e
    | cons d ds =>
      simp only [bindTs, Option.bind_eq_some_iff] at e
      obtain ⟨S1, e1, e2⟩ := e
      obtain ⟨v, ws, rfl, rv, rl⟩ := r.cons_inv
      refine ⟨v, ws, rfl, ρ, S, hh, d, S1, A, rv, e1, fun σ1 A1 l1 o1 => ?_⟩
      refine ⟨ρ, S1, hh, ds, S', A1, rl, e2, fun σ2 A2 l2 o2 => k σ2 A2 (l2.trans l1) fun i hi => ?_⟩
      simp only [tgIxs, List.mem_append, not_or] at hi
      rw [o2 i hi.2, o1 i hi.1]
end

/-! ### a comprehension's block -/
/-- the same from another context over the same text -/
structure Same2 (X Y : Cx) : Prop where
  K : Y.K = X.K
  mg : Y.mg = X.mg
theorem Same2.wd {X Y : Cx} (e : Same2 X Y) (ρ : Nat → Addr) (h : Hh) (H : Hp) : Z.wd Y ρ h H = Z.wd X ρ h H := by
  show (⟨Y.K, Y.mg, ρ, h.length, H⟩ : Wd) = ⟨X.K, X.mg, ρ, h.length, H⟩
  rw [e.K, e.mg]
theorem Same2.at_ {X Y : Cx} (e : Same2 X Y) {ρ : Nat → Addr} {h : Hh} {H : Hp} {σ : St} {S : Sl} (A : At X ρ h H σ S) : At Y ρ h H σ S := ⟨by rw [e.wd]; exact A.rep, by rw [e.wd]; exact A.sl⟩
theorem Same2.symm {X Y : Cx} (e : Same2 X Y) : Same2 Y X := ⟨e.K.symm, e.mg.symm⟩
theorem Same2.fin {α : Type} {X Y : Cx} (e : Same2 X Y) {Wx : WX} {ρ : Nat → Addr} {h : Hh} {H : Hp} {σ : St} {S : Sl} {r : Rs α × Hh} {P P' : (Nat → Addr) → Hh → Hp → α → Prop} (F : Fin X Wx ρ h H σ S r P) (hP : ∀ ρ h H a, P ρ h H a → P' ρ h H a) : Fin Y Wx ρ h H σ S r P' := by
  match r, F with
  | (.ok a, h'), F => exact fun ρ' H' g A => hP _ _ _ _ (F ρ' H' (by rw [← e.wd, ← e.wd]; exact g) (e.symm.at_ A))
  | (.ex C fs, h'), F => exact fun ρ' H' cls dx g A x => F ρ' H' cls dx (by rw [← e.wd, ← e.wd]; exact g) (e.symm.at_ A) (by rw [← e.wd]; exact x)
theorem Same2.tE {X Y : Cx} (e : Same2 X Y) {Wx : WX} {f : EF} {σ : St} {H : Hp} {Q : VK} (q : Z.tE X Wx f σ H Q) : Z.tE Y Wx f σ H Q := by
  obtain ⟨ρ, S, h, r, A, ef, F⟩ := q
  exact ⟨ρ, S, h, r, e.at_ A, ef, e.fin F fun ρ' h' H' d k v rv => k v (by rw [← e.wd]; exact rv)⟩
theorem Same2.tT {X Y : Cx} (e : Same2 X Y) {Wx : WX} {f : TF} {σ : St} {H : Hp} {Q : Bool → Hp → Prop} (q : Z.tT X Wx f σ H Q) : Z.tT Y Wx f σ H Q := by
  obtain ⟨ρ, S, h, r, A, ef, F⟩ := q
  exact ⟨ρ, S, h, r, e.at_ A, ef, e.fin F fun ρ' h' H' d k => k⟩
theorem Same2.tG {X Y : Cx} (e : Same2 X Y) {t : Tg} {v : V} {σ : St} {H : Hp} {Q : St → Hp → Prop} (q : Z.tG X t v σ H Q) : Z.tG Y t v σ H Q := by
  obtain ⟨ρ, S, h, d, S', A, rv, eb, k⟩ := q
  exact ⟨ρ, S, h, d, S', e.at_ A, by rw [e.wd]; exact rv, eb, fun σ' A' l o => k σ' (e.symm.at_ A') l o⟩
theorem same_blk {s : Shared} {H : Hp} {scope : Scope} {ce : Env} {fp : List Addr} : Same2 X (X.blk s H scope ce fp) := ⟨rfl, rfl⟩
abbrev W0 : WX := fun _ _ _ _ => False
theorem Cok.block (c : Cok G Φ Γ X Wx) (scope : Scope) (s : Shared) (H : Hp) (C : Addr) (cl : List (Str × Addr)) (fp : List Addr) : Cok G Φ (Γin Γ scope) (X.blk s H scope (compEnvC scope cl C X.env) fp) W0 where
  N := c.N
  nd := c.nd
  sc := by
    show relS scope X.env.scope = relS scope Γ.sc
    rw [c.sc]
  calm := c.calm
  units := c.units
  fn := fun x h => by
    have h' : locB scope x = true ∧ locB (relS scope Γ.sc) x = true := by simpa [stoB, Γin] using h
    have h1 := h'.1
    unfold locB at h1
    split at h1
    · rename_i e
      exact .inr (lookup_relS_keep (by decide) e)
    · rename_i e
      refine .inl ?_
      show (scope.names.lookup x == some .cell) = true
      rw [e]
      rfl
    · cases h1
  takes := takes0
  glob := c.glob
  blt := c.blt
  fns := fun x n e => ⟨(c.fns x n e).ex⟩
  noat := c.noat
  mets := c.mets
  mks := c.mks
  isc := c.isc
  gdic := c.gdic
theorem RO.le {W W' : Wd} (g : Le W W') {a : Addr} {o : O} (e : W'.H a = W.H a) (r : RO W a o) : RO W' a o := by
  cases r with
  | lst x y => exact .lst (e.trans x) (y.le g)
  | dic x z y => exact .dic (e.trans x) z (y.le g)
  | ins c x z y => exact .ins (by rw [g.mg]; exact c) (e.trans x) z (y.le g)
  | fdc x z y => exact .fdc (e.trans x) z (y.le g)
/-- a list of nobody is changed -/
theorem At.over {ρ : Nat → Addr} {h : Hh} {H : Hp} {σ : St} {S : Sl} (A : At X ρ h H σ S) {Dd : Addr} {acc acc' : List V} (f : ∀ i, i < h.length → ρ i ≠ Dd) (e : H Dd = some (.lst acc)) :
    Le (wd X ρ h H) (wd X ρ h (upd H Dd (.lst acc'))) ∧ At X ρ h (upd H Dd (.lst acc')) σ S := by
  have le : Le (wd X ρ h H) (wd X ρ h (upd H Dd (.lst acc'))) := by
    have ne : ∀ {a : Addr} {u : HO}, H a = some u → u ≠ .lst acc → upd H Dd (.lst acc') a = some u := fun {a u} q1 q2 => by
      rw [upd_ne]
      · exact q1
      · rintro rfl
        rw [e] at q1
        cases q1
        exact q2 rfl
    refine ⟨rfl, Nat.le_refl _, fun _ _ => rfl, fun a vs q => ?_, fun a vs q => ?_⟩
    · rcases q with (q | ⟨ob, q⟩) | q
      · exact .inl (.inl (ne q (by intro z; cases z)))
      · exact .inl (.inr ⟨ob, ne q (by intro z; cases z)⟩)
      · exact .inr q
    · rcases q with ⟨ob, q⟩ | q
      · exact .inl ⟨ob, ne q (by intro z; cases z)⟩
      · exact .inr q
  refine ⟨le, ⟨⟨A.rep.len, A.rep.inj, fun i o q => ?_⟩, ⟨A.sl.len, fun i d q => ?_⟩⟩⟩
  · have hi : i < h.length := (List.getElem?_eq_some_iff.mp q).1
    exact (A.rep.obj i o q).le le (upd_ne (f i hi))
  · obtain ⟨v, e', r⟩ := A.sl.at_ i d q
    exact ⟨v, e', r.le le⟩
theorem Go.over {W : Wd} {ρ : Nat → Addr} {h : Hh} {H : Hp} (g : Go W (wd X ρ h H)) {Dd : Addr} {u : HO} (n0 : W.H Dd = none) (f : ∃ b, H Dd = some b) : Go W (wd X ρ h (upd H Dd u)) :=
  ⟨g.K, g.mg, g.n, g.ag, fun a o q k => by
    show upd H Dd u a = some o
    rw [upd_ne (ne_of_none q n0)]
    exact g.keep a o q k, fun a q => by
    have q' : upd H Dd u a = none := q
    by_cases c : a = Dd
    · rw [c, upd_same] at q'; cases q'
    · rw [upd_ne c] at q'
      exact g.dom a q', g.fresh, fun a ob u' q => by
    show upd H Dd u a = some _
    rw [upd_ne (ne_of_none q n0)]
    exact g.frz a ob u' q⟩
abbrev BF := Sl → Hh → M Bool
/-- one turn's item -/
noncomputable def lcF (tg : Tg) (own : List Nat) (fc : BF) (fe : EF) (S : Sl) : D → Hh → M (Option D) := fun x h => match bindT h tg x (wipeS S own) with
  | none => none
  | some S1 => match fc S1 h with
    | some (.ok true, h2) => (bd (vv fe S1 h2) fun d h3 => some (.ok (some d), h3))
    | some (.ok false, h2) => some (.ok none, h2)
    | _ => none
theorem lc_read {t : Tg} {own : List Nat} {fi : IF} {fc : BF} {fe : EF} (hix : ∀ i ∈ tgIx t, i ∈ own) {σ : St} {H : Hp} {Q : VK}
    (q : tE X Wx (fun S h => bd (fi S h) fun s h1 => if s.items.length ≤ sizeLine then
      match lcGo s.stay (lcF t own fc fe S) s.items h1 with
      | some (ys, h2) => some (.ok (.lst ys), h2)
      | none => none
    else none) σ H Q) : tLc (tI X Wx fi) (tG X t) (tT X W0 fc) (tE X W0 (vv fe)) own σ H Q := by
  obtain ⟨ρ, S, h, rr, A, e, F⟩ := q
  obtain ⟨ra, e1, F1⟩ := Fin.bd (Pa := fun ρ' h' H' s => ∀ J, Wk X s ρ' h' H' J → ∀ D, H' D = none → ∃ W : Nat → Nat → Hp → Prop, (∃ m, W 0 m (upd H' D (.lst []))) ∧ ∀ i m H, W i m H →
      (J.stop i H ∧ Q (.ref D) H) ∨ (J.go i H ∧ ∃ Nx : Hp → Prop, (∀ H', Nx H' → ∃ m', m' < m ∧ W (i + 1) m' H') ∧ ∀ x H', J.yld i H x H' → tG X t x (L2.wipe σ own) H' fun σ2 H2 => L2.wipe σ2 own = L2.wipe σ own ∧ tT X W0 fc σ2 H2 fun b H3 =>
        if b = true then tE X W0 (vv fe) σ2 H3 fun y H4 => ∃ acc, H4 D = some (.lst acc) ∧ acc.length < sizeLine ∧ Nx (upd H4 D (.lst (acc ++ [y]))) else Nx H3)) e F (fun s h1 ρ1 H1 _ g1 A1 e1 F1 J wk Dd hD => by
    split at e1
    · rename_i hz
      split at e1
      · rename_i ys h2 el
        cases e1
        -- the items still to come make the rest of the list
        refine ⟨fun i m H' => m = s.items.length - i ∧ i ≤ s.items.length ∧ ∃ ρ' h' acc zs, At X ρ' h' H' σ S ∧ Go (wd X ρ1 h1 H1) (wd X ρ' h' H') ∧ H' Dd = some (.lst acc) ∧ (∀ j, j < h'.length → ρ' j ≠ Dd) ∧ acc.length ≤ i ∧
          (∃ accD, RL (wd X ρ' h' H') acc accD ∧ ∃ rest, lcGo s.stay (lcF t own fc fe S) (s.items.drop i) h' = some (rest, h2) ∧ ys = accD ++ rest) ∧ zs = s.items, ⟨s.items.length, by simp, Nat.zero_le _, ρ1, h1, [], _, ?_, ?_, upd_same, A1.rep.ne hD, Nat.le_refl _, ⟨[], .nil, ys, ?_, rfl⟩, rfl⟩, ?_⟩
        · exact (A1.tmp hD).2
        · exact (A1.tmp hD).1
        · rw [List.drop_zero]; exact el
        · rintro i m H' ⟨rfl, hi, ρ', h', acc, zs, A', g', hacc, free, hal, ⟨accD, racc, rest, er, ey⟩, ez⟩
          by_cases hlt : i < s.items.length
          · refine .inr ?_
            have hd : s.items.drop i = s.items[i] :: s.items.drop (i + 1) := (List.getElem_cons_drop hlt).symm
            rw [hd] at er
            simp only [lcGo] at er
            split at er
            · rename_i st
              split at er
              · rename_i o h3 ef
                split at er
                · rename_i ys' h4 er'
                  cases er
                  have A'w : At X ρ' h' H' (L2.wipe σ own) (wipeS S own) := ⟨A'.rep, A'.sl.wipe own⟩
                  obtain ⟨_, turn⟩ := wk ρ' h' H' _ _ g' A'w st
                  obtain ⟨go, yl⟩ := turn i hlt
                  refine ⟨go, fun H5 => ∃ ρ5 h5 acc5, At X ρ5 h5 H5 σ S ∧ Go (wd X ρ1 h1 H1) (wd X ρ5 h5 H5) ∧ H5 Dd = some (.lst acc5) ∧ (∀ j, j < h5.length → ρ5 j ≠ Dd) ∧ acc5.length ≤ i + 1 ∧
                    (∃ accD5, RL (wd X ρ5 h5 H5) acc5 accD5 ∧ ∃ rest5, lcGo s.stay (lcF t own fc fe S) (s.items.drop (i + 1)) h5 = some (rest5, h2) ∧ ys = accD5 ++ rest5), fun H5 n5 => ?_, fun x H6 y6 => ?_⟩
                  · obtain ⟨ρ5, h5, acc5, a, b, cc, d, ee, f⟩ := n5
                    exact ⟨s.items.length - (i + 1), by omega, rfl, hlt, ρ5, h5, acc5, _, a, b, cc, d, ee, f, rfl⟩
                  · obtain ⟨dx, edx, g6, A6, r6⟩ := yl x H6 y6
                    have edx' : s.items[i] = dx := by
                      rw [List.getElem?_eq_getElem hlt] at edx
                      exact Option.some.inj edx
                    subst edx'
                    have A6' : At X ρ' h' H6 σ S := ⟨A6.rep, A'.sl.go g6 A'.rep⟩
                    have keepD : ∀ {ρa : Nat → Addr} {ha : Hh} {Ha : Hp}, Go (wd X ρ' h' H') (wd X ρa ha Ha) → Ha Dd = some (.lst acc) ∧ ∀ j, j < ha.length → ρa j ≠ Dd := fun {ρa ha Ha} ga => by
                      refine ⟨ga.keep Dd _ hacc free, fun j hj z => ?_⟩
                      by_cases cj : j < h'.length
                      · exact free j cj ((ga.ag j cj).symm.trans z)
                      · have q1 : H' (ρa j) = none := ga.fresh j (by show h'.length ≤ j; omega) hj
                        rw [z, hacc] at q1
                        cases q1
                    unfold lcF at ef
                    cases eb : bindT h' t s.items[i] (wipeS S own) with
                    | none => rw [eb] at ef; cases ef
                    | some S1 =>
                      rw [eb] at ef
                      dsimp only at ef
                      refine ⟨ρ', wipeS S own, h', s.items[i], S1, A6, r6, eb, fun σ2 A2 l2 o2 => ⟨?_, ?_⟩⟩
                      · rw [← wipe_wipe σ own]
                        exact wipe_eq l2 fun j hj => o2 j fun z => hj (hix j z)
                      · cases ec : fc S1 h' with
                        | none => rw [ec] at ef; cases ef
                        | some rc =>
                          rw [ec] at ef
                          match rc, ec, ef with
                          | (.ex _ _, _), _, ef => cases ef
                          | (.ok false, h7), ec, ef =>
                            cases ef
                            refine ⟨ρ', S1, h', _, A2, ec, fun ρ7 H7 g7 A7 => ?_⟩
                            dsimp only
                            rw [if_neg Bool.false_ne_true]
                            have gg : Go (wd X ρ' h' H') (wd X ρ7 h3 H7) := g6.trans g7
                            obtain ⟨k1, k2⟩ := keepD gg
                            exact ⟨ρ7, h3, acc, ⟨A7.rep, A6'.sl.go g7 A6'.rep⟩, g'.trans gg, k1, k2, by omega, accD, racc.go gg A'.rep, ys', er', ey⟩
                          | (.ok true, h7), ec, ef =>
                            refine ⟨ρ', S1, h', _, A2, ec, fun ρ7 H7 g7 A7 => ?_⟩
                            dsimp only
                            rw [if_pos rfl]
                            dsimp only at ef
                            cases eq : vv fe S1 h7 with
                            | none => rw [eq] at ef; cases ef
                            | some rq =>
                              rw [eq] at ef
                              match rq, eq, ef with
                              | (.ex _ _, _), _, ef => cases ef
                              | (.ok dq, h8), eq, ef =>
                                cases ef
                                refine ⟨ρ7, S1, h7, _, A7, eq, fun ρ8 H8 g8 A8 v8 r8 => ?_⟩
                                have gg : Go (wd X ρ' h' H') (wd X ρ8 h3 H8) := (g6.trans g7).trans g8
                                obtain ⟨k1, k2⟩ := keepD gg
                                have A8' : At X ρ8 h3 H8 σ S := ⟨A8.rep, A'.sl.go gg A'.rep⟩
                                obtain ⟨le, A9⟩ := A8'.over (acc' := acc ++ [v8]) k2 k1
                                refine ⟨acc, k1, by omega, ρ8, h3, acc ++ [v8], A9, (g'.trans gg).over hD ⟨_, k1⟩, upd_same, k2, by rw [List.length_append, List.length_singleton]; omega, accD ++ [dq], ?_, ys', er', ?_⟩
                                · exact ((racc.go gg A'.rep).append (.cons (r8.ofHeld (vv_held eq)) .nil)).le le
                                · rw [ey, List.append_assoc]
                                  rfl
                · cases er
              · cases er
            · cases er
          · have ei : i = s.items.length := by omega
            subst ei
            rw [List.drop_length] at er
            simp only [lcGo] at er
            split at er
            · rename_i st
              cases er
              refine .inl ⟨(wk ρ' _ H' _ _ g' A' st).1, ?_⟩
              rw [List.append_nil] at ey
              subst ey
              refine F1 ρ' H' g' A' _ (.new hacc free (g1.dom _ hD) racc)
            · cases er
      · cases e1
    · cases e1)
  exact ⟨ρ, S, h, ra, A, e1, F1⟩
theorem je_lc {elt tg iter : Expr} {ifs : List Expr} {scope : Scope} {own : List Nat} {pos : Pos} {t : Tg} {fi : IF} {fc : BF} {fe : EF} (c : Cok G Φ Γ X Wx) (hb : blkC Γ.N Γ.sc scope (ownOf Γ.N own) = true) (hix : ∀ i ∈ tgIx t, i ∈ own)
    (ji : JI X Wx tg iter fi) (hg : chkG (Γin Γ scope) t tg = true)
    (jc : ∀ s H C cl fp, PTs (X.blk s H scope (compEnvC scope cl C X.env) fp) ifs (tT X W0 fc)) (je : ∀ s H C cl fp, JE (X.blk s H scope (compEnvC scope cl C X.env) fp) W0 elt fe) (hs : ∀ x, foldedSetIterable iter X.env x = pure x) :
    JE X Wx (.ListComp elt [⟨tg, iter, ifs, 0⟩] scope pos) (fun S h => bd (fi S h) fun s h1 => if s.items.length ≤ sizeLine then
      match lcGo s.stay (lcF t own fc fe S) s.items h1 with
      | some (ys, h2) => some (.ok (.lst ys), h2)
      | none => none
    else none) := by
  have ho : (ownOf Γ.N own).map (·.2) = own := by
    unfold ownOf
    rw [List.map_map]
    exact List.map_id'' (fun _ => rfl) own
  have ok : BlkOk X.N X.env.scope scope (ownOf Γ.N own) := by
    rw [c.N, c.sc]
    exact blkOk_by hb
  have p := pe_lc (g := tG X t) (tt := tT X W0 fc) (te := tE X W0 (vv fe)) c.calm (by rw [c.N]; exact c.nd) ji ok (fun s H C cl fp => PG.imp (jg (c.block scope s H C cl fp) t tg hg) fun _ _ _ _ q => same_blk.tG q) jc (fun s H C cl fp => PE.imp (JE.vv (je s H C cl fp)) fun _ _ _ q => same_blk.tE q) hs (pos := pos)
  rw [ho] at p
  exact PE.imp p fun σ H Q q => lc_read hix q
/-- a name that is given a comprehension -/
theorem js_setLc {elt tg iter : Expr} {ifs : List Expr} {scope : Scope} {own : List Nat} {py pos spos : Pos} {t : Tg} {fi : IF} {fc : BF} {fe : EF} {i : Nat} {y : Str} (c : Cok G Φ Γ X Wx) (hb : blkC Γ.N Γ.sc scope (ownOf Γ.N own) = true) (hix : ∀ i ∈ tgIx t, i ∈ own)
    (ji : JI X Wx tg iter fi) (hg : chkG (Γin Γ scope) t tg = true)
    (jc : ∀ s H C cl fp, PTs (X.blk s H scope (compEnvC scope cl C X.env) fp) ifs (tT X W0 fc)) (je : ∀ s H C cl fp, JE (X.blk s H scope (compEnvC scope cl C X.env) fp) W0 elt fe) (hs : ∀ x, foldedSetIterable iter X.env x = pure x)
    (hN : Γ.N[i]? = some y) (hl : Γ.sc.names.lookup y = some .local) (hk : X.env.scope.kind = .function) (hline : (py.line == pos.line) = true) (ha : (scope.names.any fun (n, k) => n == y && (k == .local || k == .cell)) = false) :
    PS X (.Assign [.Name y py] (.ListComp elt [⟨tg, iter, ifs, 0⟩] scope pos) spos) (tAsg (tE X Wx (fun S h => bd (fi S h) fun s h1 => if s.items.length ≤ sizeLine then
      match lcGo s.stay (lcF t own fc fe S) s.items h1 with
      | some (ys, h2) => some (.ok (.lst ys), h2)
      | none => none
    else none)) (gName i)) := by
  have ho : (ownOf Γ.N own).map (·.2) = own := by
    unfold ownOf
    rw [List.map_map]
    exact List.map_id'' (fun _ => rfl) own
  have ok : BlkOk X.N X.env.scope scope (ownOf Γ.N own) := by
    rw [c.N, c.sc]
    exact blkOk_by hb
  have hy : X.env.scope.names.lookup y = some .local := by rw [c.sc]; exact hl
  have p := ps_setLc (g := tG X t) (tt := tT X W0 fc) (te := tE X W0 (vv fe)) (spos := spos) (py := py) c.calm (by rw [c.N]; exact c.nd) (by rw [c.N]; exact hN) hy (sw_true hk hy hline ha) ji ok
    (fun s H C cl fp => PG.imp (jg (c.block scope s H C cl fp) t tg hg) fun _ _ _ _ q => same_blk.tG q) jc (fun s H C cl fp => PE.imp (JE.vv (je s H C cl fp)) fun _ _ _ q => same_blk.tE q) hs (pos := pos)
  rw [ho] at p
  exact PS.imp p fun D σ H q => lc_read hix q
end
end Z

/-! Z9b: len(set(..)), xs[::-1], isinstance of several classes and of own ones, xs.clear() -/
namespace Z
open PySem L2
section
variable {G : Gs} {Φ : CallF} {Γ : Sc} {X : Cx} {Wx : WX}
theorem je_lset {y z : Str} {a : Expr} {f : EF} {p p2 q pos : Pos} (c : Cok G Φ Γ X Wx) (hy : y = "len") (hz : z = "set") (g1 : glB Γ.sc y = true) (g2 : glB Γ.sc z = true) (b1 : y ∈ G.blt) (b2 : z ∈ G.blt) (j : JE X Wx a f) (ns : ∀ y p, a ≠ .Starred y p) :
    JE X Wx (.Call (.Name y p) [.Call (.Name z p2) [a] [] q] [] pos) (fun S h => bd (f S h) fun x h1 => pu (lsetD h1 x) h1) := by
  subst hy hz
  refine PE.imp (pe_ls c.calm (gl_of c g1) (c.blt _ b1) (gl_of c g2) (c.blt _ b2) j (starEach_of ns)) fun σ H Q ⟨ρ, S, h, rr, A, e, F⟩ => ?_
  refine tE.bd A e F fun x h1 ρ1 H1 v g A1 rv e1 F1 => ?_
  obtain ⟨d, ed, k⟩ := Fin.pu e1 F1
  unfold lsetD at ed
  split at ed
  · rename_i xs es
    split at ed
    · rename_i ys ey
      split at ed
      · rename_i hl
        cases ed
        obtain ⟨l, vs, rfl, hq, rl⟩ := sq_of A1 rv es
        have := strs_of rl ey
        subst this
        exact ⟨l, ys, rfl, hq, hl, k ρ1 H1 (Go.refl _) A1 _ (.held (.int _))⟩
      · cases ed
    · cases ed
  · cases ed
theorem je_revl {a : Expr} {f : EF} {k : Nat} {p1 p2 p3 pos : Pos} (j : JE X Wx a f) : JE X Wx (.Subscript a (.Slice none none (some (.UnaryOp .USub (.Constant (.int 1) k p1) p2)) p3) pos) (fun S h => bd (f S h) fun x h1 => pu (revD h1 x) h1) := by
  refine PE.imp (pe_revL j) fun σ H Q ⟨ρ, S, h, rr, A, e, F⟩ => ?_
  refine tE.bd A e F fun x h1 ρ1 H1 v g A1 rv e1 F1 => ?_
  obtain ⟨d, ed, k⟩ := Fin.pu e1 F1
  simp only [revD, Option.map_eq_some_iff] at ed
  obtain ⟨xs, es, rfl⟩ := ed
  obtain ⟨l, vs, rfl, hq, rl⟩ := ls_of A1 rv es
  refine ⟨l, vs, rfl, hq, fun p hp => ?_⟩
  obtain ⟨g', A', r'⟩ := A1.new (H0 := H) hp (g.dom _ hp) rl.rev
  exact k _ _ g' A' _ r'
theorem pa_tys (c : Cok G Φ Γ X Wx) : ∀ {ts : List String} {ys : List Expr}, tysB G Γ ts ys = true → PA X ys (fun σ H Q => Q (ts.map V.ty) H)
  | [], [], _ => pa_nil
  | [], _ :: _, h => by simp [tysB] at h
  | _ :: _, [], h => by simp [tysB] at h
  | t :: ts, y :: ys, h => by
    unfold tysB at h
    split at h
    · rename_i e1 e2; cases e1
    · rename_i t' ts' x p ys' e1 e2
      cases e1
      cases e2
      simp only [Bool.and_eq_true, decide_eq_true_eq] at h
      obtain ⟨⟨⟨⟨⟨rfl, h1⟩, h2⟩, h3⟩, h4⟩, h5⟩ := h
      obtain ⟨o1, o2, o3⟩ := okName_d h2
      exact pa_cons (pe_bltn (v := .ty t) (gl_of c h1) (c.blt _ h3) (typ_boot h4) rfl o3 o1) (pa_tys c h5) (starEach_of (by intro y q z; cases z))
    · cases h
theorem any_kit {K : PySem.W.Frag} {a : String} : ∀ {ts : List String} {b : Bool}, isiAny a ts = some b → PySem.W.kitAny K (.type a) (ts.map Value.type) = some b
  | [], _, e => by cases e; exact kitAny_nil
  | t :: ts, b, e => by
    unfold isiAny at e
    split at e
    · rename_i q
      cases e
      exact kitAny_cons (kit_ty (isi_kit q)) (fun z => by cases z) fun _ => rfl
    · rename_i q
      exact kitAny_cons (kit_ty (isi_kit q)) (fun _ => any_kit e) fun z => by cases z
    · cases e
theorem je_isiT {y : Str} {a : Expr} {ys : List Expr} {ts : List String} {f : EF} {kk : Nat} {p tp pos : Pos} (c : Cok G Φ Γ X Wx) (hy : y = "isinstance") (hg : glB Γ.sc y = true) (ho : okName y = true) (hb : y ∈ G.blt) (ht : tysB G Γ ts ys = true) (hl : ts.length ≤ 10)
    (j : JE X Wx a f) (ns : ∀ y p, a ≠ .Starred y p) : JE X Wx (.Call (.Name y p) [a, .Tuple ys kk tp] [] pos) (fun S h => bd (f S h) fun x h1 => pu (isiTD h1 x ts) h1) := by
  obtain ⟨o1, o2, o3⟩ := okName_d ho
  subst hy
  refine PE.imp (pe_callB call_isiT (gl_of c hg) (c.blt _ hb) (by decide +kernel) (pa_cons j (pa_cons (pe_tup (pa_tys c ht)) pa_nil rfl) (starEach_of ns)) o3 o1 (starEach_of ns) rfl) fun σ H Q ⟨ρ, S, h, rr, A, e, F⟩ => ?_
  refine tE.bd A e F fun x h1 ρ1 H1 v g A1 rv e1 F1 => ?_
  obtain ⟨d, ed, k⟩ := Fin.pu e1 F1
  unfold isiTD at ed
  split at ed
  · rename_i t et
    simp only [Option.map_eq_some_iff] at ed
    obtain ⟨b, eb, rfl⟩ := ed
    refine ⟨by rw [List.length_map]; exact Nat.le_trans hl (by decide), fun tp htp => ?_⟩
    obtain ⟨g', A'⟩ := A1.tmp (o := .tup (ts.map V.ty)) htp
    have paired : ∀ l : List String, Paired ClsV (l.map V.ty) (l.map Value.type) := fun l => by
      induction l with
      | nil => exact .nil
      | cons t l ih => exact .cons (.ty t) ih
    exact ⟨v, tp, _, _, _, b, rfl, upd_same, paired ts, ty_of A' (rv.go g' A1.rep) et, any_kit eb, k _ _ g' A' _ (.held (.bl b))⟩
  · cases ed
theorem je_isiC {y z : Str} {a : Expr} {f : EF} {p q pos : Pos} (c : Cok G Φ Γ X Wx) (hy : y = "isinstance") (hg : glB Γ.sc y = true) (ho : okName y = true) (hb : y ∈ G.blt) (hz : glB Γ.sc z = true) (oz : okName z = true) (hc : z ∈ G.isc) (j : JE X Wx a f) (ns : ∀ y p, a ≠ .Starred y p) :
    JE X Wx (.Call (.Name y p) [a, .Name z q] [] pos) (fun S h => bd (f S h) fun x h1 => match x with
      | .ref n => match h1[n]? with
        | some (.ins B fs) => if B = z then some (.ok (.bl true), h1) else none
        | _ => none
      | _ => none) := by
  obtain ⟨o1, o2, o3⟩ := okName_d ho
  obtain ⟨Ca, mC, ic⟩ := c.isc z hc
  subst hy
  refine PE.imp (pe_callB (C8.call_isC ic) (gl_of c hg) (c.blt _ hb) (by decide +kernel) (pa_cons j (pa_cons (pe_glob (v := .ref Ca) (gl_of c hz) mC rfl (okName_d oz).1) pa_nil rfl) (starEach_of ns)) o3 o1 (starEach_of ns) rfl) fun σ H Q ⟨ρ, S, h, rr, A, e, F⟩ => ?_
  refine tE.bd A e F fun x h1 ρ1 H1 v g A1 rv e1 F1 => ?_
  cases x with
  | ref i =>
    have r1 := rv.ref_inv
    simp only at e1
    split at e1
    · rename_i B fs ec
      split at e1
      · rename_i hB
        subst hB
        cases e1
        obtain ⟨rfl⟩ : v = .ref (ρ1 i) := by cases r1; rfl
        cases A1.rep.obj i _ ec with
        | ins cc hh en rl =>
          have cc' := mC.symm.trans cc
          cases cc'
          exact ⟨_, _, _, rfl, hh, F1 ρ1 H1 (Go.refl _) A1 _ (.held (.bl true))⟩
      · cases e1
    · cases e1
  | _ => cases e1
theorem je_clr {o : Expr} {x : Str} {fo : EF} {apos pos : Pos} (hx : x = "clear") (hl : (apos.endLine == pos.line) = true) (hs : nsup o = true) (jo : JE X Wx o fo) : JE X Wx (.Call (.Attribute o x apos) [] [] pos) (fun S h => bd (vv fo S h) fun x h1 => match x with
      | .ref n => match h1[n]? with
        | some (.lst _) => some (.ok .non, h1.set n (.lst []))
        | _ => none
      | _ => none) := by
  subst hx
  refine PE.imp (pe_bm0 PySem.F.plainAttrs_list PySem.F.slot_list_clear PySem.F.type_list_clear mt_clear (JE.vv jo) (base_of hs) hl) fun σ H Q ⟨ρ, S, h, rr, A, e, F⟩ => ?_
  refine tE.bd A e F fun d h1 ρ1 H1 v g A1 rv e1 F1 => ?_
  cases d with
  | ref i =>
    have r1 := rv.ref_inv
    simp only at e1
    split at e1
    · rename_i xs ec
      cases e1
      obtain ⟨rfl⟩ : v = .ref (ρ1 i) := by cases r1; rfl
      have hn : i < h1.length := (List.getElem?_eq_some_iff.mp ec).1
      cases A1.rep.obj i _ ec with
      | lst hh rl =>
        refine ⟨.inl ⟨rfl, _, SqL.of hh⟩, ?_⟩
        obtain ⟨g', A'⟩ := A1.write (u := .lst []) (o := .lst []) hn (fun ob w z => by rw [show H1 (ρ1 i) = _ from hh] at z; cases z) fun le => .lst upd_same .nil
        exact ⟨_, _, rfl, rfl, hh, F1 ρ1 _ g' A' _ (.held .non)⟩
    · cases e1
  | _ => cases e1
/-- where no exception is wished for -/
theorem Cok.nox (c : Cok G Φ Γ X Wx) : Cok G Φ Γ X.nox (fun _ _ _ _ => False) where
  N := c.N
  nd := c.nd
  sc := c.sc
  calm := c.calm
  units := c.units
  fn := c.fn
  takes := takes0
  glob := c.glob
  blt := c.blt
  fns := fun x n e => ⟨(c.fns x n e).ex⟩
  noat := c.noat
  mets := c.mets
  mks := c.mks
  isc := c.isc
  gdic := c.gdic
end
end Z

/-! Z9c: dicts -/
namespace Z
open PySem L2
/-! ### the pairs of a dict, data and values -/
inductive RK (W : Wd) : List (Key × V) → List (Key × D) → Prop
  | nil : RK W [] []
  | cons {k : Key} {v : V} {d : D} {ks : List (Key × V)} {ds : List (Key × D)} (h : R W v d) (t : RK W ks ds) : RK W ((k, v) :: ks) ((k, d) :: ds)
theorem RK.of {W : Wd} : ∀ {ks : List (Key × V)} {ds : List (Key × D)}, ks.map (·.1) = ds.map (·.1) → RL W (ks.map (·.2)) (ds.map (·.2)) → RK W ks ds
  | [], [], _, _ => .nil
  | [], _ :: _, h, _ => by cases h
  | _ :: _, [], h, _ => by cases h
  | (k, v) :: ks, (j, d) :: ds, h, r => by
    have h1 : k = j := (List.cons.inj h).1
    have h2 := (List.cons.inj h).2
    subst h1
    cases r with
    | cons r t => exact .cons r (RK.of h2 t)
theorem RK.fst {W : Wd} {ks : List (Key × V)} {ds : List (Key × D)} (r : RK W ks ds) : ks.map (·.1) = ds.map (·.1) := by
  induction r with
  | nil => rfl
  | cons h t ih => rw [List.map_cons, List.map_cons, ih]
theorem RK.snd {W : Wd} {ks : List (Key × V)} {ds : List (Key × D)} (r : RK W ks ds) : RL W (ks.map (·.2)) (ds.map (·.2)) := by
  induction r with
  | nil => exact .nil
  | cons h t ih => exact .cons h ih
theorem RK.len {W : Wd} {ks : List (Key × V)} {ds : List (Key × D)} (r : RK W ks ds) : ks.length = ds.length := by
  induction r with
  | nil => rfl
  | cons h t ih => rw [List.length_cons, List.length_cons, ih]
theorem RK.le {W W' : Wd} (g : Le W W') {ks : List (Key × V)} {ds : List (Key × D)} (r : RK W ks ds) : RK W' ks ds := by
  induction r with
  | nil => exact .nil
  | cons h t ih => exact .cons (h.le g) ih
theorem RK.go {W W' : Wd} (g : Go W W') {h : Hh} (p : Rep W h) {ks : List (Key × V)} {ds : List (Key × D)} (r : RK W ks ds) : RK W' ks ds := r.le (g.le p)
theorem RK.append {W : Wd} {ks ls : List (Key × V)} {ds es : List (Key × D)} (r : RK W ks ds) (s : RK W ls es) : RK W (ks ++ ls) (ds ++ es) := by
  induction r with
  | nil => exact s
  | cons h t ih => exact .cons h ih
theorem RK.any {W : Wd} (k : Key) {ks : List (Key × V)} {ds : List (Key × D)} (r : RK W ks ds) : (ks.any fun kv => decide (kv.1 = k)) = (ds.any fun kv => decide (kv.1 = k)) := by
  induction r with
  | nil => rfl
  | cons h t ih => rw [List.any_cons, List.any_cons, ih]
theorem RK.mapv {W : Wd} (k : Key) {v : V} {d : D} (q : R W v d) {ks : List (Key × V)} {ds : List (Key × D)} (r : RK W ks ds) : RK W (ks.map fun kv => if kv.1 = k then (kv.1, v) else kv) (ds.map fun kv => if kv.1 = k then (kv.1, d) else kv) := by
  induction r with
  | nil => exact .nil
  | @cons j v' d' ks ds h t ih =>
    rw [List.map_cons, List.map_cons]
    by_cases c : j = k
    · rw [if_pos c, if_pos c]; exact .cons q ih
    · rw [if_neg c, if_neg c]; exact .cons h ih
theorem RK.put {W : Wd} (k : Key) {v : V} {d : D} (q : R W v d) {ks : List (Key × V)} {ds : List (Key × D)} (r : RK W ks ds) : RK W (putK ks k v) (putKD ds k d) := by
  unfold putK putKD
  rw [r.any k]
  split
  · exact r.mapv k q
  · exact r.append (.cons q .nil)
theorem RK.merge {W : Wd} {ms : List (Key × V)} {es : List (Key × D)} (m : RK W ms es) : ∀ {ks : List (Key × V)} {ds : List (Key × D)}, RK W ks ds → RK W (mergeK ks ms) (mergeKD ds es) := by
  induction m with
  | nil => intro ks ds r; exact r
  | @cons k v d ms es h t ih => intro ks ds r; exact ih (r.put k h)
/-- what stands at a key, or nothing -/
def RV (W : Wd) : Option V → Option D → Prop
  | some v, some d => R W v d
  | none, none => True
  | _, _ => False
theorem RK.val {W : Wd} (k : Key) {ks : List (Key × V)} {ds : List (Key × D)} (r : RK W ks ds) : RV W (valV ks k) (valD ds k) := by
  induction r with
  | nil => exact True.intro
  | @cons j v d ks ds h t ih =>
    by_cases c : j = k
    · have e1 : valV ((j, v) :: ks) k = some v := valV_pos c
      have e2 : valD ((j, d) :: ds) k = some d := by simp [valD, List.find?_cons, c]
      rw [e1, e2]; exact h
    · have e1 : valV ((j, v) :: ks) k = valV ks k := valV_neg c
      have e2 : valD ((j, d) :: ds) k = valD ds k := by simp [valD, List.find?_cons, c]
      rw [e1, e2]; exact ih
theorem RV.isSome {W : Wd} : ∀ {o : Option V} {p : Option D}, RV W o p → o.isSome = p.isSome
  | some _, some _, _ => rfl
  | none, none, _ => rfl
  | some _, none, h => h.elim
  | none, some _, h => h.elim
theorem RV.getD {W : Wd} {v : V} {d : D} (q : R W v d) : ∀ {o : Option V} {p : Option D}, RV W o p → R W (o.getD v) (p.getD d)
  | some _, some _, h => h
  | none, none, _ => q
  | some _, none, h => h.elim
  | none, some _, h => h.elim
theorem R.key {W : Wd} {v : V} {y : D} {k : Key} (r : R W v y) (e : keyD y = some k) : v = kV k := by
  cases y <;> simp only [keyD, Option.some.injEq, reduceCtorEq] at e
  · subst e; cases r; rfl
  · subst e; cases r; rfl
theorem RE.key {W : Wd} {H0 : Hp} {v : V} {y : D} {k : Key} (r : RE W H0 v y) (e : keyD y = some k) : v = kV k := by
  cases r with
  | held r => exact r.key e
  | new _ _ _ _ => cases e
theorem R.of_key {W : Wd} : ∀ k : Key, R W (kV k) (kD k)
  | .inl i => .int i
  | .inr x => .str x
theorem nosl_of {ex : Expr} (h : nsl ex = true) : NoSl ex := by
  intro o i
  cases ex <;> first | rfl | (simp [nsl] at h)
section
variable {G : Gs} {Φ : CallF} {Γ : Sc} {X : Cx} {Wx : WX}
theorem dic_of {ρ : Nat → Addr} {h : Hh} {H H0 : Hp} {σ : St} {S : Sl} {v : V} {x : D} {kvs : List (Key × D)} (A : At X ρ h H σ S) (r : RE (wd X ρ h H) H0 v x) (e : dicD h x = some kvs) :
    ∃ n ks, x = .ref n ∧ v = .ref (ρ n) ∧ Rd H (ρ n) (.dK ks) ∧ RK (wd X ρ h H) ks kvs := by
  unfold dicD at e
  split at e
  · rename_i n
    have r1 := r.ref_inv
    obtain ⟨rfl⟩ : v = .ref (ρ n) := by cases r1; rfl
    split at e
    · rename_i kvs' ec
      cases e
      cases A.rep.obj n _ ec with
      | dic hh en rl => exact ⟨n, _, rfl, rfl, .inl hh, RK.of en rl⟩
    · rename_i kvs' ec
      cases e
      cases A.rep.obj n _ ec with
      | fdc hh en rl => exact ⟨n, _, rfl, rfl, .inr ⟨_, hh⟩, RK.of en rl⟩
    · cases e
  · cases e
theorem dget_of {ρ : Nat → Addr} {h : Hh} {H H0 H1 : Hp} {σ : St} {S : Sl} {v w : V} {x y : D} {o : Option D} (A : At X ρ h H σ S) (r : RE (wd X ρ h H) H0 v x) (s : RE (wd X ρ h H) H1 w y) (e : dgetD h x y = some o) :
    ∃ a ov, v = .ref a ∧ DGet H a w ov ∧ RV (wd X ρ h H) ov o := by
  unfold dgetD at e
  split at e
  · rename_i kvs ed
    split at e
    · rename_i k ek
      cases e
      obtain ⟨n, ks, _, rfl, hh, rk⟩ := dic_of A r ed
      rw [s.key ek]
      exact ⟨_, _, rfl, .inl ⟨ks, k, hh, rfl, rfl⟩, rk.val k⟩
    · cases e
  · cases e
/-- a thing of nobody is changed -/
theorem At.overO {ρ : Nat → Addr} {h : Hh} {H : Hp} {σ : St} {S : Sl} (A : At X ρ h H σ S) {Dd : Addr} {u u' : HO} (f : ∀ i, i < h.length → ρ i ≠ Dd) (e : H Dd = some u) (n1 : ∀ xs, u ≠ .tup xs) (n2 : ∀ ob xs, u ≠ .frz ob xs) :
    Le (wd X ρ h H) (wd X ρ h (upd H Dd u')) ∧ At X ρ h (upd H Dd u') σ S := by
  have le : Le (wd X ρ h H) (wd X ρ h (upd H Dd u')) := by
    have ne : ∀ {a : Addr} {w : HO}, H a = some w → w ≠ u → upd H Dd u' a = some w := fun {a w} q1 q2 => by
      rw [upd_ne]
      · exact q1
      · rintro rfl
        rw [e] at q1
        cases q1
        exact q2 rfl
    refine ⟨rfl, Nat.le_refl _, fun _ _ => rfl, fun a vs q => ?_, fun a vs q => ?_⟩
    · rcases q with (q | ⟨ob, q⟩) | q
      · exact .inl (.inl (ne q (Ne.symm (n1 _))))
      · exact .inl (.inr ⟨ob, ne q (Ne.symm (n2 _ _))⟩)
      · exact .inr q
    · rcases q with ⟨ob, q⟩ | q
      · exact .inl ⟨ob, ne q (Ne.symm (n2 _ _))⟩
      · exact .inr q
  refine ⟨le, ⟨⟨A.rep.len, A.rep.inj, fun i o q => ?_⟩, ⟨A.sl.len, fun i d q => ?_⟩⟩⟩
  · have hi : i < h.length := (List.getElem?_eq_some_iff.mp q).1
    exact (A.rep.obj i o q).le le (upd_ne (f i hi))
  · obtain ⟨v, e', r⟩ := A.sl.at_ i d q
    exact ⟨v, e', r.le le⟩
theorem Go.free {ρ : Nat → Addr} {h h' : Hh} {H : Hp} {ρ' : Nat → Addr} {H' : Hp} (g : Go (wd X ρ h H) (wd X ρ' h' H')) {Dd : Addr} {u : HO} (e : H Dd = some u) (f : ∀ j, j < h.length → ρ j ≠ Dd) : H' Dd = some u ∧ ∀ j, j < h'.length → ρ' j ≠ Dd := by
  refine ⟨g.keep Dd _ e f, fun j hj z => ?_⟩
  by_cases cj : j < h.length
  · exact f j cj ((g.ag j cj).symm.trans z)
  · have q1 : H (ρ' j) = none := g.fresh j (by show h.length ≤ j; omega) hj
    rw [z, e] at q1
    cases q1

theorem je_kix {a b : Expr} {fa fb : EF} {pos : Pos} (c : Cok G Φ Γ X Wx) (ja : JE X Wx a fa) (jb : JE X Wx b fb) (hs : nsl b = true) :
    JE X Wx (.Subscript a b pos) (fun S h => bd (fa S h) fun x h1 => bd (fb S h1) fun y h2 => match dgetD h2 x y with
      | some (some d) => some (.ok d, h2)
      | _ => none) := by
  refine PE.imp (pe_dget (by have := c.units; omega) ja jb (nosl_of hs)) fun σ H Q ⟨ρ, S, h, rr, A, e, F⟩ => ?_
  refine tE.bd A e F fun x h1 ρ1 H1 vx g1 A1 rx e1 F1 => ?_
  refine tE.bd A1 e1 F1 fun y h2 ρ2 H2 vy g2 A2 ry e2 F2 => ?_
  split at e2
  · rename_i d ed
    cases e2
    obtain ⟨a', ov, rfl, dg, rv⟩ := dget_of A2 (A1.newer g2 rx) ry ed
    match ov, rv with
    | some v, rv => exact ⟨a', v, rfl, dg, F2 ρ2 H2 (Go.refl _) A2 _ (.held rv)⟩
    | none, rv => exact rv.elim
  · cases e2
theorem je_kin {neg : Bool} {op : CmpOp} {a b : Expr} {fa fb : EF} {pos : Pos} (c : Cok G Φ Γ X Wx) (ho : op = if neg = true then .NotIn else .In) (ja : JE X Wx a fa) (jb : JE X Wx b fb) (hm : behindInMarks op b = false) :
    JE X Wx (.Compare a [op] [b] pos) (fun S h => bd (fa S h) fun x h1 => bd (fb S h1) fun y h2 => match dgetD h2 y x with
      | some o => some (.ok (.bl (if neg = true then !o.isSome else o.isSome)), h2)
      | none => none) := by
  cases neg with
  | false =>
    simp only [Bool.false_eq_true, if_false] at ho ⊢
    subst ho
    refine PE.imp (pe_cmp (pc_din (by have := c.units; omega) ja jb) hm) fun σ H Q ⟨ρ, S, h, rr, A, e, F⟩ => ?_
    refine tE.bd A e F fun x h1 ρ1 H1 vx g1 A1 rx e1 F1 => ?_
    refine tE.bd A1 e1 F1 fun y h2 ρ2 H2 vy g2 A2 ry e2 F2 => ?_
    split at e2
    · rename_i o eo
      cases e2
      obtain ⟨a', ov, rfl, dg, rv⟩ := dget_of A2 ry (A1.newer g2 rx) eo
      refine ⟨a', ov, rfl, dg, ?_⟩
      rw [rv.isSome]
      exact F2 ρ2 H2 (Go.refl _) A2 _ (.held (.bl _))
    · cases e2
  | true =>
    simp only [if_true] at ho ⊢
    subst ho
    refine PE.imp (pe_cmp (pc_dnotin (by have := c.units; omega) ja jb) hm) fun σ H Q ⟨ρ, S, h, rr, A, e, F⟩ => ?_
    refine tE.bd A e F fun x h1 ρ1 H1 vx g1 A1 rx e1 F1 => ?_
    refine tE.bd A1 e1 F1 fun y h2 ρ2 H2 vy g2 A2 ry e2 F2 => ?_
    split at e2
    · rename_i o eo
      cases e2
      obtain ⟨a', ov, rfl, dg, rv⟩ := dget_of A2 ry (A1.newer g2 rx) eo
      refine ⟨a', ov, rfl, dg, ?_⟩
      rw [rv.isSome]
      exact F2 ρ2 H2 (Go.refl _) A2 _ (.held (.bl _))
    · cases e2
theorem jt_kin {neg : Bool} {op : CmpOp} {a b : Expr} {fa fb : EF} {pos : Pos} (c : Cok G Φ Γ X Wx) (ho : op = if neg = true then .NotIn else .In) (ja : JE X Wx a fa) (jb : JE X Wx b fb) (hm : behindInMarks op b = false) :
    JT X Wx (.Compare a [op] [b] pos) (fun S h => bd (fa S h) fun x h1 => bd (fb S h1) fun y h2 => match dgetD h2 y x with
      | some o => some (.ok (if neg = true then !o.isSome else o.isSome), h2)
      | none => none) := by
  cases neg with
  | false =>
    simp only [Bool.false_eq_true, if_false] at ho ⊢
    subst ho
    refine PT.imp (pt_cmp (pc_din (by have := c.units; omega) ja jb) hm) fun σ H Q ⟨ρ, S, h, rr, A, e, F⟩ => ?_
    refine tE.bd A e F fun x h1 ρ1 H1 vx g1 A1 rx e1 F1 => ?_
    refine tE.bd A1 e1 F1 fun y h2 ρ2 H2 vy g2 A2 ry e2 F2 => ?_
    split at e2
    · rename_i o eo
      cases e2
      obtain ⟨a', ov, rfl, dg, rv⟩ := dget_of A2 ry (A1.newer g2 rx) eo
      refine ⟨a', ov, rfl, dg, _, rfl, ?_⟩
      rw [rv.isSome]
      exact F2 ρ2 H2 (Go.refl _) A2
    · cases e2
  | true =>
    simp only [if_true] at ho ⊢
    subst ho
    refine PT.imp (pt_cmp (pc_dnotin (by have := c.units; omega) ja jb) hm) fun σ H Q ⟨ρ, S, h, rr, A, e, F⟩ => ?_
    refine tE.bd A e F fun x h1 ρ1 H1 vx g1 A1 rx e1 F1 => ?_
    refine tE.bd A1 e1 F1 fun y h2 ρ2 H2 vy g2 A2 ry e2 F2 => ?_
    split at e2
    · rename_i o eo
      cases e2
      obtain ⟨a', ov, rfl, dg, rv⟩ := dget_of A2 ry (A1.newer g2 rx) eo
      refine ⟨a', ov, rfl, dg, _, rfl, ?_⟩
      rw [rv.isSome]
      exact F2 ρ2 H2 (Go.refl _) A2
    · cases e2
theorem je_kget1 {o b : Expr} {n : Str} {fo fb : EF} {apos pos : Pos} (c : Cok G Φ Γ X Wx) (hn : n = "get") (hl : (apos.endLine == pos.line) = true) (hs : nsup o = true) (jo : JE X Wx o fo) (jb : JE X Wx b fb) (ns : ∀ y p, b ≠ .Starred y p) :
    JE X Wx (.Call (.Attribute o n apos) [b] [] pos) (fun S h => bd (fo S h) fun x h1 => match dicD h1 x with
      | some _ => bd (fb S h1) fun y h2 => match dgetD h2 x y with
        | some o => some (.ok (o.getD .non), h2)
        | none => none
      | none => none) := by
  subst hn
  have hse : starEach [b] X.env = [(false, eval b X.env)] := starEach_of ns
  have m : M1 X o "get" apos b pos := ⟨base_of hs, by rw [hse]; rfl, hl, by rw [hse]; rfl⟩
  refine PE.imp (pe_dget1 (by have := c.units; omega) jo jb m) fun σ H Q ⟨ρ, S, h, rr, A, e, F⟩ => ?_
  refine tE.bd A e F fun x h1 ρ1 H1 vx g1 A1 rx e1 F1 => ?_
  split at e1
  · rename_i kvs ek
    obtain ⟨i, ks, rfl, rfl, hh, rk⟩ := dic_of A1 rx ek
    refine ⟨_, rfl, .inl ⟨ks, hh⟩, ?_⟩
    refine tE.bd A1 e1 F1 fun y h2 ρ2 H2 vy g2 A2 ry e2 F2 => ?_
    split at e2
    · rename_i o' eo
      cases e2
      obtain ⟨a', ov, ea, dg, rv⟩ := dget_of A2 (A1.newer g2 rx) ry eo
      cases ea
      exact ⟨ov, dg, F2 ρ2 H2 (Go.refl _) A2 _ (.held (rv.getD .non))⟩
    · cases e2
  · cases e1
theorem je_kget2 {o b d : Expr} {n : Str} {fo fb fd : EF} {apos pos : Pos} (c : Cok G Φ Γ X Wx) (hn : n = "get") (hl : (apos.endLine == pos.line) = true) (hs : nsup o = true) (jo : JE X Wx o fo) (jb : JE X Wx b fb) (jd : JE X Wx d fd) (ns : ∀ y p, b ≠ .Starred y p) (nd : ∀ y p, d ≠ .Starred y p) :
    JE X Wx (.Call (.Attribute o n apos) [b, d] [] pos) (fun S h => bd (fo S h) fun x h1 => match dicD h1 x with
      | some _ => bd (fb S h1) fun y h2 => bd (vv fd S h2) fun z h3 => match dgetD h3 x y with
        | some o => some (.ok (o.getD z), h3)
        | none => none
      | none => none) := by
  subst hn
  have hse : starEach [b, d] X.env = [(false, eval b X.env), (false, eval d X.env)] := by rw [starEach_of ns, starEach_of nd]; rfl
  have m : M2 X o "get" apos b d pos := ⟨base_of hs, by rw [hse]; rfl, hl, by rw [hse]; rfl⟩
  refine PE.imp (pe_dget2 (by have := c.units; omega) jo jb (JE.vv jd) m) fun σ H Q ⟨ρ, S, h, rr, A, e, F⟩ => ?_
  refine tE.bd A e F fun x h1 ρ1 H1 vx g1 A1 rx e1 F1 => ?_
  split at e1
  · rename_i kvs ek
    obtain ⟨i, ks, rfl, rfl, hh, rk⟩ := dic_of A1 rx ek
    refine ⟨_, rfl, .inl ⟨ks, hh⟩, ?_⟩
    refine tE.bd A1 e1 F1 fun y h2 ρ2 H2 vy g2 A2 ry e2 F2 => ?_
    refine tE.bdq A2 e2 F2 fun z h3 ρ3 H3 vz eq g3 A3 rz e3 F3 => ?_
    split at e3
    · rename_i o' eo
      cases e3
      obtain ⟨a', ov, ea, dg, rv⟩ := dget_of A3 (A2.newer g3 (A1.newer g2 rx)) (A2.newer g3 ry) eo
      cases ea
      exact ⟨ov, dg, F3 ρ3 H3 (Go.refl _) A3 _ (.held (rv.getD (rz.ofHeld (vv_held eq))))⟩
    · cases e3
  · cases e1
theorem je_alt {ex : Expr} {f g k : EF} (jf : JE X Wx ex f) (jg : JE X Wx ex g) (hk : ∀ S h r, k S h = some r → f S h = some r ∨ g S h = some r) : JE X Wx ex k :=
  ⟨fun pins s σ H Q I ⟨ρ, S, h, r, A, e, F⟩ => (hk S h r e).elim (fun e' => jf.run pins s σ H Q I ⟨ρ, S, h, r, A, e', F⟩) (fun e' => jg.run pins s σ H Q I ⟨ρ, S, h, r, A, e', F⟩)⟩
theorem jt_alt {ex : Expr} {f g k : TF} (jf : JT X Wx ex f) (jg : JT X Wx ex g) (hk : ∀ S h r, k S h = some r → f S h = some r ∨ g S h = some r) : JT X Wx ex k :=
  ⟨fun pins s σ H Q I ⟨ρ, S, h, r, A, e, F⟩ => (hk S h r e).elim (fun e' => jf.run pins s σ H Q I ⟨ρ, S, h, r, A, e', F⟩) (fun e' => jg.run pins s σ H Q I ⟨ρ, S, h, r, A, e', F⟩)⟩
theorem bd2_or {α : Type} {fa fb : EF} {k f g : D → D → Hh → M α} (hk : ∀ x y h r, k x y h = some r → f x y h = some r ∨ g x y h = some r) (S : Sl) (h : Hh) (r : Rs α × Hh)
    (e : bd (fa S h) (fun x h1 => bd (fb S h1) fun y h2 => k x y h2) = some r) : bd (fa S h) (fun x h1 => bd (fb S h1) fun y h2 => f x y h2) = some r ∨ bd (fa S h) (fun x h1 => bd (fb S h1) fun y h2 => g x y h2) = some r := by
  cases qa : fa S h with
  | none => rw [qa] at e; cases e
  | some ra =>
    rw [qa] at e
    match ra, e with
    | (.ex _ _, _), e => exact .inl e
    | (.ok x, h1), e =>
      simp only [bd] at e ⊢
      cases qb : fb S h1 with
      | none => rw [qb] at e; cases e
      | some rb =>
        rw [qb] at e
        match rb, e with
        | (.ex _ _, _), e => exact .inl e
        | (.ok y, h2), e => exact hk x y h2 r e
theorem je_kix2 {a b : Expr} {fa fb : EF} {pos : Pos} (c : Cok G Φ Γ X Wx) (ja : JE X Wx a fa) (jb : JE X Wx b fb) (hs : nsl b = true) :
    JE X Wx (.Subscript a b pos) (fun S h => bd (fa S h) fun x h1 => bd (fb S h1) fun y h2 => match dgetD h2 x y with
      | some (some d) => some (.ok d, h2)
      | some none => none
      | none => pu (ixD h2 x y) h2) :=
  je_alt (je_kix c ja jb hs) (je_ix ja jb hs) fun S h r e => bd2_or (k := fun x y h2 => match dgetD h2 x y with
      | some (some d) => some (.ok d, h2)
      | some none => none
      | none => pu (ixD h2 x y) h2) (f := fun x y h2 => match dgetD h2 x y with
      | some (some d) => some (.ok d, h2)
      | _ => none) (g := fun x y h2 => pu (ixD h2 x y) h2) (fun x y h2 r e => by
    split at e
    · rename_i d q; exact .inl (by first | exact e | (rw [q]; exact e))
    · cases e
    · exact .inr e) S h r e
theorem je_kin2 {neg : Bool} {op : CmpOp} {a b : Expr} {fa fb : EF} {pos : Pos} (c : Cok G Φ Γ X Wx) (ho : op = if neg = true then .NotIn else .In) (ja : JE X Wx a fa) (jb : JE X Wx b fb) (hm : behindInMarks op b = false) :
    JE X Wx (.Compare a [op] [b] pos) (fun S h => bd (fa S h) fun x h1 => bd (fb S h1) fun y h2 => match dgetD h2 y x with
      | some o => some (.ok (.bl (if neg = true then !o.isSome else o.isSome)), h2)
      | none => pu (cmpD h2 (if neg = true then .NotIn else .In) x y) h2) :=
  je_alt (je_kin c ho ja jb hm) (je_cmp c.units ja jb hm) fun S h r e => bd2_or (k := fun x y h2 => match dgetD h2 y x with
      | some o => some (.ok (.bl (if neg = true then !o.isSome else o.isSome)), h2)
      | none => pu (cmpD h2 (if neg = true then .NotIn else .In) x y) h2) (f := fun x y h2 => match dgetD h2 y x with
      | some o => some (.ok (.bl (if neg = true then !o.isSome else o.isSome)), h2)
      | none => none) (g := fun x y h2 => pu (cmpD h2 op x y) h2) (fun x y h2 r e => by
    split at e
    · rename_i o q; exact .inl (by first | exact e | (rw [q]; exact e))
    · exact .inr (by rw [ho]; exact e)) S h r e
theorem jt_kin2 {neg : Bool} {op : CmpOp} {a b : Expr} {fa fb : EF} {pos : Pos} (c : Cok G Φ Γ X Wx) (ho : op = if neg = true then .NotIn else .In) (ja : JE X Wx a fa) (jb : JE X Wx b fb) (hm : behindInMarks op b = false) :
    JT X Wx (.Compare a [op] [b] pos) (fun S h => bd (fa S h) fun x h1 => bd (fb S h1) fun y h2 => match dgetD h2 y x with
      | some o => some (.ok (if neg = true then !o.isSome else o.isSome), h2)
      | none => match cmpD h2 (if neg = true then .NotIn else .In) x y with
        | some (.bl k) => some (.ok k, h2)
        | _ => none) :=
  jt_alt (jt_kin c ho ja jb hm) (jt_cmp c.units ja jb hm) fun S h r e => bd2_or (k := fun x y h2 => match dgetD h2 y x with
      | some o => some (.ok (if neg = true then !o.isSome else o.isSome), h2)
      | none => match cmpD h2 (if neg = true then .NotIn else .In) x y with
        | some (.bl k) => some (.ok k, h2)
        | _ => none) (f := fun x y h2 => match dgetD h2 y x with
      | some o => some (.ok (if neg = true then !o.isSome else o.isSome), h2)
      | none => none) (g := fun x y h2 => match cmpD h2 op x y with | some (.bl k) => some (.ok k, h2) | _ => none) (fun x y h2 r e => by
    split at e
    · rename_i o q; exact .inl (by first | exact e | (rw [q]; exact e))
    · exact .inr (by rw [ho]; exact e)) S h r e
end
end Z

/-! Z9d: new dicts -/
namespace Z
open PySem L2
section
variable {G : Gs} {Φ : CallF} {Γ : Sc} {X : Cx} {Wx : WX}
/-- a new dict becomes ours -/
theorem At.giveK {ρ : Nat → Addr} {h : Hh} {H : Hp} {σ : St} {S : Sl} (A : At X ρ h H σ S) {p : Addr} (hp : H p = none) {ks : List (Key × V)} {kvs : List (Key × D)} (r : RK (wd X ρ h H) ks kvs) :
    ∃ ρ', Go (wd X ρ h H) (wd X ρ' (h ++ [.dic kvs]) (upd H p (.dK ks))) ∧ At X ρ' (h ++ [.dic kvs]) (upd H p (.dK ks)) σ S ∧ R (wd X ρ' (h ++ [.dic kvs]) (upd H p (.dK ks))) (.ref p) (.ref h.length) := by
  obtain ⟨g, A1⟩ := A.tmp (o := .dK ks) hp
  obtain ⟨g2, A2, r2, _⟩ := A1.give (o := .dic kvs) g (A.rep.ne hp) hp fun le => .dic upd_same r.fst (((r.go g A.rep).le le).snd)
  exact ⟨_, g2, A2, r2⟩
theorem pairs_rk {W : Wd} : ∀ {vs : List V} {xs : List D} {ps : List (Key × D)}, RL W vs xs → pairsD xs = some ps →
    ∃ (as : List Addr) (ks : List (Key × V)), vs = as.map V.ref ∧ Paired (fun p kv => SqT W.K W.H p [kV kv.1, kv.2]) as ks ∧ RK W ks ps
  | _, [], ps, r, e => by
    cases e
    cases r
    exact ⟨[], [], rfl, .nil, .nil⟩
  | _, d :: xs, ps, r, e => by
    cases r with
    | cons hr t =>
    rename_i v vs
    unfold pairsD at e
    split at e
    · rename_i q; cases q
    · rename_i k0 d0 r0 q
      cases q
      split at e
      · rename_i k ek
        split at e
        · rename_i ps' ep
          cases e
          obtain ⟨as, ks, ea, pp, rk⟩ := pairs_rk t ep
          cases hr with
          | tup hq rl =>
            cases rl with
            | cons r1 t1 => cases t1 with
              | cons r2 t2 => cases t2 with
                | nil =>
                  have := r1.key ek
                  subst this
                  exact ⟨_ :: as, (k, _) :: ks, by rw [ea]; rfl, .cons hq pp, .cons r2 rk⟩
        · cases e
      · cases e
    · cases e
theorem je_kpr {y : Str} {a : Expr} {f : EF} {p pos : Pos} (c : Cok G Φ Γ X Wx) (hy : y = "dict") (hg : glB Γ.sc y = true) (ho : okName y = true) (hb : y ∈ G.blt) (j : JE X Wx a f) (ns : ∀ y p, a ≠ .Starred y p) :
    JE X Wx (.Call (.Name y p) [a] [] pos) (fun S h => bd (f S h) fun x h1 => match lsD h1 x with
      | some xs => match pairsD xs with
        | some ps => some (.ok (.ref h1.length), h1 ++ [.dic (mergeKD [] ps)])
        | none => none
      | none => none) := by
  obtain ⟨o1, o2, o3⟩ := okName_d ho
  have gl := gl_of c hg
  have mn := c.blt y hb
  subst hy
  refine PE.imp (pe_callTy (call_dictP c.calm) gl mn (by decide +kernel) (pa_cons j pa_nil (starEach_of ns)) o3 o1 (starEach_of ns) rfl) fun σ H Q ⟨ρ, S, h, rr, A, e, F⟩ => ?_
  refine tE.bd A e F fun x h1 ρ1 H1 v g A1 rv e1 F1 => ?_
  split at e1
  · rename_i xs ex
    split at e1
    · rename_i ps ep
      cases e1
      obtain ⟨l, vs, rfl, hq, rl⟩ := ls_of A1 rv ex
      obtain ⟨as, ks, rfl, pp, rk⟩ := pairs_rk rl ep
      refine ⟨l, as, ks, rfl, hq, pp, fun p hp => ?_⟩
      obtain ⟨ρ2, g2, A2, r2⟩ := A1.giveK hp (rk.merge .nil)
      exact F1 _ _ g2 A2 _ (.held r2)
    · cases e1
  · cases e1
theorem je_kcp {y : Str} {a : Expr} {f : EF} {p pos : Pos} (c : Cok G Φ Γ X Wx) (hy : y = "dict") (hg : glB Γ.sc y = true) (ho : okName y = true) (hb : y ∈ G.blt) (j : JE X Wx a f) (ns : ∀ y p, a ≠ .Starred y p) :
    JE X Wx (.Call (.Name y p) [a] [] pos) (fun S h => bd (f S h) fun x h1 => match dicD h1 x with
      | some kvs => some (.ok (.ref h1.length), h1 ++ [.dic kvs])
      | none => none) := by
  obtain ⟨o1, o2, o3⟩ := okName_d ho
  have gl := gl_of c hg
  have mn := c.blt y hb
  subst hy
  refine PE.imp (pe_callTy call_dictD gl mn (by decide +kernel) (pa_cons j pa_nil (starEach_of ns)) o3 o1 (starEach_of ns) rfl) fun σ H Q ⟨ρ, S, h, rr, A, e, F⟩ => ?_
  refine tE.bd A e F fun x h1 ρ1 H1 v g A1 rv e1 F1 => ?_
  split at e1
  · rename_i kvs ek
    cases e1
    obtain ⟨n, ks, rfl, rfl, hh, rk⟩ := dic_of A1 rv ek
    refine ⟨_, ks, rfl, hh, fun p hp => ?_⟩
    obtain ⟨ρ2, g2, A2, r2⟩ := A1.giveK hp rk
    exact F1 _ _ g2 A2 _ (.held r2)
  · cases e1
theorem keys_rl {W : Wd} {ks : List (Key × V)} {ds : List (Key × D)} (r : RK W ks ds) : RL W (ks.map fun kv => kV kv.1) (ds.map fun kv => kD kv.1) := by
  induction r with
  | nil => exact .nil
  | @cons k v d ks ds h t ih => exact .cons (.of_key k) ih
theorem je_kls {y : Str} {a : Expr} {f : EF} {p pos : Pos} (c : Cok G Φ Γ X Wx) (hy : y = "list") (hg : glB Γ.sc y = true) (ho : okName y = true) (hb : y ∈ G.blt) (j : JE X Wx a f) (ns : ∀ y p, a ≠ .Starred y p) :
    JE X Wx (.Call (.Name y p) [a] [] pos) (fun S h => bd (f S h) fun x h1 => match dicD h1 x with
      | some kvs => some (.ok (.lst (kvs.map fun kv => kD kv.1)), h1)
      | none => none) := by
  obtain ⟨o1, o2, o3⟩ := okName_d ho
  have gl := gl_of c hg
  have mn := c.blt y hb
  subst hy
  refine PE.imp (pe_callTy (call_listD c.calm) gl mn (by decide +kernel) (pa_cons j pa_nil (starEach_of ns)) o3 o1 (starEach_of ns) rfl) fun σ H Q ⟨ρ, S, h, rr, A, e, F⟩ => ?_
  refine tE.bd A e F fun x h1 ρ1 H1 v g A1 rv e1 F1 => ?_
  split at e1
  · rename_i kvs ek
    cases e1
    obtain ⟨n, ks, rfl, rfl, hh, rk⟩ := dic_of A1 rv ek
    refine ⟨_, ks, rfl, hh, fun p hp => ?_⟩
    obtain ⟨g', A', r'⟩ := A1.new (H0 := H) hp (g.dom _ hp) (keys_rl rk)
    exact F1 _ _ g' A' _ r'
  · cases e1

/-! ### written dicts -/
abbrev strF (k : Str) : EF := fun _ h => some (.ok (.str k), h)
def trsOf (X : Cx) (Wx : WX) (Gl : List (Str × D)) (Φ : CallF) : List Str → EL → List (TE × TE)
  | k :: ks, .cons _ e es => (tE X Wx (strF k), tE X Wx (vv ((ev Gl Φ e).v))) :: trsOf X Wx Gl Φ ks es
  | _, _ => []
theorem je_strF {k : Str} {j : Nat} {p : Pos} : JE X Wx (.Constant (.str k) j p) (strF k) := je_const pe_str fun W => .str k
theorem pps_of {Gl : List (Str × D)} {pos : Pos} : ∀ {ks : List Str} {keys : List (Option Expr)} {es : EL} {xs : List Expr}, keysB ks keys = true → ks.length = xs.length → PJ X xs (tsOf X Wx Gl Φ es) → PPs X pos keys xs (trsOf X Wx Gl Φ ks es)
  | [], [], es, [], _, _, p => by
    cases es with
    | nil => exact pps_nil
    | cons _ _ _ => cases p
  | [], _ :: _, _, _, h, _, _ => by simp [keysB] at h
  | [], [], _, _ :: _, _, h, _ => by cases h
  | _ :: _, _, _, [], _, h, _ => by cases h
  | _ :: _, [], _, _, h, _, _ => by simp [keysB] at h
  | k :: ks, o :: keys, es, x :: xs, h, hl, p => by
    unfold keysB at h
    split at h
    · rename_i e1 e2; cases e1
    · rename_i k' ks' y j q r e1 e2
      cases e1
      cases e2
      simp only [Bool.and_eq_true, decide_eq_true_eq] at h
      obtain ⟨rfl, h2⟩ := h
      cases es with
      | nil => cases p
      | cons st e es =>
        cases p with
        | cons q1 q2 => exact pps_cons je_strF (JE.vv q1) (pps_of h2 (by simpa using hl) q2)
    · cases h
theorem keysB_len : ∀ {ks : List Str} {keys : List (Option Expr)}, keysB ks keys = true → keys.length = ks.length ∧ keys.all (·.isSome) = true
  | [], [], _ => ⟨rfl, rfl⟩
  | [], _ :: _, h => by simp [keysB] at h
  | _ :: _, [], h => by simp [keysB] at h
  | k :: ks, o :: keys, h => by
    unfold keysB at h
    split at h
    · rename_i e1 e2; cases e1
    · rename_i k' ks' y j q r e1 e2
      cases e1
      cases e2
      simp only [Bool.and_eq_true, decide_eq_true_eq] at h
      obtain ⟨h1, h2⟩ := keysB_len h.2
      exact ⟨by rw [List.length_cons, List.length_cons, h1], by rw [List.all_cons, h2]; rfl⟩
    · cases h
theorem pj_len : ∀ {xs : List Expr} {ts : List TE}, PJ X xs ts → xs.length = ts.length
  | _, _, .nil => rfl
  | _, _, .cons _ r => congrArg (· + 1) (pj_len r)
theorem tp_of {Gl : List (Str × D)} {σ : St} {S : Sl} : ∀ (es : EL) (ks : List Str) {Q : List (V × V) → Hp → Prop} {ρ : Nat → Addr} {h : Hh} {H : Hp} {r : Rs (List D) × Hh}, nostar es = true → (tsOf X Wx Gl Φ es).length = ks.length → At X ρ h H σ S → evA Gl Φ es S h = some r →
    Fin X Wx ρ h H σ S r (fun ρ' h' H' ds => ∀ kvs, RK (wd X ρ' h' H') kvs ((ks.map Sum.inr).zip ds) → Q (kvs.map fun kv => (kV kv.1, kv.2)) H') → tPairs (trsOf X Wx Gl Φ ks es) σ H Q
  | .nil, ks, Q, ρ, h, H, r, n, nl, A, e, F => by
    simp only [evA, Option.some.injEq] at e
    subst e
    have e2 : trsOf X Wx Gl Φ ks .nil = [] := by cases ks <;> rfl
    rw [e2]
    have := F ρ H (Go.refl _) A [] (by rw [List.zip_nil_right]; exact .nil)
    exact this
  | .cons st e0 es, [], Q, ρ, h, H, r, n, nl, A, e, F => by cases nl
  | .cons st e0 es, k :: ks, Q, ρ, h, H, r, n, nl, A, e, F => by
    simp only [nostar, Bool.and_eq_true, Bool.not_eq_true'] at n
    obtain ⟨n1, n2⟩ := n
    subst n1
    simp only [evA] at e
    refine ⟨ρ, S, h, _, A, rfl, fun ρ1 H1 g1 A1 v rv => ?_⟩
    rw [rv.str_inv]
    refine tE.bdq A1 e (F.go g1) fun d h2 ρ2 H2 w eq g2 A2 rw' e2 F2 => ?_
    have rd := rw'.ofHeld (vv_held eq)
    obtain ⟨ra, ea, Fa⟩ := Fin.bd (Pa := fun ρ' h' H' ds => ∀ kvs, RK (wd X ρ' h' H') kvs ((ks.map Sum.inr).zip ds) → Q ((V.str k, w) :: kvs.map fun kv => (kV kv.1, kv.2)) H') e2 F2 fun ds h3 ρ3 H3 _ g3 A3 e3 F3 kvs rk => by
      cases e3
      exact F3 ρ3 H3 (Go.refl _) A3 ((.inr k, w) :: kvs) (.cons (rd.go g3 A2.rep) rk)
    exact tp_of es ks n2 (by simpa [tsOf] using nl) A2 ea Fa
theorem je_kdis {ks : List Str} {es : EL} {keys : List (Option Expr)} {xs : List Expr} {pos : Pos} (hk : keysB ks keys = true) (hl : ks.length = xs.length) (h15 : ks.length ≤ 15) (h0 : ks.isEmpty = false) (hn : nostar es = true) (p' : PJ X xs (tsOf X Wx G.glob Φ es)) :
    JE X Wx (.Dict keys xs pos) (fun S h => bd (evA G.glob Φ es S h) fun ds h1 => some (.ok (.ref h1.length), h1 ++ [.dic (mergeKD [] ((ks.map Sum.inr).zip ds))])) := by
  obtain ⟨kl, ka⟩ := keysB_len hk
  refine PE.imp (pe_disp (pps_of hk hl p') ka (by omega) (by rintro rfl; cases ks with | nil => cases h0 | cons _ _ => simp [keysB] at hk) (by omega)) fun σ H Q ⟨ρ, S, h, rr, A, e, F⟩ => fun p hp => ?_
  obtain ⟨g0, A0⟩ := A.tmp (o := .dK []) hp
  obtain ⟨ra, ea, Fa⟩ := Fin.bd (Pa := fun ρ' h' H' ds => ∀ kvs, RK (wd X ρ' h' H') kvs ((ks.map Sum.inr).zip ds) → H' p = some (.dK []) ∧ ∃ kvs' : List (Key × V), (kvs.map fun kv => (kV kv.1, kv.2)) = kvs'.map (fun kv => (kV kv.1, kv.2)) ∧ kvs'.length ≤ 15 ∧ Q (.ref p) (upd H' p (.dK (mergeK [] kvs')))) e (F.go g0) fun ds h1 ρ1 H1 _ g1 A1 e1 F1 kvs rk => by
    cases e1
    obtain ⟨k1, k2⟩ := g1.free upd_same (A.rep.ne hp)
    obtain ⟨le, A2⟩ := A1.overO (u' := .dK (mergeK [] kvs)) k2 k1 (fun _ z => by cases z) fun _ _ z => by cases z
    have rk2 : RK _ (mergeK [] kvs) (mergeKD [] ((ks.map Sum.inr).zip ds)) := (rk.le le).merge .nil
    obtain ⟨g3, A3, r3, _⟩ := A2.give (o := .dic (mergeKD [] ((ks.map Sum.inr).zip ds))) (Go.over (g0.trans g1) hp ⟨_, k1⟩) k2 hp fun le3 => .dic upd_same rk2.fst (rk2.le le3).snd
    have hlen : kvs.length ≤ 15 := by
      rw [rk.len, List.length_zip, List.length_map]; omega
    exact ⟨k1, kvs, rfl, hlen, F _ _ g3 A3 _ (.held r3)⟩
  exact tp_of es ks hn (by rw [hl]; exact (pj_len p').symm) A0 ea Fa
end
end Z

/-! Z9e: dicts by a comprehension -/
namespace Z
open PySem L2
section
variable {G : Gs} {Φ : CallF} {Γ : Sc} {X : Cx} {Wx : WX}
/-- one turn's pair -/
noncomputable def dcF (tg : Tg) (own : List Nat) (fc : BF) (fk fe : EF) (S : Sl) : D → Hh → M (Option (Key × D)) := fun x h => match bindT h tg x (wipeS S own) with
  | none => none
  | some S1 => match fc S1 h with
    | some (.ok true, h2) => (bd (fk S1 h2) fun y h3 => match keyD y with
      | some k => bd (vv fe S1 h3) fun d h4 => some (.ok (some (k, d)), h4)
      | none => none)
    | some (.ok false, h2) => some (.ok none, h2)
    | _ => none
theorem dc_read {t : Tg} {own : List Nat} {fi : IF} {fc : BF} {fk fe : EF} (hix : ∀ i ∈ tgIx t, i ∈ own) {σ : St} {H : Hp} {Q : VK}
    (q : tE X Wx (fun S h => bd (fi S h) fun s h1 => if s.items.length ≤ sizeLine then
      match dcGo s.stay (dcF t own fc fk fe S) s.items h1 [] with
      | some (ys, h2) => some (.ok (.ref h2.length), h2 ++ [.dic ys])
      | none => none
    else none) σ H Q) : tDc (tI X Wx fi) (tG X t) (tT X W0 fc) (tE X W0 fk) (tE X W0 (vv fe)) own σ H Q := by
  obtain ⟨ρ, S, h, rr, A, e, F⟩ := q
  obtain ⟨ra, e1, F1⟩ := Fin.bd (Pa := fun ρ' h' H' s => ∀ J, Wk X s ρ' h' H' J → ∀ D, H' D = none → ∃ W : Nat → Nat → Hp → Prop, (∃ m, W 0 m (upd H' D (.dK []))) ∧ ∀ i m H, W i m H →
      (J.stop i H ∧ Q (.ref D) H) ∨ (J.go i H ∧ ∃ Nx : Hp → Prop, (∀ H', Nx H' → ∃ m', m' < m ∧ W (i + 1) m' H') ∧ ∀ x H', J.yld i H x H' → tG X t x (L2.wipe σ own) H' fun σ2 H2 => L2.wipe σ2 own = L2.wipe σ own ∧ tT X W0 fc σ2 H2 fun b H3 =>
        if b = true then tE X W0 fk σ2 H3 fun y H4 => tE X W0 (vv fe) σ2 H4 fun z H5 => ∃ kvs k, y = kV k ∧ H5 D = some (.dK kvs) ∧ kvs.length < sizeLine ∧ Nx (upd H5 D (.dK (putK kvs k z))) else Nx H3)) e F (fun s h1 ρ1 H1 _ g1 A1 e1 F1 J wk Dd hD => by
    split at e1
    · rename_i hz
      split at e1
      · rename_i ys h2 el
        cases e1
        refine ⟨fun i m H' => m = s.items.length - i ∧ i ≤ s.items.length ∧ ∃ ρ' h' acc zs, At X ρ' h' H' σ S ∧ Go (wd X ρ1 h1 H1) (wd X ρ' h' H') ∧ H' Dd = some (.dK acc) ∧ (∀ j, j < h'.length → ρ' j ≠ Dd) ∧ acc.length ≤ i ∧
          (∃ accD, RK (wd X ρ' h' H') acc accD ∧ dcGo s.stay (dcF t own fc fk fe S) (s.items.drop i) h' accD = some (ys, h2)) ∧ zs = s.items, ⟨s.items.length, by simp, Nat.zero_le _, ρ1, h1, [], _, ?_, ?_, upd_same, A1.rep.ne hD, Nat.le_refl _, ⟨[], .nil, ?_⟩, rfl⟩, ?_⟩
        · exact (A1.tmp hD).2
        · exact (A1.tmp hD).1
        · rw [List.drop_zero]; exact el
        · rintro i m H' ⟨rfl, hi, ρ', h', acc, zs, A', g', hacc, free, hal, ⟨accD, racc, er⟩, ez⟩
          by_cases hlt : i < s.items.length
          · refine .inr ?_
            have hd : s.items.drop i = s.items[i] :: s.items.drop (i + 1) := (List.getElem_cons_drop hlt).symm
            rw [hd] at er
            simp only [dcGo] at er
            split at er
            · rename_i st
              have A'w : At X ρ' h' H' (L2.wipe σ own) (wipeS S own) := ⟨A'.rep, A'.sl.wipe own⟩
              obtain ⟨_, turn⟩ := wk ρ' h' H' _ _ g' A'w st
              obtain ⟨go, yl⟩ := turn i hlt
              refine ⟨go, fun H5 => ∃ ρ5 h5 acc5, At X ρ5 h5 H5 σ S ∧ Go (wd X ρ1 h1 H1) (wd X ρ5 h5 H5) ∧ H5 Dd = some (.dK acc5) ∧ (∀ j, j < h5.length → ρ5 j ≠ Dd) ∧ acc5.length ≤ i + 1 ∧
                (∃ accD5, RK (wd X ρ5 h5 H5) acc5 accD5 ∧ dcGo s.stay (dcF t own fc fk fe S) (s.items.drop (i + 1)) h5 accD5 = some (ys, h2)), fun H5 n5 => ?_, fun x H6 y6 => ?_⟩
              · obtain ⟨ρ5, h5, acc5, a, b, cc, d, ee, f⟩ := n5
                exact ⟨s.items.length - (i + 1), by omega, rfl, hlt, ρ5, h5, acc5, _, a, b, cc, d, ee, f, rfl⟩
              · obtain ⟨dx, edx, g6, A6, r6⟩ := yl x H6 y6
                have edx' : s.items[i] = dx := by
                  rw [List.getElem?_eq_getElem hlt] at edx
                  exact Option.some.inj edx
                subst edx'
                have A6' : At X ρ' h' H6 σ S := ⟨A6.rep, A'.sl.go g6 A'.rep⟩
                have keepD : ∀ {ρa : Nat → Addr} {ha : Hh} {Ha : Hp}, Go (wd X ρ' h' H') (wd X ρa ha Ha) → Ha Dd = some (.dK acc) ∧ ∀ j, j < ha.length → ρa j ≠ Dd := fun {ρa ha Ha} ga => ga.free hacc free
                cases eb : bindT h' t s.items[i] (wipeS S own) with
                | none => simp only [dcF, eb] at er; cases er
                | some S1 =>
                  refine ⟨ρ', wipeS S own, h', s.items[i], S1, A6, r6, eb, fun σ2 A2 l2 o2 => ⟨?_, ?_⟩⟩
                  · rw [← wipe_wipe σ own]
                    exact wipe_eq l2 fun j hj => o2 j fun z => hj (hix j z)
                  · cases ec : fc S1 h' with
                    | none => simp only [dcF, eb, ec] at er; cases er
                    | some rc =>
                      match rc, ec with
                      | (.ex _ _, _), ec => simp only [dcF, eb, ec] at er; cases er
                      | (.ok false, h7), ec =>
                        simp only [dcF, eb, ec] at er
                        refine ⟨ρ', S1, h', _, A2, ec, fun ρ7 H7 g7 A7 => ?_⟩
                        dsimp only
                        rw [if_neg Bool.false_ne_true]
                        have gg : Go (wd X ρ' h' H') (wd X ρ7 h7 H7) := g6.trans g7
                        obtain ⟨k1, k2⟩ := keepD gg
                        exact ⟨ρ7, h7, acc, ⟨A7.rep, A6'.sl.go g7 A6'.rep⟩, g'.trans gg, k1, k2, by omega, accD, racc.go gg A'.rep, er⟩
                      | (.ok true, h7), ec =>
                        refine ⟨ρ', S1, h', _, A2, ec, fun ρ7 H7 g7 A7 => ?_⟩
                        dsimp only
                        rw [if_pos rfl]
                        cases ek : fk S1 h7 with
                        | none => simp only [dcF, eb, ec, ek, bd] at er; cases er
                        | some rk =>
                          match rk, ek with
                          | (.ex _ _, _), ek => simp only [dcF, eb, ec, ek, bd] at er; cases er
                          | (.ok yk, hk), ek =>
                            refine ⟨ρ7, S1, h7, _, A7, ek, fun ρk Hk gk Ak vk rvk => ?_⟩
                            cases ey : keyD yk with
                            | none => simp only [dcF, eb, ec, ek, bd, ey] at er; cases er
                            | some kk =>
                              cases eq : vv fe S1 hk with
                              | none => simp only [dcF, eb, ec, ek, bd, ey, eq] at er; cases er
                              | some rq =>
                                match rq, eq with
                                | (.ex _ _, _), eq => simp only [dcF, eb, ec, ek, bd, ey, eq] at er; cases er
                                | (.ok dq, h8), eq =>
                                  simp only [dcF, eb, ec, ek, bd, ey, eq] at er
                                  refine ⟨ρk, S1, hk, _, Ak, eq, fun ρ8 H8 g8 A8 v8 r8 => ?_⟩
                                  have gg : Go (wd X ρ' h' H') (wd X ρ8 h8 H8) := ((g6.trans g7).trans gk).trans g8
                                  obtain ⟨k1, k2⟩ := keepD gg
                                  have A8' : At X ρ8 h8 H8 σ S := ⟨A8.rep, A'.sl.go gg A'.rep⟩
                                  obtain ⟨le, A9⟩ := A8'.overO (u' := .dK (putK acc kk v8)) k2 k1 (fun _ z => by cases z) fun _ _ z => by cases z
                                  refine ⟨acc, kk, rvk.key ey, k1, by omega, ρ8, h8, putK acc kk v8, A9, (g'.trans gg).over hD ⟨_, k1⟩, upd_same, k2, ?_, putKD accD kk dq, ?_, er⟩
                                  · have := length_putK acc kk v8; omega
                                  · exact ((racc.go gg A'.rep).put kk (r8.ofHeld (vv_held eq))).le le
            · cases er
          · have ei : i = s.items.length := by omega
            subst ei
            rw [List.drop_length] at er
            simp only [dcGo] at er
            split at er
            · rename_i st
              cases er
              refine .inl ⟨(wk ρ' _ H' _ _ g' A' st).1, ?_⟩
              obtain ⟨g3, A3, r3, _⟩ := A'.give (o := .dic ys) (g1.trans g') free (g1.dom _ hD) fun le => .dic hacc racc.fst (racc.le le).snd
              exact F _ _ g3 A3 _ (.held r3)
            · cases er
      · cases e1
    · cases e1)
  exact ⟨ρ, S, h, ra, A, e1, F1⟩
theorem je_kdc {kx vx tg iter : Expr} {ifs : List Expr} {scope : Scope} {own : List Nat} {pos : Pos} {t : Tg} {fi : IF} {fc : BF} {fk fe : EF} (c : Cok G Φ Γ X Wx) (hb : blkC Γ.N Γ.sc scope (ownOf Γ.N own) = true) (hix : ∀ i ∈ tgIx t, i ∈ own)
    (ji : JI X Wx tg iter fi) (hg : chkG (Γin Γ scope) t tg = true)
    (jc : ∀ s H C cl fp, PTs (X.blk s H scope (compEnvC scope cl C X.env) fp) ifs (tT X W0 fc)) (jk : ∀ s H C cl fp, JE (X.blk s H scope (compEnvC scope cl C X.env) fp) W0 kx fk) (je : ∀ s H C cl fp, JE (X.blk s H scope (compEnvC scope cl C X.env) fp) W0 vx fe) (hs : ∀ x, foldedSetIterable iter X.env x = pure x) :
    JE X Wx (.DictComp kx vx [⟨tg, iter, ifs, 0⟩] scope pos) (fun S h => bd (fi S h) fun s h1 => if s.items.length ≤ sizeLine then
      match dcGo s.stay (dcF t own fc fk fe S) s.items h1 [] with
      | some (ys, h2) => some (.ok (.ref h2.length), h2 ++ [.dic ys])
      | none => none
    else none) := by
  have ho : (ownOf Γ.N own).map (·.2) = own := by
    unfold ownOf
    rw [List.map_map]
    exact List.map_id'' (fun _ => rfl) own
  have ok : BlkOk X.N X.env.scope scope (ownOf Γ.N own) := by
    rw [c.N, c.sc]
    exact blkOk_by hb
  have p := pe_dc (g := tG X t) (tt := tT X W0 fc) (tk := tE X W0 fk) (tv := tE X W0 (vv fe)) c.calm (by rw [c.N]; exact c.nd) ji ok (fun s H C cl fp => PG.imp (jg (c.block scope s H C cl fp) t tg hg) fun _ _ _ _ q => same_blk.tG q) jc (fun s H C cl fp => PE.imp (jk s H C cl fp) fun _ _ _ q => same_blk.tE q) (fun s H C cl fp => PE.imp (JE.vv (je s H C cl fp)) fun _ _ _ q => same_blk.tE q) hs (pos := pos)
  rw [ho] at p
  exact PE.imp p fun σ H Q q => dc_read hix q
end
end Z

/-! Z9f: dicts of the top; tuple(d.values()) -/
namespace Z
open PySem L2
theorem GV.some_inv {mg : Str → Option Value} {o : Option Value} {g : Gv} (h : GV mg o (some g)) : ∃ u v, o = some u ∧ RelV v u ∧ ∀ W : Wd, W.mg = mg → R W v g.d := by
  cases o with
  | none => cases g <;> exact h.elim
  | some u =>
    cases g with
    | s x => obtain ⟨t, rfl⟩ := h; exact ⟨_, .str x, rfl, ⟨t, rfl⟩, fun _ _ => .str x⟩
    | i n => obtain ⟨t, rfl⟩ := h; exact ⟨_, .int n, rfl, ⟨t, rfl⟩, fun _ _ => .int n⟩
    | f x => obtain ⟨a, rfl, e⟩ := h; exact ⟨_, .ref a, rfl, rfl, fun W q => .fn (by rw [q]; exact e)⟩
theorem GV.isSome {mg : Str → Option Value} {o : Option Value} {g : Option Gv} (h : GV mg o g) : o.isSome = g.isSome := by
  cases o with
  | none => cases g with
    | none => rfl
    | some g => cases g <;> exact h.elim
  | some u => cases g with
    | none => exact h.elim
    | some g => rfl
section
variable {G : Gs} {Φ : CallF} {Γ : Sc} {X : Cx} {Wx : WX}
theorem je_gin {neg : Bool} {op : CmpOp} {a : Expr} {x : Str} {kvs : List (Str × Gv)} {fa : EF} {py pos : Pos} (c : Cok G Φ Γ X Wx) (ho : op = if neg = true then .NotIn else .In) (hg : glB Γ.sc x = true) (hn : okName x = true) (hm : (x, kvs) ∈ G.gdic) (ja : JE X Wx a fa) :
    JE X Wx (.Compare a [op] [.Name x py] pos) (fun S h => bd (fa S h) fun y h1 => match y with
      | .str z => some (.ok (.bl (if neg = true then !(kvs.lookup z).isSome else (kvs.lookup z).isSome)), h1)
      | _ => none) := by
  obtain ⟨o1, o2, o3⟩ := okName_d hn
  obtain ⟨d, es, n, mx, kd, find⟩ := c.gdic x kvs hm
  have pg : PE X (.Name x py) (tC (.ref d)) := pe_glob (gl_of c hg) mx rfl o1
  cases neg with
  | false =>
    simp only [Bool.false_eq_true, if_false] at ho ⊢
    subst ho
    refine PE.imp (pe_cmpR (op_in_kd kd) ja pg rfl) fun σ H Q ⟨ρ, S, h, rr, A, e, F⟩ => ?_
    refine tE.bd A e F fun y h1 ρ1 H1 vy g1 A1 ry e1 F1 => ?_
    split at e1
    · rename_i z
      cases e1
      obtain ⟨o, eo, gv⟩ := find z
      refine ⟨z, o, ry.str_inv, rfl, eo, ?_⟩
      rw [gv.isSome]
      exact F1 ρ1 H1 (Go.refl _) A1 _ (.held (.bl _))
    · cases e1
  | true =>
    simp only [if_true] at ho ⊢
    subst ho
    refine PE.imp (pe_cmpR (op_notIn_kd kd) ja pg rfl) fun σ H Q ⟨ρ, S, h, rr, A, e, F⟩ => ?_
    refine tE.bd A e F fun y h1 ρ1 H1 vy g1 A1 ry e1 F1 => ?_
    split at e1
    · rename_i z
      cases e1
      obtain ⟨o, eo, gv⟩ := find z
      refine ⟨z, o, ry.str_inv, rfl, eo, ?_⟩
      rw [gv.isSome]
      exact F1 ρ1 H1 (Go.refl _) A1 _ (.held (.bl _))
    · cases e1
theorem jt_gin {neg : Bool} {op : CmpOp} {a : Expr} {x : Str} {kvs : List (Str × Gv)} {fa : EF} {py pos : Pos} (c : Cok G Φ Γ X Wx) (ho : op = if neg = true then .NotIn else .In) (hg : glB Γ.sc x = true) (hn : okName x = true) (hm : (x, kvs) ∈ G.gdic) (ja : JE X Wx a fa) :
    JT X Wx (.Compare a [op] [.Name x py] pos) (fun S h => bd (fa S h) fun y h1 => match y with
      | .str z => some (.ok (if neg = true then !(kvs.lookup z).isSome else (kvs.lookup z).isSome), h1)
      | _ => none) := by
  obtain ⟨o1, o2, o3⟩ := okName_d hn
  obtain ⟨d, es, n, mx, kd, find⟩ := c.gdic x kvs hm
  have pg : PE X (.Name x py) (tC (.ref d)) := pe_glob (gl_of c hg) mx rfl o1
  cases neg with
  | false =>
    simp only [Bool.false_eq_true, if_false] at ho ⊢
    subst ho
    refine PT.imp (pt_cmpR (op_in_kd kd) ja pg rfl) fun σ H Q ⟨ρ, S, h, rr, A, e, F⟩ => ?_
    refine tE.bd A e F fun y h1 ρ1 H1 vy g1 A1 ry e1 F1 => ?_
    split at e1
    · rename_i z
      cases e1
      obtain ⟨o, eo, gv⟩ := find z
      refine ⟨z, o, ry.str_inv, rfl, eo, _, rfl, ?_⟩
      rw [gv.isSome]
      exact F1 ρ1 H1 (Go.refl _) A1
    · cases e1
  | true =>
    simp only [if_true] at ho ⊢
    subst ho
    refine PT.imp (pt_cmpR (op_notIn_kd kd) ja pg rfl) fun σ H Q ⟨ρ, S, h, rr, A, e, F⟩ => ?_
    refine tE.bd A e F fun y h1 ρ1 H1 vy g1 A1 ry e1 F1 => ?_
    split at e1
    · rename_i z
      cases e1
      obtain ⟨o, eo, gv⟩ := find z
      refine ⟨z, o, ry.str_inv, rfl, eo, _, rfl, ?_⟩
      rw [gv.isSome]
      exact F1 ρ1 H1 (Go.refl _) A1
    · cases e1
theorem je_gix {b : Expr} {x : Str} {kvs : List (Str × Gv)} {fb : EF} {py pos : Pos} (c : Cok G Φ Γ X Wx) (hg : glB Γ.sc x = true) (hn : okName x = true) (hm : (x, kvs) ∈ G.gdic) (jb : JE X Wx b fb) (hs : nsl b = true) :
    JE X Wx (.Subscript (.Name x py) b pos) (fun S h => bd (fb S h) fun y h1 => match y with
      | .str z => match kvs.lookup z with
        | some g => some (.ok g.d, h1)
        | none => none
      | _ => none) := by
  obtain ⟨o1, o2, o3⟩ := okName_d hn
  obtain ⟨d, es, n, mx, kd, find⟩ := c.gdic x kvs hm
  have pg : PE X (.Name x py) (tC (.ref d)) := pe_glob (gl_of c hg) mx rfl o1
  refine PE.imp (pe_ix ix_kdict pg jb (plainIx_of hs)) fun σ H Q ⟨ρ, S, h, rr, A, e, F⟩ => ?_
  refine tE.bd A e F fun y h1 ρ1 H1 vy g1 A1 ry e1 F1 => ?_
  split at e1
  · rename_i z
    split at e1
    · rename_i g eg
      cases e1
      obtain ⟨o, eo, gv⟩ := find z
      rw [eg] at gv
      obtain ⟨u, v, rfl, rv, hr⟩ := gv.some_inv
      exact ⟨d, z, v, rfl, ry.str_inv, ⟨es, n, u, kd.at_, kd.lit, eo, rv⟩, F1 ρ1 H1 (Go.refl _) A1 _ (.held (hr _ rfl))⟩
    · cases e1
  · cases e1
theorem je_ktv {y n : Str} {o : Expr} {fo : EF} {p apos mpos pos : Pos} (c : Cok G Φ Γ X Wx) (hy : y = "tuple") (hn : n = "values") (hl : (apos.endLine == mpos.line) = true) (hs : nsup o = true) (hg : glB Γ.sc y = true) (hb : y ∈ G.blt) (jo : JE X Wx o fo) :
    JE X Wx (.Call (.Name y p) [.Call (.Attribute o n apos) [] [] mpos] [] pos) (fun S h => bd (fo S h) fun x h1 => match dicD h1 x with
      | some kvs => some (.ok (.tup (kvs.map (·.2))), h1)
      | none => none) := by
  subst hy hn
  refine PE.imp (pe_tupV c.calm (gl_of c hg) (c.blt _ hb) jo (base_of hs) hl rfl) fun σ H Q ⟨ρ, S, h, rr, A, e, F⟩ => ?_
  refine tE.bd A e F fun x h1 ρ1 H1 v g A1 rv e1 F1 => ?_
  split at e1
  · rename_i kvs ek
    cases e1
    obtain ⟨i, ks, rfl, rfl, hh, rk⟩ := dic_of A1 rv ek
    refine ⟨_, ks, rfl, hh, fun q hq => ?_⟩
    obtain ⟨g', A', r'⟩ := A1.newT hq rk.snd
    exact F1 _ _ g' A' _ (.held r')
  · cases e1
end
end Z

/-! Z9g: a comprehension over a dict's keys -/
namespace Z
open PySem L2
section
variable {G : Gs} {Φ : CallF} {Γ : Sc} {X : Cx} {Wx : WX}
/-- one of ours is changed, whatever it is now -/
theorem At.swap {ρ : Nat → Addr} {h : Hh} {H : Hp} {σ : St} {S : Sl} (A : At X ρ h H σ S) {n : Nat} (hn : n < h.length) {u0 u : HO} {o : O} (e0 : H (ρ n) = some u0) (n1 : ∀ xs, u0 ≠ .tup xs) (n2 : ∀ ob xs, u0 ≠ .frz ob (.tup xs)) (n3 : ∀ ob xs, u0 ≠ .frz ob (.lst xs))
    (r : Le (wd X ρ h H) (wd X ρ (h.set n o) (upd H (ρ n) u)) → RO (wd X ρ (h.set n o) (upd H (ρ n) u)) (ρ n) o) :
    Le (wd X ρ h H) (wd X ρ (h.set n o) (upd H (ρ n) u)) ∧ At X ρ (h.set n o) (upd H (ρ n) u) σ S := by
  have hl : (h.set n o).length = h.length := List.length_set
  have ne : ∀ {a : Addr} {w : HO}, H a = some w → w ≠ u0 → upd H (ρ n) u a = some w := fun {a w} q1 q2 => by
    rw [upd_ne]
    · exact q1
    · rintro rfl
      rw [e0] at q1
      cases q1
      exact q2 rfl
  have le : Le (wd X ρ h H) (wd X ρ (h.set n o) (upd H (ρ n) u)) := by
    refine ⟨rfl, Nat.le_of_eq hl.symm, fun _ _ => rfl, fun a vs q => ?_, fun a vs q => ?_⟩
    · rcases q with (q | ⟨ob, q⟩) | q
      · exact .inl (.inl (ne q (Ne.symm (n1 _))))
      · exact .inl (.inr ⟨ob, ne q (Ne.symm (n2 _ _))⟩)
      · exact .inr q
    · rcases q with ⟨ob, q⟩ | q
      · exact .inl ⟨ob, ne q (Ne.symm (n3 _ _))⟩
      · exact .inr q
  refine ⟨le, ⟨⟨rfl, fun i j hi hj => A.rep.inj i j (by have h1 : i < (h.set n o).length := hi; show i < h.length; omega) (by have h1 : j < (h.set n o).length := hj; show j < h.length; omega), fun i b q => ?_⟩, ⟨A.sl.len, fun i d q => ?_⟩⟩⟩
  · by_cases c : n = i
    · subst c
      rw [List.getElem?_set_self hn] at q
      cases q
      exact r le
    · rw [List.getElem?_set_ne c] at q
      have hi : i < h.length := (List.getElem?_eq_some_iff.mp q).1
      exact (A.rep.obj i b q).le le (upd_ne fun z => c (A.rep.inj i n hi hn z).symm)
  · obtain ⟨v, e', r⟩ := A.sl.at_ i d q
    exact ⟨v, e', r.le le⟩
/-- the keys, while the dict is locked -/
def keysI (f : EF) : IF := fun S h => bd (f S h) fun x h1 => match x with
  | .ref n => match h1[n]? with
    | some (.fdc kvs) => some (.ok ⟨kvs.map fun kv => kD kv.1, []⟩, h1)
    | _ => none
  | _ => none
theorem wk_keys {ρ : Nat → Addr} {h : Hh} {H : Hp} {a : Addr} {ob : Obj} {ks : List (Key × V)} {kvs : List (Key × D)} (e : H a = some (.frz ob (.dK ks))) (ek : ks.map (·.1) = kvs.map (·.1)) : Wk X ⟨kvs.map fun kv => kD kv.1, []⟩ ρ h H (Itk a ob ks) := by
  intro ρ2 h2 H2 σ S g A2 _
  have e2 : H2 a = some (.frz ob (.dK ks)) := g.frz _ _ _ e
  have hl : ks.length = kvs.length := by
    have := congrArg List.length ek
    simpa using this
  refine ⟨⟨e2, by simp [hl]⟩, fun i hi => ?_⟩
  have hi' : i < kvs.length := by simpa using hi
  refine ⟨⟨e2, by omega⟩, fun x H3 y => ?_⟩
  obtain ⟨rfl, k, v, ev', rfl⟩ := y
  have e3 : (kvs.map (·.1))[i]? = some k := by
    rw [← ek, List.getElem?_map, ev']; rfl
  rw [List.getElem?_map] at e3
  obtain ⟨kv, e4, e5⟩ := Option.map_eq_some_iff.mp e3
  refine ⟨kD k, ?_, Go.refl _, A2, .of_key k⟩
  show (kvs.map fun kv => kD kv.1)[i]? = _
  rw [List.getElem?_map, e4, ← e5]; rfl
theorem ji_keys {tg e : Expr} {f : EF} (j : JE X Wx e f) : JI X Wx tg e (keysI f) := by
  refine ⟨fun pins s σ H R I ⟨ρ, S, h, r, A, e, F⟩ => (pi_keys (tg := tg) j).run pins s σ H R I ?_⟩
  refine tE.bd A e F fun x h1 ρ1 H1 v g A1 rv e1 F1 => ?_
  cases x with
  | ref n =>
    simp only at e1
    split at e1
    · rename_i kvs ec
      cases e1
      have r1 := rv.ref_inv
      obtain ⟨rfl⟩ : v = .ref (ρ1 n) := by cases r1; rfl
      cases A1.rep.obj n _ ec with
      | fdc hh en rl => exact ⟨_, _, rfl, .inl ⟨_, hh, F1 ρ1 H1 (Go.refl _) A1 _ (wk_keys hh en)⟩⟩
    · cases e1
  | _ => cases e1
open Classical in
theorem plD_eq {f : EF} {S : Sl} {h : Hh} {n : Nat} (e : plD f S h = some n) : f S h = some (.ok (.ref n), h) := by
  unfold plD at e
  split at e
  · rename_i m h1 q
    split at e
    · rename_i c
      cases e
      unfold eqH at c
      rw [q, of_decide_eq_true c]
    · cases e
  · cases e
theorem je_lcd {elt tg src : Expr} {ifs : List Expr} {scope : Scope} {own : List Nat} {pos : Pos} {t : Tg} {fs : EF} {fc : BF} {fe : EF} (c : Cok G Φ Γ X Wx) (hb : blkC Γ.N Γ.sc scope (ownOf Γ.N own) = true) (hix : ∀ i ∈ tgIx t, i ∈ own)
    (js : JE X Wx src fs) (hg : chkG (Γin Γ scope) t tg = true)
    (jc : ∀ s H C cl fp, PTs (X.blk s H scope (compEnvC scope cl C X.env) fp) ifs (tT X W0 fc)) (je : ∀ s H C cl fp, JE (X.blk s H scope (compEnvC scope cl C X.env) fp) W0 elt fe) (hs : ∀ x, foldedSetIterable src X.env x = pure x) :
    JE X Wx (.ListComp elt [⟨tg, src, ifs, 0⟩] scope pos) (fun S h => match lockD fs S h with
      | some (n, kvs) => match lcGo [] (lcF t own fc fe S) (kvs.map fun kv => kD kv.1) (h.set n (.fdc kvs)) with
        | some (ys, h2) => some (.ok (.lst ys), h2.set n (.dic kvs))
        | none => none
      | none => none) := by
  refine PE.imp (pe_lock (je_lc (pos := pos) c hb hix (ji_keys js) hg jc je hs)) fun σ H Q ⟨ρ, S, h, rr, A, e, F⟩ => ?_
  dsimp only at e
  split at e
  · rename_i n kvs el
    split at e
    · rename_i ys h2 eg
      cases e
      unfold lockD at el
      split at el
      · rename_i n' ep
        split at el
        · rename_i kvs' ec
          split at el
          · rename_i cc
            cases el
            obtain ⟨ep2, hz⟩ := cc
            have hn : n < h.length := (List.getElem?_eq_some_iff.mp ec).1
            cases A.rep.obj n _ ec with
            | dic hh en rl =>
              rename_i ks
              have hh' : H (ρ n) = some (.dK ks) := hh
              refine ⟨ρ n, .dK ks, hh', True.intro, fun od => ?_⟩
              obtain ⟨gl, Al⟩ := A.write (u := .frz od (.dK ks)) (o := .fdc kvs) hn (fun ob w z => by rw [hh'] at z; cases z) fun le => .fdc upd_same en (rl.le le)
              refine ⟨ρ, S, h.set n (.fdc kvs), (.ok (.lst ys), h2), Al, ?_, fun ρ3 H3 g3 A3 v rv => ?_⟩
              · have e1 : keysI fs S (h.set n (.fdc kvs)) = some (.ok ⟨kvs.map fun kv => kD kv.1, []⟩, h.set n (.fdc kvs)) := by
                  unfold keysI
                  rw [plD_eq ep2]
                  simp only [bd]
                  rw [List.getElem?_set_self hn]
                show bd (keysI fs S (h.set n (.fdc kvs))) _ = _
                rw [e1]
                simp only [bd]
                rw [if_pos (by rw [List.length_map]; exact hz), eg]
              · have gt := gl.trans g3
                have hn3 : n < h2.length := Nat.lt_of_lt_of_le hn gt.n
                have er : ρ3 n = ρ n := gt.ag n hn
                have f3 : H3 (ρ n) = some (.frz od (.dK ks)) := g3.frz _ _ _ upd_same
                refine ⟨f3, ?_⟩
                have rl3 : RL (wd X ρ3 h2 H3) (ks.map (·.2)) (kvs.map (·.2)) := rl.go gt A.rep
                obtain ⟨le, A4⟩ := A3.swap (u := .dK ks) (o := .dic kvs) hn3 (u0 := .frz od (.dK ks)) (by rw [er]; exact f3) (fun _ z => by cases z) (fun _ _ z => by cases z) (fun _ _ z => by cases z) fun le => .dic upd_same en (rl3.le le)
                rw [er] at le A4
                have hl : (h2.set n (.dic kvs)).length = h2.length := List.length_set
                have g4 : Go (wd X ρ h H) (wd X ρ3 (h2.set n (.dic kvs)) (upd H3 (ρ n) (.dK ks))) := by
                  refine ⟨rfl, rfl, by show h.length ≤ (h2.set n (.dic kvs)).length; rw [hl]; exact gt.n, gt.ag, fun a o q f => ?_, fun a q => ?_, fun i x y => ?_, fun a ob w q => ?_⟩
                  · show upd H3 (ρ n) _ a = some o
                    rw [upd_ne (Ne.symm (f n hn))]
                    exact gt.keep a o q f
                  · have q' : upd H3 (ρ n) (.dK ks) a = none := q
                    by_cases ca : a = ρ n
                    · rw [ca, upd_same] at q'; cases q'
                    · rw [upd_ne ca] at q'
                      exact gt.dom a q'
                  · exact gt.fresh i x (by show i < h2.length; rw [← hl]; exact y)
                  · show upd H3 (ρ n) _ a = some _
                    rw [upd_ne]
                    · exact gt.frz a ob w q
                    · rintro rfl
                      have q' : H (ρ n) = some (.frz ob w) := q
                      rw [hh'] at q'
                      cases q'
                refine F ρ3 _ g4 A4 _ ?_
                cases rv with
                | held r => exact r.notLst.elim
                | new x f n0 r =>
                  rename_i a vs
                  have ha : a ≠ ρ n := fun z => f n hn3 (er.trans z.symm)
                  have n0' : upd H (ρ n) (.frz od (.dK ks)) a = none := n0
                  rw [upd_ne ha] at n0'
                  refine .new (show upd H3 (ρ n) _ a = some _ from ?_) (fun i hi z => ?_) n0' (r.le le)
                  · rw [upd_ne ha]; exact x
                  · exact f i (by show i < h2.length; rw [← hl]; exact hi) z
          · cases el
        · cases el
      · cases el
    · cases e
  · cases e
end
end Z

/-! Z10: expressions, all together -/
namespace Z
open PySem L2
section
variable {G : Gs} {Φ : CallF}
theorem jt_none {X : Cx} {Wx : WX} {ex : Expr} : JT X Wx ex (fun _ _ => none) := ⟨fun _ _ _ _ _ _ ⟨_, _, _, _, _, e, _⟩ => by cases e⟩
theorem je_none {X : Cx} {Wx : WX} {ex : Expr} : JE X Wx ex (fun _ _ => none) := ⟨fun _ _ _ _ _ _ ⟨_, _, _, _, _, e, _⟩ => by cases e⟩
theorem pw_bool {X : Cx} {op : BoolOp} {es : List Expr} {pos : Pos} {t : TT} (h : PT X (.BoolOp op es pos) t) : PW X (.BoolOp op es pos) t := ⟨fun wh pins s σ H Q I q => h.run pins s σ H Q I q⟩
theorem je_one {X : Cx} {Wx : WX} {op : BoolOp} {b : Expr} {pos : Pos} {f : EF} (j : JE X Wx b f) : JE X Wx (.BoolOp op [b] pos) f := pe_one j
theorem bd_none {α β : Type} (r : M α) : bd r (fun _ _ => (none : M β)) = none ∨ ∃ x, r = some x := by cases r <;> simp [bd]
theorem hpl_of {Γ : Sc} : ∀ {es : EL} {xs : List Expr} {env : Env} (pos : Pos), chkL G Γ es xs = true → nostar es = true → (backTo pos (starEach xs env)).any (·.1) = false
  | .nil, [], env, pos, _, _ => rfl
  | .nil, _ :: _, _, _, h, _ => by simp [chkL] at h
  | .cons st e es, [], _, _, h, _ => by simp [chkL] at h
  | .cons st e es, x :: xs, env, pos, h, n => by
    simp only [nostar, Bool.and_eq_true, Bool.not_eq_true'] at n
    obtain ⟨n1, n2⟩ := n
    subst n1
    simp only [chkL, Bool.and_eq_true, Bool.false_eq_true, if_false] at h
    have ih := hpl_of (env := env) pos h.2 n2
    rw [starEach_of (notStar h.1)]
    cases q : starEach xs env with
    | nil => rfl
    | cons a r =>
      rw [q] at ih
      exact ih
theorem len_of {Γ : Sc} : ∀ {es : EL} {xs : List Expr}, chkL G Γ es xs = true → nostar es = true → ∀ (S : Sl) (h : Hh) (ds : List D) (h' : Hh), evA G.glob Φ es S h = some (.ok ds, h') → ds.length = xs.length
  | .nil, [], _, _, S, h, ds, h', e => by
    simp only [evA, Option.some.injEq, Prod.mk.injEq, Rs.ok.injEq] at e
    rw [← e.1]; rfl
  | .nil, _ :: _, h, _, _, _, _, _, _ => by simp [chkL] at h
  | .cons st e es, [], h, _, _, _, _, _, _ => by simp [chkL] at h
  | .cons st e es, x :: xs, c, n, S, h, ds, h', eq => by
    simp only [nostar, Bool.and_eq_true, Bool.not_eq_true'] at n
    obtain ⟨n1, n2⟩ := n
    subst n1
    simp only [chkL, Bool.and_eq_true, Bool.false_eq_true, if_false] at c
    simp only [evA] at eq
    cases q : vv (ev G.glob Φ e).v S h with
    | none => rw [q] at eq; cases eq
    | some r =>
      rw [q] at eq
      match r, eq with
      | (.ex _ _, _), eq => cases eq
      | (.ok d, h1), eq =>
        simp only [bd] at eq
        cases q2 : evA G.glob Φ es S h1 with
        | none => rw [q2] at eq; cases eq
        | some r2 =>
          rw [q2] at eq
          match r2, q2, eq with
          | (.ex _ _, _), _, eq => cases eq
          | (.ok ds', h2), q2, eq =>
            cases eq
            rw [List.length_cons, List.length_cons, len_of c.2 n2 S h1 ds' _ q2]

theorem PTs.imp {X : Cx} {e : List Expr} {t t' : TT} (h : PTs X e t) (i : ∀ σ H Q, t' σ H Q → t σ H Q) : PTs X e t' := ⟨fun pins s σ H Q I q => h.run pins s σ H Q I (i _ _ _ q)⟩
theorem ns_head {Γ : Sc} : ∀ {es : EL} {z : Expr} {zs : List Expr}, chkL G Γ es (z :: zs) = true → nostar es = true → (∀ y q, z ≠ .Starred y q) ∧ ∀ (env : Env) (pos : Pos), (backTo pos (starEach zs env)).any (·.1) = false
  | .nil, _, _, h, _ => by simp [chkL] at h
  | .cons st e es, z, zs, h, n => by
    simp only [nostar, Bool.and_eq_true, Bool.not_eq_true'] at n
    obtain ⟨n1, n2⟩ := n
    subst n1
    simp only [chkL, Bool.and_eq_true, Bool.false_eq_true, if_false] at h
    exact ⟨notStar h.1, fun env pos => hpl_of pos h.2 n2⟩
abbrev Both (X : Cx) (Wx : WX) (ex : Expr) (e : Ev) : Prop := JE X Wx ex e.v ∧ JT X Wx ex e.t
theorem both_vt {X : Cx} {Wx : WX} {ex : Expr} {f : EF} (j : JE X Wx ex f) (he : ∀ whole, isTrue ex X.env whole = (do let v ← whole; standAt ex.pos; holding [v] (truthy v))) : Both X Wx ex (vt f) := ⟨j, jt_val j he⟩

mutual
theorem sE : ∀ (e : E) {Γ : Sc} {X : Cx} {Wx : WX}, Cok G Φ Γ X Wx → ∀ (ex : Expr), chkE G Γ e ex = true → Both X Wx ex (ev G.glob Φ e)
  | .var i, Γ, X, Wx, c, ex, h => by
    cases ex with
    | Name x p =>
      simp only [chkE, Bool.and_eq_true, decide_eq_true_eq] at h
      exact both_vt (je_var c h.1.1 h.1.2 h.2) fun _ => rfl
    | _ => simp [chkE] at h
  | .int i, Γ, X, Wx, c, ex, h => by
    cases ex with
    | Constant k j p =>
      cases k <;> simp only [chkE, decide_eq_true_eq, Bool.false_eq_true] at h
      subst h
      exact both_vt (je_const pe_int fun W => .int i) fun _ => rfl
    | _ => simp [chkE] at h
  | .str i, Γ, X, Wx, c, ex, h => by
    cases ex with
    | Constant k j p =>
      cases k <;> simp only [chkE, decide_eq_true_eq, Bool.false_eq_true] at h
      subst h
      exact both_vt (je_const pe_str fun W => .str i) fun _ => rfl
    | _ => simp [chkE] at h
  | .bl i, Γ, X, Wx, c, ex, h => by
    cases ex with
    | Constant k j p =>
      cases k <;> simp only [chkE, decide_eq_true_eq, Bool.false_eq_true] at h
      subst h
      exact both_vt (je_const pe_bl fun W => .bl i) fun _ => rfl
    | _ => simp [chkE] at h
  | .non, Γ, X, Wx, c, ex, h => by
    cases ex with
    | Constant k j p =>
      cases k <;> simp only [chkE, Bool.false_eq_true] at h
      exact both_vt (je_const pe_non fun W => .non) fun _ => rfl
    | _ => simp [chkE] at h
  | .glob x, Γ, X, Wx, c, ex, h => by
    cases ex with
    | Name y p =>
      simp only [chkE, Bool.and_eq_true, decide_eq_true_eq] at h
      obtain ⟨⟨⟨rfl, h1⟩, h2⟩, h3⟩ := h
      exact both_vt (je_glob c h1 h3 h2) fun _ => rfl
    | _ => simp [chkE] at h
  | .typ x t, Γ, X, Wx, c, ex, h => by
    cases ex with
    | Name y p =>
      simp only [chkE, Bool.and_eq_true, decide_eq_true_eq] at h
      obtain ⟨⟨⟨⟨⟨rfl, h1⟩, h2⟩, h3⟩, h4⟩, h5⟩ := h
      exact both_vt (je_typ c h1 h4 h2 h3 h5) fun _ => rfl
    | _ => simp [chkE] at h
  | .bin op a b, Γ, X, Wx, c, ex, h => by
    cases ex with
    | BinOp x o y p =>
      simp only [chkE, Bool.and_eq_true, decide_eq_true_eq] at h
      obtain ⟨⟨rfl, h1⟩, h2⟩ := h
      exact both_vt (je_op (sE a c x h1).1 (sE b c y h2).1) fun _ => rfl
    | _ => simp [chkE] at h
  | .neg a, Γ, X, Wx, c, ex, h => by
    cases ex with
    | UnaryOp o x p =>
      cases o <;> simp only [chkE, Bool.false_eq_true] at h
      exact both_vt (je_neg (sE a c x h).1) fun _ => rfl
    | _ => simp [chkE] at h
  | .cmp op a b, Γ, X, Wx, c, ex, h => by
    cases ex with
    | Compare x os ys p =>
      simp only [chkE] at h
      split at h
      · rename_i x' o y p' eq
        cases eq
        simp only [Bool.and_eq_true, decide_eq_true_eq] at h
        obtain ⟨⟨rfl, h1⟩, h2⟩ := h
        exact ⟨je_cmp c.units (sE a c x h1).1 (sE b c y h2).1 (nomark_of h2 _), jt_cmp c.units (sE a c x h1).1 (sE b c y h2).1 (nomark_of h2 _)⟩
      · cases h
    | _ => simp [chkE] at h
  | .chn o p a b d, Γ, X, Wx, c, ex, h => by
    cases ex with
    | Compare x os ys ps =>
      simp only [chkE] at h
      split at h
      · rename_i x' o' p' y z ps' eq
        cases eq
        simp only [Bool.and_eq_true, decide_eq_true_eq] at h
        obtain ⟨⟨⟨⟨⟨⟨⟨⟨rfl, rfl⟩, n1⟩, n2⟩, n3⟩, n4⟩, h1⟩, h2⟩, h3⟩ := h
        exact ⟨je_chn c.units (sE a c x h1).1 (sE b c y h2).1 (sE d c z h3).1 n1 n2 n3 n4, jt_chn c.units (sE a c x h1).1 (sE b c y h2).1 (sE d c z h3).1 n1 n2 n3 n4⟩
      · cases h
    | _ => simp [chkE] at h
  | .and a b, Γ, X, Wx, c, ex, h => by
    cases ex with
    | BoolOp o vs p =>
      simp only [chkE] at h
      split at h
      · rename_i x y r p' eq
        cases eq
        simp only [Bool.and_eq_true] at h
        obtain ⟨h1, h2⟩ := h
        have ja := sE a c x h1
        split at h2
        · have jb := sE b c y h2
          exact ⟨je_and ja.1 (je_one jb.1), jt_and1 ja.2 jb.2⟩
        · have jb := sE b c _ h2
          exact ⟨je_and ja.1 jb.1, (jw_and ja.2 (pw_bool jb.2)).pt⟩
      · cases h
    | _ => simp [chkE] at h
  | .or a b, Γ, X, Wx, c, ex, h => by
    cases ex with
    | BoolOp o vs p =>
      simp only [chkE] at h
      split at h
      · rename_i x y r p' eq
        cases eq
        simp only [Bool.and_eq_true] at h
        obtain ⟨h1, h2⟩ := h
        have ja := sE a c x h1
        split at h2
        · have jb := sE b c y h2
          exact ⟨je_or ja.1 (je_one jb.1), jt_or1 ja.2 jb.2⟩
        · have jb := sE b c _ h2
          exact ⟨je_or ja.1 jb.1, (jw_or ja.2 (pw_bool jb.2)).pt⟩
      · cases h
    | _ => simp [chkE] at h
  | .not a, Γ, X, Wx, c, ex, h => by
    cases ex with
    | UnaryOp o x p =>
      cases o <;> simp only [chkE, Bool.false_eq_true] at h
      exact ⟨je_not (sE a c x h).1, jt_not (sE a c x h).2⟩
    | _ => simp [chkE] at h
  | .ite d a b, Γ, X, Wx, c, ex, h => by
    cases ex with
    | IfExp z x y p =>
      simp only [chkE, Bool.and_eq_true] at h
      obtain ⟨⟨h1, h2⟩, h3⟩ := h
      exact ⟨je_ite (sE d c z h1).2 (sE a c x h2).1 (sE b c y h3).1, jt_none⟩
    | _ => simp [chkE] at h
  | .tup es, Γ, X, Wx, c, ex, h => by
    cases ex with
    | Tuple xs k p =>
      simp only [chkE] at h
      exact both_vt (je_tup (sL es c xs h)) fun _ => rfl
    | _ => simp [chkE] at h
  | .lst es, Γ, X, Wx, c, ex, h => by
    cases ex with
    | List xs p =>
      simp only [chkE] at h
      exact both_vt (je_lst (sL es c xs h)) fun _ => rfl
    | _ => simp [chkE] at h
  | .bad, Γ, X, Wx, c, ex, h => ⟨je_bad, jt_bad⟩
  | .fldc a f cs, Γ, X, Wx, c, ex, h => by
    cases ex with
    | Attribute x y p =>
      simp only [chkE, Bool.and_eq_true, decide_eq_true_eq] at h
      obtain ⟨⟨⟨rfl, h1⟩, h2⟩, h3⟩ := h
      exact both_vt (je_fldc c (sE a c x h3).1 h1 fun C m => of_decide_eq_true (List.all_eq_true.mp h2 C m)) fun _ => rfl
    | _ => simp [chkE] at h
  | .omth a C m q es, Γ, X, Wx, c, ex, h => by
    unfold chkE at h
    split at h
    · rename_i o n apos zs pos
      simp only [Bool.and_eq_true, decide_eq_true_eq] at h
      obtain ⟨⟨⟨⟨⟨⟨⟨rfl, h1⟩, h2⟩, h3⟩, h4⟩, h5⟩, h6⟩, h7⟩ := h
      cases zs with
      | nil =>
        cases es with
        | nil => exact both_vt (je_omth0 c (sE a c o h6).1 h2 h1 h4) fun _ => rfl
        | cons _ _ _ => simp [chkL] at h7
      | cons z zs =>
        obtain ⟨n1, n2⟩ := ns_head h7 h3
        exact both_vt (je_omth c (sE a c o h6).1 h2 h1 h4 (sL es c (z :: zs) h7) n1 (fun pos => n2 X.env pos) h5 fun S hh ds h' q => by rw [len_of h7 h3 S hh ds h' q]) fun _ => rfl
    · cases h
  | .mk C q es, Γ, X, Wx, c, ex, h => by
    unfold chkE at h
    split at h
    · rename_i y p zs pos
      simp only [Bool.and_eq_true, decide_eq_true_eq] at h
      obtain ⟨⟨⟨⟨⟨rfl, h1⟩, h2⟩, h3⟩, h4⟩, h5⟩ := h
      cases zs with
      | nil =>
        cases es with
        | nil => exact both_vt (je_mk0 c h1 h2 h3) fun _ => rfl
        | cons _ _ _ => simp [chkL] at h5
      | cons z zs =>
        obtain ⟨n1, n2⟩ := ns_head h5 h4
        exact both_vt (je_mk c h1 h2 h3 (sL es c (z :: zs) h5) n1 (fun pos => n2 X.env pos) fun S hh ds h' q => by rw [len_of h5 h4 S hh ds h' q]) fun _ => rfl
    · cases h
  | .dic0, Γ, X, Wx, c, ex, h => by
    unfold chkE at h
    split at h
    · exact both_vt je_dic0 fun _ => rfl
    · cases h
  | .crep t o y z, Γ, X, Wx, c, ex, h => by
    cases ex with
    | BinOp a op b p =>
      simp only [chkE] at h
      split at h
      · rename_i c' k0 p0 x m apos y' k1 p1 z' k2 p2 cpos p' eq
        cases eq
        simp only [Bool.and_eq_true, decide_eq_true_eq, Bool.not_eq_true'] at h
        obtain ⟨⟨⟨⟨⟨⟨⟨rfl, rfl⟩, rfl⟩, rfl⟩, h1⟩, h2⟩, h3⟩, h4⟩ := h
        exact both_vt (je_crep h1 h2 h3 (sE o c x h4).1) fun _ => rfl
      · cases h
    | _ => simp [chkE] at h
  | .call0 x, Γ, X, Wx, c, ex, h => by
    cases ex with
    | Call f as ks p =>
      simp only [chkE] at h
      split at h
      · rename_i y p1 p' eq
        cases eq
        simp only [Bool.and_eq_true, decide_eq_true_eq] at h
        obtain ⟨⟨⟨rfl, h1⟩, h2⟩, h3⟩ := h
        exact both_vt (je_call0 c h1 h2 h3) fun _ => rfl
      · cases h
    | _ => simp [chkE] at h
  | .call x es, Γ, X, Wx, c, ex, h => by
    cases ex with
    | Call f as ks p =>
      simp only [chkE] at h
      split at h
      · rename_i y p1 z zs p' eq
        cases eq
        simp only [Bool.and_eq_true, decide_eq_true_eq] at h
        obtain ⟨⟨⟨⟨⟨rfl, h1⟩, h2⟩, h3⟩, h4⟩, h5⟩ := h
        have hz := ns_head h5 h4
        exact both_vt (je_call c h1 h2 h3 (sL es c _ h5) hz.1 (fun pos => hz.2 X.env pos) fun S h ds h' e => len_of h5 h4 S h ds h' e) fun _ => rfl
      · cases h
    | _ => simp [chkE] at h
  | .make _ _, Γ, X, Wx, c, ex, h => by simp [chkE] at h
  | .blt b es, Γ, X, Wx, c, ex, h => by
    cases ex with
    | Call f as ks p =>
      simp only [chkE] at h
      split at h
      · rename_i y p1 z zs p' eq
        cases eq
        simp only [Bool.and_eq_true, decide_eq_true_eq, Bool.not_eq_true'] at h
        obtain ⟨⟨⟨⟨⟨⟨e1, h1⟩, h2⟩, h3⟩, h6⟩, h4⟩, h5⟩ := h
        have hz := ns_head h5 h4
        exact both_vt (je_blt c h1 h2 h3 e1 h6 (sL es c _ h5) hz.1 fun pos => hz.2 X.env pos) fun _ => rfl
      · cases h
    | _ => simp [chkE] at h
  | .bl1 b e, Γ, X, Wx, c, ex, h => by
    cases ex with
    | Call f as ks p =>
      simp only [chkE] at h
      split at h
      · rename_i y p1 z p' eq
        cases eq
        simp only [Bool.and_eq_true, decide_eq_true_eq] at h
        obtain ⟨⟨⟨⟨⟨e1, h1⟩, h2⟩, h3⟩, h4⟩, h5⟩ := h
        exact both_vt (je_bl1 c h1 h2 h3 e1 h4 (sE e c z h5).1 (notStar h5)) fun _ => rfl
      · cases h
    | _ => simp [chkE] at h
  | .met1 a m e, Γ, X, Wx, c, ex, h => by
    cases ex with
    | Call f as ks p =>
      simp only [chkE] at h
      split at h
      · rename_i o n apos z p' eq
        cases eq
        simp only [Bool.and_eq_true, decide_eq_true_eq] at h
        obtain ⟨⟨⟨⟨e1, h1⟩, h2⟩, h3⟩, h4⟩ := h
        exact both_vt (je_met1 e1 h1 h2 (sE a c o h3).1 (sE e c z h4).1 (notStar h4)) fun _ => rfl
      · cases h
    | _ => simp [chkE] at h
  | .meth a m es, Γ, X, Wx, c, ex, h => by
    cases ex with
    | Call f as ks p =>
      simp only [chkE] at h
      split at h
      · rename_i o n apos z p' eq
        cases eq
        simp only [Bool.and_eq_true, decide_eq_true_eq] at h
        obtain ⟨⟨⟨⟨⟨e1, h1⟩, h2⟩, h3⟩, h4⟩, h5⟩ := h
        exact both_vt (je_append e1 h1 h2 (sE a c o h4).1 (sL es c _ h5) (ns_head h5 h3).1) fun _ => rfl
      · cases h
    | _ => simp [chkE] at h
  | .fld _ _, Γ, X, Wx, c, ex, h => by simp [chkE] at h
  | .ix a b, Γ, X, Wx, c, ex, h => by
    cases ex with
    | Subscript x y p =>
      simp only [chkE, Bool.and_eq_true] at h
      obtain ⟨⟨h1, h2⟩, h3⟩ := h
      exact both_vt (je_ix (sE a c x h2).1 (sE b c y h3).1 h1) fun _ => rfl
    | _ => simp [chkE] at h
  | .slc a lo hi, Γ, X, Wx, c, ex, h => by
    cases ex with
    | Subscript x y p =>
      simp only [chkE] at h
      split at h
      · rename_i x' l u p2 p' eq
        cases eq
        simp only [Bool.and_eq_true] at h
        obtain ⟨⟨h1, h2⟩, h3⟩ := h
        exact both_vt (je_slc (sE a c x h1).1 (sO lo c l h2) (sO hi c u h3)) fun _ => rfl
      · cases h
    | _ => simp [chkE] at h
  | .lc elt tg it cd own, Γ, X, Wx, c, ex, h => by
    cases ex with
    | ListComp y gs scope p =>
      simp only [chkE] at h
      split at h
      · rename_i y' t i ifs scope' p' eq
        cases eq
        simp only [Bool.and_eq_true, List.all_eq_true] at h
        obtain ⟨⟨⟨⟨⟨h1, h2⟩, h3⟩, h4⟩, h5⟩, h6⟩ := h
        refine both_vt (je_lc c h1 (fun i hi => by simpa using h2 i hi) (sI it c t i h3).1 h4 (fun s H C cl fp => ?_) (fun s H C cl fp => (sE elt (c.block scope s H C cl fp) y h6).1) (sI it c t i h3).2) fun _ => rfl
        exact PTs.imp (sC cd (c.block scope s H C cl fp) ifs h5) fun _ _ _ q => same_blk.tT q
      · cases h
    | _ => simp [chkE] at h
  | .fmt ps, Γ, X, Wx, c, ex, h => by
    unfold chkE at h
    split at h
    · rename_i x y r p
      simp only [Bool.and_eq_true] at h
      exact both_vt (je_fmt (sF ps c (x :: y :: r) h.2 h.1)) fun _ => rfl
    · cases h
  | .fv a, Γ, X, Wx, c, ex, h => by
    unfold chkE at h
    split at h
    · rename_i x k p
      simp only [Bool.and_eq_true, decide_eq_true_eq] at h
      obtain ⟨rfl, h2⟩ := h
      exact both_vt (je_fv (sE a c x h2).1) fun _ => rfl
    · cases h
  | .lset a, Γ, X, Wx, c, ex, h => by
    unfold chkE at h
    split at h
    · rename_i y p z q x r s
      simp only [Bool.and_eq_true, decide_eq_true_eq] at h
      obtain ⟨⟨⟨⟨⟨⟨e1, e2⟩, h1⟩, h2⟩, h3⟩, h4⟩, h5⟩ := h
      exact both_vt (je_lset c e1 e2 h1 h2 h3 h4 (sE a c x h5).1 (notStar h5)) fun _ => rfl
    · cases h
  | .revl a, Γ, X, Wx, c, ex, h => by
    unfold chkE at h
    split at h
    · rename_i x k p1 p2 p3 pos
      exact both_vt (je_revl (sE a c x h).1) fun _ => rfl
    · cases h
  | .isiT a ts, Γ, X, Wx, c, ex, h => by
    unfold chkE at h
    split at h
    · rename_i y p x ys kk tp pos
      simp only [Bool.and_eq_true, decide_eq_true_eq] at h
      obtain ⟨⟨⟨⟨⟨⟨e1, h1⟩, h2⟩, h3⟩, h4⟩, h5⟩, h6⟩ := h
      exact both_vt (je_isiT c e1 h1 h2 h3 h4 h5 (sE a c x h6).1 (notStar h6)) fun _ => rfl
    · cases h
  | .isiC a C, Γ, X, Wx, c, ex, h => by
    unfold chkE at h
    split at h
    · rename_i y p x z q pos
      simp only [Bool.and_eq_true, decide_eq_true_eq] at h
      obtain ⟨⟨⟨⟨⟨⟨⟨⟨e1, e2⟩, h1⟩, h2⟩, h3⟩, h4⟩, h5⟩, h6⟩, h7⟩ := h
      subst e2
      exact both_vt (je_isiC c e1 h1 h2 h3 h4 h5 h6 (sE a c x h7).1 (notStar h7)) fun _ => rfl
    · cases h
  | .clr a, Γ, X, Wx, c, ex, h => by
    unfold chkE at h
    split at h
    · rename_i o n apos pos
      simp only [Bool.and_eq_true, decide_eq_true_eq] at h
      obtain ⟨⟨⟨e1, h1⟩, h2⟩, h3⟩ := h
      exact both_vt (je_clr e1 h1 h2 (sE a c o h3).1) fun _ => rfl
    · cases h
  | .kix a b, Γ, X, Wx, c, ex, h => by
    unfold chkE at h
    split at h
    · rename_i x y p
      simp only [Bool.and_eq_true] at h
      obtain ⟨⟨h1, h2⟩, h3⟩ := h
      exact both_vt (je_kix2 c (sE a c x h2).1 (sE b c y h3).1 h1) fun _ => rfl
    · cases h
  | .kin neg a b, Γ, X, Wx, c, ex, h => by
    unfold chkE at h
    split at h
    · rename_i x o y p
      simp only [Bool.and_eq_true, decide_eq_true_eq] at h
      obtain ⟨⟨h1, h2⟩, h3⟩ := h
      have j := je_kin2 (pos := p) c h1 (sE a c x h2).1 (sE b c y h3).1 (nomark_of h3 _)
      exact ⟨j, jt_kin2 (pos := p) c h1 (sE a c x h2).1 (sE b c y h3).1 (nomark_of h3 _)⟩
    · cases h
  | .kget1 a b, Γ, X, Wx, c, ex, h => by
    unfold chkE at h
    split at h
    · rename_i o n apos x pos
      simp only [Bool.and_eq_true, decide_eq_true_eq] at h
      obtain ⟨⟨⟨⟨e1, h1⟩, h2⟩, h3⟩, h4⟩ := h
      exact both_vt (je_kget1 c e1 h1 h2 (sE a c o h3).1 (sE b c x h4).1 (notStar h4)) fun _ => rfl
    · cases h
  | .kget2 a b d, Γ, X, Wx, c, ex, h => by
    unfold chkE at h
    split at h
    · rename_i o n apos x y pos
      simp only [Bool.and_eq_true, decide_eq_true_eq] at h
      obtain ⟨⟨⟨⟨⟨e1, h1⟩, h2⟩, h3⟩, h4⟩, h5⟩ := h
      exact both_vt (je_kget2 c e1 h1 h2 (sE a c o h3).1 (sE b c x h4).1 (sE d c y h5).1 (notStar h4) (notStar h5)) fun _ => rfl
    · cases h
  | .kdis ks es, Γ, X, Wx, c, ex, h => by
    unfold chkE at h
    split at h
    · rename_i keys xs p
      simp only [Bool.and_eq_true, decide_eq_true_eq, Bool.not_eq_true'] at h
      obtain ⟨⟨⟨⟨⟨h1, h2⟩, h3⟩, h4⟩, h5⟩, h6⟩ := h
      exact both_vt (je_kdis h1 h2 h3 h4 h5 (sF es c xs h6 h5)) fun _ => rfl
    · cases h
  | .kdc kx vx tg it cd own, Γ, X, Wx, c, ex, h => by
    unfold chkE at h
    split at h
    · rename_i x y t i ifs scope p
      simp only [Bool.and_eq_true, List.all_eq_true] at h
      obtain ⟨⟨⟨⟨⟨⟨h1, h2⟩, h3⟩, h4⟩, h5⟩, h6⟩, h7⟩ := h
      refine both_vt (je_kdc c h1 (fun i hi => by simpa using h2 i hi) (sI it c t i h3).1 h4 (fun s H C cl fp => ?_) (fun s H C cl fp => (sE kx (c.block scope s H C cl fp) x h6).1) (fun s H C cl fp => (sE vx (c.block scope s H C cl fp) y h7).1) (sI it c t i h3).2) fun _ => rfl
      exact PTs.imp (sC cd (c.block scope s H C cl fp) ifs h5) fun _ _ _ q => same_blk.tT q
    · cases h
  | .kpr a, Γ, X, Wx, c, ex, h => by
    unfold chkE at h
    split at h
    · rename_i y p x pos
      simp only [Bool.and_eq_true, decide_eq_true_eq] at h
      obtain ⟨⟨⟨⟨e1, h1⟩, h2⟩, h3⟩, h4⟩ := h
      exact both_vt (je_kpr c e1 h1 h2 h3 (sE a c x h4).1 (notStar h4)) fun _ => rfl
    · cases h
  | .kcp a, Γ, X, Wx, c, ex, h => by
    unfold chkE at h
    split at h
    · rename_i y p x pos
      simp only [Bool.and_eq_true, decide_eq_true_eq] at h
      obtain ⟨⟨⟨⟨e1, h1⟩, h2⟩, h3⟩, h4⟩ := h
      exact both_vt (je_kcp c e1 h1 h2 h3 (sE a c x h4).1 (notStar h4)) fun _ => rfl
    · cases h
  | .kls a, Γ, X, Wx, c, ex, h => by
    unfold chkE at h
    split at h
    · rename_i y p x pos
      simp only [Bool.and_eq_true, decide_eq_true_eq] at h
      obtain ⟨⟨⟨⟨e1, h1⟩, h2⟩, h3⟩, h4⟩ := h
      exact both_vt (je_kls c e1 h1 h2 h3 (sE a c x h4).1 (notStar h4)) fun _ => rfl
    · cases h
  | .gin neg a x kvs, Γ, X, Wx, c, ex, h => by
    unfold chkE at h
    split at h
    · rename_i e o y py p
      simp only [Bool.and_eq_true, decide_eq_true_eq] at h
      obtain ⟨⟨⟨⟨⟨h1, rfl⟩, h2⟩, h3⟩, h4⟩, h5⟩ := h
      exact ⟨je_gin c h1 h2 h3 h4 (sE a c e h5).1, jt_gin c h1 h2 h3 h4 (sE a c e h5).1⟩
    · cases h
  | .gix x kvs b, Γ, X, Wx, c, ex, h => by
    unfold chkE at h
    split at h
    · rename_i y py e p
      simp only [Bool.and_eq_true, decide_eq_true_eq] at h
      obtain ⟨⟨⟨⟨⟨rfl, h1⟩, h2⟩, h3⟩, h4⟩, h5⟩ := h
      exact both_vt (je_gix c h1 h2 h3 (sE b c e h5).1 h4) fun _ => rfl
    · cases h
  | .ktv a, Γ, X, Wx, c, ex, h => by
    unfold chkE at h
    split at h
    · rename_i y py o n apos mpos p
      simp only [Bool.and_eq_true, decide_eq_true_eq] at h
      obtain ⟨⟨⟨⟨⟨⟨e1, e2⟩, h1⟩, h2⟩, h3⟩, h4⟩, h5⟩ := h
      exact both_vt (je_ktv c e1 e2 h1 h2 h3 h4 (sE a c o h5).1) fun _ => rfl
    · cases h
  | .lcd elt tg src cd own, Γ, X, Wx, c, ex, h => by
    unfold chkE at h
    split at h
    · rename_i y t i ifs scope p
      simp only [Bool.and_eq_true, List.all_eq_true] at h
      obtain ⟨⟨⟨⟨⟨h1, h2⟩, h3⟩, h4⟩, h5⟩, h6⟩ := h
      refine both_vt (je_lcd c h1 (fun i hi => by simpa using h2 i hi) (sE src c i h3).1 h4 (fun s H C cl fp => ?_) (fun s H C cl fp => (sE elt (c.block scope s H C cl fp) y h6).1) (folded_of h3)) fun _ => rfl
      exact PTs.imp (sC cd (c.block scope s H C cl fp) ifs h5) fun _ _ _ q => same_blk.tT q
    · cases h
theorem sF : ∀ (es : EL) {Γ : Sc} {X : Cx} {Wx : WX}, Cok G Φ Γ X Wx → ∀ (xs : List Expr), chkL G Γ es xs = true → nostar es = true → PJ X xs (tsOf X Wx G.glob Φ es)
  | .nil, Γ, X, Wx, c, xs, h, n => by
    cases xs with
    | nil => exact .nil
    | cons _ _ => simp [chkL] at h
  | .cons st e es, Γ, X, Wx, c, xs, h, n => by
    cases xs with
    | nil => simp [chkL] at h
    | cons x xs =>
      simp only [nostar, Bool.and_eq_true, Bool.not_eq_true'] at n
      obtain ⟨n1, n2⟩ := n
      subst n1
      simp only [chkL, Bool.and_eq_true, Bool.false_eq_true, if_false] at h
      exact .cons (sE e c x h.1).1 (sF es c xs h.2 n2)
theorem sL : ∀ (es : EL) {Γ : Sc} {X : Cx} {Wx : WX}, Cok G Φ Γ X Wx → ∀ (xs : List Expr), chkL G Γ es xs = true → JA X Wx xs (evA G.glob Φ es)
  | .nil, Γ, X, Wx, c, xs, h => by
    cases xs with
    | nil => exact ja_nil
    | cons _ _ => simp [chkL] at h
  | .cons st e es, Γ, X, Wx, c, xs, h => by
    cases xs with
    | nil => simp [chkL] at h
    | cons x xs =>
      simp only [chkL, Bool.and_eq_true] at h
      obtain ⟨h1, h2⟩ := h
      cases st with
      | false =>
        simp only [Bool.false_eq_true, if_false] at h1
        exact ja_cons (sE e c x h1).1 (sL es c xs h2) (notStar h1)
      | true =>
        simp only [if_true] at h1
        split at h1
        · rename_i y p
          exact ja_star (sE e c y h1).1 (sL es c xs h2)
        · cases h1
theorem sO : ∀ (e : EO) {Γ : Sc} {X : Cx} {Wx : WX}, Cok G Φ Γ X Wx → ∀ (ex : Option Expr), chkO G Γ e ex = true → JO X Wx ex (evO G.glob Φ e)
  | .no, Γ, X, Wx, c, ex, h => by
    cases ex with
    | none => exact jo_no
    | some _ => simp [chkO] at h
  | .yes e, Γ, X, Wx, c, ex, h => by
    cases ex with
    | none => simp [chkO] at h
    | some x =>
      simp only [chkO] at h
      exact jo_yes (sE e c x h).1
theorem sC : ∀ (e : EO) {Γ : Sc} {X : Cx} {Wx : WX}, Cok G Φ Γ X Wx → ∀ (ex : List Expr), chkC G Γ e ex = true → PTs X ex (tT X Wx (evC G.glob Φ e))
  | .no, Γ, X, Wx, c, ex, h => by
    cases ex with
    | nil =>
      refine PTs.imp pts_nil fun σ H Q ⟨ρ, S, hh, rr, A, e, F⟩ => ?_
      cases e
      exact F ρ H (Go.refl _) A
    | cons _ _ => simp [chkC] at h
  | .yes e, Γ, X, Wx, c, ex, h => by
    simp only [chkC] at h
    split at h
    · rename_i x
      exact pts_one (sE e c x h).2
    · cases h
theorem sI : ∀ (i : It) {Γ : Sc} {X : Cx} {Wx : WX}, Cok G Φ Γ X Wx → ∀ (t ex : Expr), chkI G Γ i t ex = true → JI X Wx t ex (evI G.glob Φ i) ∧ ∀ x, foldedSetIterable ex X.env x = pure x
  | .sq e, Γ, X, Wx, c, t, ex, h => by
    simp only [chkI] at h
    exact ⟨ji_sq (sE e c ex h).1, folded_of h⟩
  | .r1 a, Γ, X, Wx, c, t, ex, h => by
    simp only [chkI] at h
    split at h
    · rename_i y p1 x p'
      simp only [Bool.and_eq_true, decide_eq_true_eq] at h
      obtain ⟨⟨⟨e1, h1⟩, h2⟩, h3⟩ := h
      exact ⟨ji_r1 c e1 h1 h2 (sE a c x h3).1 (notStar h3), fun _ => rfl⟩
    · cases h
  | .r2 a b, Γ, X, Wx, c, t, ex, h => by
    simp only [chkI] at h
    split at h
    · rename_i y p1 x z p'
      simp only [Bool.and_eq_true, decide_eq_true_eq] at h
      obtain ⟨⟨⟨⟨e1, h1⟩, h2⟩, h3⟩, h4⟩ := h
      exact ⟨ji_r2 c e1 h1 h2 (sE a c x h3).1 (sE b c z h4).1 (notStar h3) (notStar h4), fun _ => rfl⟩
    · cases h
  | .en a, Γ, X, Wx, c, t, ex, h => by
    simp only [chkI] at h
    split at h
    · rename_i ts k tp y p1 x p'
      simp only [Bool.and_eq_true, decide_eq_true_eq] at h
      obtain ⟨⟨⟨e1, h1⟩, h2⟩, h3⟩ := h
      exact ⟨ji_en c e1 h1 h2 (sE a c x h3).1 (notStar h3), fun _ => rfl⟩
    · cases h
  | .zp a b, Γ, X, Wx, c, t, ex, h => by
    simp only [chkI] at h
    split at h
    · rename_i ts k tp y p1 x z p'
      simp only [Bool.and_eq_true, decide_eq_true_eq] at h
      obtain ⟨⟨⟨⟨e1, h1⟩, h2⟩, h3⟩, h4⟩ := h
      exact ⟨ji_zp c e1 h1 h2 (sE a c x h3).1 (sE b c z h4).1 (notStar h3) (notStar h4), fun _ => rfl⟩
    · cases h
end
end
end Z

/-! Z11: statements -/
namespace Z
open PySem L2
section
variable {G : Gs} {Φ : CallF} {Γ : Sc} {X : Cx} {Wx : WX}

/-- where a statement stands -/
structure Cos (G : Gs) (Φ : CallF) (Γ : Sc) (X : Cx) (Wx : WX) : Prop where
  e : Cok G Φ Γ X Wx
  kind : X.env.scope.kind = .function
  pass : PassesOwn (model X.prog X.w) X.A X.env X.xe

def FinS (X : Cx) (Wx : WX) (W0 : Wd) (H0 : Hp) (r : Fw × Hh) (D : Ends) : Prop := ∀ ρ' H', Go W0 (wd X ρ' r.2 H') → Rep (wd X ρ' r.2 H') r.2 → match r.1 with
  | .nx S' => ∀ σ', RS (wd X ρ' r.2 H') σ' S' → D.nx σ' H'
  | .rt d => ∀ v, RE (wd X ρ' r.2 H') H0 v d → D.rt v H'
  | .bk S' => ∀ σ', RS (wd X ρ' r.2 H') σ' S' → D.bk σ' H'
  | .ct S' => ∀ σ', RS (wd X ρ' r.2 H') σ' S' → D.ct σ' H'
  | .xx C fs S' => ∀ σ' cls dx, RS (wd X ρ' r.2 H') σ' S' → RX (wd X ρ' r.2 H') cls dx C fs → Wx cls dx σ' H'
abbrev SF := Sl → Hh → BM
def tS (X : Cx) (Wx : WX) (f : SF) : TS := fun D σ H => ∃ ρ S h r, At X ρ h H σ S ∧ f S h = some r ∧ FinS X Wx (wd X ρ h H) H r D
abbrev JS (X : Cx) (Wx : WX) (st : Stmt) (f : SF) : Prop := PS X st (tS X Wx f)
abbrev JB (X : Cx) (Wx : WX) (st : List Stmt) (f : SF) : Prop := PSs X st (tS X Wx f)
theorem FinS.go {W0 : Wd} {ρ : Nat → Addr} {h : Hh} {H H0 : Hp} {r : Fw × Hh} {D : Ends} (g : Go W0 (wd X ρ h H)) (k : ∀ a, H a = none → H0 a = none) (F : FinS X Wx W0 H0 r D) : FinS X Wx (wd X ρ h H) H r D := by
  intro ρ' H' g' p'
  have q := F ρ' H' (g.trans g') p'
  obtain ⟨w, h'⟩ := r
  cases w with
  | rt d => exact fun v rv => q v (rv.old k)
  | nx S' => exact q
  | bk S' => exact q
  | ct S' => exact q
  | xx C fs S' => exact q
/-- the value first, then the rest -/
theorem tE.bs {ρ : Nat → Addr} {h : Hh} {H : Hp} {σ : St} {S : Sl} {fa : EF} {k : D → Hh → BM} {r : Fw × Hh} {D0 : Ends} {Q : VK} (A : At X ρ h H σ S)
    (e : Z.bs (fa S h) S k = some r) (F : FinS X Wx (wd X ρ h H) H r D0)
    (hk : ∀ d h1 ρ' H' v, fa S h = some (.ok d, h1) → Go (wd X ρ h H) (wd X ρ' h1 H') → At X ρ' h1 H' σ S → RE (wd X ρ' h1 H') H v d → k d h1 = some r → FinS X Wx (wd X ρ' h1 H') H' r D0 → Q v H') : tE X Wx fa σ H Q := by
  cases q : fa S h with
  | none => rw [q] at e; cases e
  | some ra =>
    rw [q] at e
    refine ⟨ρ, S, h, ra, A, q, ?_⟩
    match ra, q, e with
    | (.ok d, h1), q, e => exact fun ρ' H' g A' v rv => hk d h1 ρ' H' v q g A' rv e (F.go g g.dom)
    | (.ex C fs, h1), q, e =>
      cases e
      exact fun ρ' H' cls dx g A' rx => F ρ' H' g A'.rep σ cls dx A'.sl rx
theorem tT.bs {ρ : Nat → Addr} {h : Hh} {H : Hp} {σ : St} {S : Sl} {fa : TF} {k : Bool → Hh → BM} {r : Fw × Hh} {D0 : Ends} {Q : Bool → Hp → Prop} (A : At X ρ h H σ S)
    (e : Z.bs (fa S h) S k = some r) (F : FinS X Wx (wd X ρ h H) H r D0)
    (hk : ∀ b h1 ρ' H', Go (wd X ρ h H) (wd X ρ' h1 H') → At X ρ' h1 H' σ S → k b h1 = some r → FinS X Wx (wd X ρ' h1 H') H' r D0 → Q b H') : tT X Wx fa σ H Q := by
  cases q : fa S h with
  | none => rw [q] at e; cases e
  | some ra =>
    rw [q] at e
    refine ⟨ρ, S, h, ra, A, q, ?_⟩
    match ra, q, e with
    | (.ok d, h1), q, e => exact fun ρ' H' g A' => hk d h1 ρ' H' g A' e (F.go g g.dom)
    | (.ex C fs, h1), q, e =>
      cases e
      exact fun ρ' H' cls dx g A' rx => F ρ' H' g A'.rep σ cls dx A'.sl rx
theorem tI.bs {ρ : Nat → Addr} {h : Hh} {H : Hp} {σ : St} {S : Sl} {fa : IF} {k : Src → Hh → BM} {r : Fw × Hh} {D0 : Ends} {Q : L2.It → Hp → Prop} (A : At X ρ h H σ S)
    (e : Z.bs (fa S h) S k = some r) (F : FinS X Wx (wd X ρ h H) H r D0)
    (hk : ∀ s h1 ρ' H', Go (wd X ρ h H) (wd X ρ' h1 H') → At X ρ' h1 H' σ S → k s h1 = some r → FinS X Wx (wd X ρ' h1 H') H' r D0 → ∀ J, Wk X s ρ' h1 H' J → Q J H') : tI X Wx fa σ H Q := by
  cases q : fa S h with
  | none => rw [q] at e; cases e
  | some ra =>
    rw [q] at e
    refine ⟨ρ, S, h, ra, A, q, ?_⟩
    match ra, q, e with
    | (.ok d, h1), q, e => exact fun ρ' H' g A' => hk d h1 ρ' H' g A' e (F.go g g.dom)
    | (.ex C fs, h1), q, e =>
      cases e
      exact fun ρ' H' cls dx g A' rx => F ρ' H' g A'.rep σ cls dx A'.sl rx

theorem swaps_of {ex : Expr} {t : Option Expr} {l : Nat} {env : Env} (h : nocomp ex = true) : swapsWith ex t l env = pure false := by
  cases ex <;> first | rfl | (simp [nocomp] at h)
theorem swapsC_of {ex : Expr} {y : Str} {py : Pos} {l : Nat} {env : Env} (hy : env.scope.names.lookup y = some .cell) : swapsWith ex (some (.Name y py)) l env = pure false := by
  have ky : env.kindOf y = some .cell := hy
  have key : (some NameKind.cell == some NameKind.local) = false := by decide
  cases ex with
  | ListComp a b c d => unfold swapsWith; simp only [ky, key, Bool.and_false, Bool.false_and]
  | SetComp a b c d => unfold swapsWith; simp only [ky, key, Bool.and_false, Bool.false_and]
  | DictComp a b c d e => unfold swapsWith; simp only [ky, key, Bool.and_false, Bool.false_and]
  | _ => rfl
theorem swapsA_of {ex o : Expr} {f : Str} {p : Pos} {l : Nat} {env : Env} : swapsWith ex (some (.Attribute o f p)) l env = pure false := by
  cases ex <;> rfl
theorem swapsI_of {ex o i : Expr} {p : Pos} {l : Nat} {env : Env} : swapsWith ex (some (.Subscript o i p)) l env = pure false := by
  cases ex <;> rfl
theorem swapsT_of {ex : Expr} {ts : List Expr} {k : Nat} {p : Pos} {l : Nat} {env : Env} : swapsWithSole [.Tuple ts k p] ex l env = pure false := by
  cases ex <;> rfl
theorem stores_of {ex : Expr} {ts : List Expr} {k : Nat} {p : Pos} {env : Env} (h : notup ex = true) : swappedStores [.Tuple ts k p] ex env = pure none := by
  cases ex <;> first | rfl | (simp [notup] at h)

theorem js_ex {x : Expr} {f : EF} {pos : Pos} (j : JE X Wx x f) (h : nocomp x = true) : JS X Wx (.Expr x pos) (fun S h => bs (f S h) S fun _ h1 => some (.nx S, h1)) := by
  refine PS.imp (ps_expr j (swaps_of h)) fun D σ H ⟨ρ, S, hh, r, A, e, F⟩ => ?_
  refine tE.bs A e F fun d h1 ρ1 H1 v _ g A1 rv e1 F1 => ?_
  cases e1
  exact F1 ρ1 H1 (Go.refl _) A1.rep σ A1.sl
theorem set_imp {i : Nat} {f : EF} {D : Ends} {σ : St} {H : Hp} (q : tS X Wx (fun S h => bs (vv f S h) S fun d h1 => some (.nx (S.set i (some d)), h1)) D σ H) : tAsg (tE X Wx (vv f)) (gName i) D σ H := by
  obtain ⟨ρ, S, hh, r, A, e, F⟩ := q
  refine tE.bs A e F fun d h1 ρ1 H1 v eq g A1 rv e1 F1 => ?_
  cases e1
  exact F1 ρ1 H1 (Go.refl _) A1.rep _ (A1.sl.set i (rv.ofHeld (vv_held eq)))
theorem js_set {i : Nat} {y : Str} {x : Expr} {f : EF} {p pos : Pos} (c : Cok G Φ Γ X Wx) (j : JE X Wx x f) (h : nocomp x = true) (hN : Γ.N[i]? = some y) (hs : stoB Γ y = true) :
    JS X Wx (.Assign [.Name y p] x pos) (fun S h => bs (vv f S h) S fun d h1 => some (.nx (S.set i (some d)), h1)) :=
  PS.imp (ps_set (i := i) (by rw [c.N]; exact c.nd) (by rw [c.N]; exact hN) (sto_of c hs) (JE.vv j) (swaps_of h) (c.fn y hs)) fun D σ H q => set_imp q
theorem js_setC {i : Nat} {y : Str} {x : Expr} {f : EF} {p pos : Pos} (c : Cok G Φ Γ X Wx) (j : JE X Wx x f) (h : Γ.sc.names.lookup y = some .cell) (hN : Γ.N[i]? = some y) (hs : stoB Γ y = true) :
    JS X Wx (.Assign [.Name y p] x pos) (fun S h => bs (vv f S h) S fun d h1 => some (.nx (S.set i (some d)), h1)) :=
  PS.imp (ps_set (i := i) (by rw [c.N]; exact c.nd) (by rw [c.N]; exact hN) (sto_of c hs) (JE.vv j) (swapsC_of (by rw [c.sc]; exact h)) (c.fn y hs)) fun D σ H q => set_imp q
theorem js_asg {ts : List Expr} {k : Nat} {l : TL} {x : Expr} {f : EF} {p pos : Pos} (c : Cok G Φ Γ X Wx) (j : JE X Wx x f) (h : notup x = true) (hg : chkGL Γ l ts = true) :
    JS X Wx (.Assign [.Tuple ts k p] x pos) (fun S h => bs (vv f S h) S fun d h1 => match bindT h1 (.tp l) d S with
      | some S1 => some (.nx S1, h1)
      | none => none) := by
  refine PS.imp (ps_asg (JE.vv j) (jg c (.tp l) (.Tuple ts k p) hg) swapsT_of (stores_of h) rfl) fun D σ H ⟨ρ, S, hh, r, A, e, F⟩ => ?_
  refine tE.bs A e F fun d h1 ρ1 H1 v eq g A1 rv e1 F1 => ?_
  split at e1
  · rename_i S1 eb
    cases e1
    exact ⟨ρ1, S, h1, d, S1, A1, rv.ofHeld (vv_held eq), eb, fun σ' A' _ _ => F1 ρ1 H1 (Go.refl _) A'.rep σ' A'.sl⟩
  · cases e1
theorem put_names {f : Str} {v : V} {d : D} : ∀ {gs : List (Str × V)} {fs : List (Str × D)}, gs.map (·.1) = fs.map (·.1) → (putF f v gs).map (·.1) = (putD f d fs).map (·.1)
  | [], [], _ => rfl
  | [], _ :: _, h => by cases h
  | _ :: _, [], h => by cases h
  | (a, x) :: gs, (b, y) :: fs, h => by
    have h1 : a = b := (List.cons.inj h).1
    have h2 := (List.cons.inj h).2
    subst h1
    unfold putF putD
    by_cases c : a = f
    · rw [if_pos c, if_pos c, List.map_cons, List.map_cons, h2]
    · rw [if_neg c, if_neg c, List.map_cons, List.map_cons, put_names h2]
theorem put_rl {W : Wd} {f : Str} {v : V} {d : D} (r : R W v d) : ∀ {gs : List (Str × V)} {fs : List (Str × D)}, gs.map (·.1) = fs.map (·.1) → RL W (gs.map (·.2)) (fs.map (·.2)) → RL W ((putF f v gs).map (·.2)) ((putD f d fs).map (·.2))
  | [], [], _, _ => .cons r .nil
  | [], _ :: _, h, _ => by cases h
  | _ :: _, [], h, _ => by cases h
  | (a, x) :: gs, (b, y) :: fs, h, q => by
    have h1 : a = b := (List.cons.inj h).1
    have h2 := (List.cons.inj h).2
    subst h1
    cases q with
    | cons q0 q1 =>
      unfold putF putD
      by_cases c : a = f
      · rw [if_pos c, if_pos c]
        exact .cons r q1
      · rw [if_neg c, if_neg c]
        exact .cons q0 (put_rl r h2 q1)
theorem js_bad {st : Stmt} : JS X Wx st (fun _ _ => none) := ⟨fun pins s σ H Q I q => by
  obtain ⟨_, _, _, _, _, e, _⟩ := q
  cases e⟩
theorem js_fst {a v : Expr} {f : Str} {cs : List Str} {fa fv : EF} {p pos : Pos} (c : Cok G Φ Γ X Wx) (ja : JE X Wx a fa) (jv : JE X Wx v fv) (hc : ∀ C ∈ cs, (C, f) ∈ G.noat) :
    JS X Wx (.Assign [.Attribute a f p] v pos) (fun S h => bs (vv fv S h) S fun y h1 => bs (fa S h1) S fun x h2 => match x with
      | .ref n => match h2[n]? with
        | some (.ins C fs) => if C ∈ cs ∧ fs.length < 1000 then some (.nx S, h2.set n (.ins C (putD f y fs))) else none
        | _ => none
      | _ => none) := by
  refine PS.imp (ps_fld ja (JE.vv jv) swapsA_of) fun D σ H ⟨ρ, S, hh, r, A, e, F⟩ => ?_
  refine tE.bs A e F fun d h1 ρ1 H1 vy eq g A1 rv e1 F1 => ?_
  have ry := rv.ofHeld (vv_held eq)
  refine tE.bs A1 e1 F1 fun x h2 ρ2 H2 vx eq2 g2 A2 rx e2 F2 => ?_
  cases x with
  | ref n =>
    have r1 := rx.ref_inv
    simp only at e2
    split at e2
    · rename_i C fs ec
      split at e2
      · rename_i hC
        cases e2
        obtain ⟨rfl⟩ : vx = .ref (ρ2 n) := by cases r1; rfl
        cases A2.rep.obj n _ ec with
        | ins cc hh en rl =>
          rename_i Ca dx gs
          obtain ⟨k1, k2⟩ := c.noat C f (hc C hC.1) Ca cc
          have hn : n < h2.length := (List.getElem?_eq_some_iff.mp ec).1
          have ln : gs.length = fs.length := by
            have := congrArg List.length en
            simpa using this
          obtain ⟨g3, A3⟩ := A2.write hn (u := .ins Ca dx (putF f vy gs)) (o := .ins C (putD f d fs)) (fun ob w z => by rw [show H2 (ρ2 n) = _ from hh] at z; cases z) fun le => .ins cc upd_same (put_names en) (put_rl ((ry.go g2 A1.rep).le le) en (rl.le le))
          exact ⟨_, Ca, dx, gs, rfl, hh, k1, k2, by omega, F2 ρ2 _ g3 A3.rep σ A3.sl⟩
      · cases e2
    · cases e2
  | _ => cases e2
theorem js_kput {a b v : Expr} {fa fb fv : EF} {p pos : Pos} (c : Cok G Φ Γ X Wx) (ja : JE X Wx a fa) (jb : JE X Wx b fb) (jv : JE X Wx v fv) (hs : nsl b = true) :
    JS X Wx (.Assign [.Subscript a b p] v pos) (fun S h => bs (vv fv S h) S fun d h1 => bs (fa S h1) S fun x h2 => bs (fb S h2) S fun y h3 => match x with
      | .ref n => match h3[n]? with
        | some (.dic kvs) => match keyD y with
          | some k => if kvs.length < sizeLine then some (.nx S, h3.set n (.dic (putKD kvs k d))) else none
          | none => none
        | _ => none
      | _ => none) := by
  refine PS.imp (ps_dput (by have := c.units; omega) ja jb (JE.vv jv) swapsI_of) fun D σ H ⟨ρ, S, hh, r, A, e, F⟩ => ?_
  refine tE.bs A e F fun d h1 ρ1 H1 vd eq g A1 rv e1 F1 => ?_
  have rd := rv.ofHeld (vv_held eq)
  refine tE.bs A1 e1 F1 fun x h2 ρ2 H2 vx eq2 g2 A2 rx e2 F2 => ?_
  refine tE.bs A2 e2 F2 fun y h3 ρ3 H3 vy eq3 g3 A3 ry e3 F3 => ?_
  have rx3 := A2.newer g3 rx
  cases x with
  | ref n =>
    have r1 := rx3.ref_inv
    simp only at e3
    split at e3
    · rename_i kvs ec
      split at e3
      · rename_i k ek
        split at e3
        · rename_i hl
          cases e3
          obtain ⟨rfl⟩ : vx = .ref (ρ3 n) := by cases r1; rfl
          have hn : n < h3.length := (List.getElem?_eq_some_iff.mp ec).1
          cases A3.rep.obj n _ ec with
          | dic hh2 en rl =>
            rename_i ks
            have rk := RK.of en rl
            have rd3 := (rd.go g2 A1.rep).go g3 A2.rep
            rw [ry.key ek]
            obtain ⟨g4, A4⟩ := A3.write hn (u := .dK (putK ks k vd)) (o := .dic (putKD kvs k d)) (fun ob w z => by rw [show H3 (ρ3 n) = _ from hh2] at z; cases z) fun le => .dic upd_same (rk.put k rd3).fst ((rk.put k rd3).le le).snd
            exact ⟨_, _, rfl, .k hh2 (by rw [rk.len]; exact hl), F3 ρ3 _ g4 A4.rep σ A4.sl⟩
        · cases e3
      · cases e3
    · cases e3
  | _ => cases e3
theorem aug_ok (op : Operator) (ho : augOp op = true) : Op2 X (inplaceOp op) (fun h x y => augD h op x y) := by
  cases op with
  | Add =>
    refine Op2.or (op2_I0 (g' := fun i j => .int (i + j)) (fun _ _ _ => .int _) iop_add) (op2_S (g' := fun i j => .str (i ++ j)) (fun _ _ _ => .str _) iop_add_str) fun h x y d e => ?_
    cases x <;> first | exact .inr e | (cases y <;> first | exact .inl e | exact .inr e)
  | Sub =>
    refine Op2.or (op2_I0 (g' := fun i j => .int (i - j)) (fun _ _ _ => .int _) iop_sub) Op2.nil fun h x y d e => ?_
    cases x <;> first | exact .inr e | (cases y <;> first | exact .inl e | exact .inr e)
  | _ => simp [augOp] at ho
theorem js_aug {i : Nat} {y : Str} {x : Expr} {f : EF} {op : Operator} {p pos : Pos} (c : Cok G Φ Γ X Wx) (j : JE X Wx x f) (hN : Γ.N[i]? = some y) (hs : stoB Γ y = true) (ho : augOp op = true) :
    JS X Wx (.AugAssign (.Name y p) op x pos) (fun S h => match getS S i with
      | none => none
      | some x => bs (f S h) S fun y h1 => match augD h1 op x y with
        | some d => some (.nx (S.set i (some d)), h1)
        | none => none) := by
  obtain ⟨r0, o, k⟩ := aug_ok (X := X) op ho
  refine PS.imp (ps_aug (i := i) (by rw [c.N]; exact c.nd) (by rw [c.N]; exact hN) (sto_of c hs) j (ti := r0) o (c.fn y hs)) fun D σ H ⟨ρ, S, hh, r, A, e, F⟩ => ?_
  dsimp only at e
  split at e
  · cases e
  · rename_i x0 ex0
    have hx : S[i]? = some (some x0) := by
      unfold getS at ex0
      cases z : S[i]? with
      | none => rw [z] at ex0; cases ex0
      | some y =>
        rw [z] at ex0
        have ed' : y = some x0 := ex0
        rw [ed']
    obtain ⟨v0, ev0, rv0⟩ := A.sl.at_ i x0 hx
    refine ⟨v0, ev0, ?_⟩
    refine tE.bs A e F fun d h1 ρ1 H1 v eq g A1 rv e1 F1 => ?_
    split at e1
    · rename_i d' ed
      cases e1
      refine k ρ1 h1 H1 σ S H x0 d v0 v d' _ A1 (fun a z => g.dom a z) (.held (rv0.go g A.rep)) rv ed fun H' v' g' A' r' => ?_
      have : ∀ xs, d' ≠ .lst xs := by
        rintro xs rfl
        unfold augD at ed
        split at ed <;> first | cases ed | (split at ed <;> cases ed)
      exact F1 ρ1 H' g' A'.rep _ (A'.sl.set i (r'.ofHeld this))
    · cases e1
theorem js_faug {a v : Expr} {f : Str} {cs : List Str} {op : Operator} {fa fv : EF} {p pos : Pos} (c : Cok G Φ Γ X Wx) (ja : JE X Wx a fa) (jv : JE X Wx v fv) (ho : augOp op = true) (hc : ∀ C ∈ cs, (C, f) ∈ G.noat) :
    JS X Wx (.AugAssign (.Attribute a f p) op v pos) (fun S h => bs (fa S h) S fun x h1 => match x with
      | .ref n => match h1[n]? with
        | some (.ins C fs) => if C ∈ cs then match fs.lookup f with
          | some u => bs (fv S h1) S fun y h2 => match augD h2 op u y with
            | some z => match h2[n]? with
              | some (.ins C' fs') => if C' = C ∧ fs'.length < 1000 then some (.nx S, h2.set n (.ins C' (putD f z fs'))) else none
              | _ => none
            | none => none
          | none => none
          else none
        | _ => none
      | _ => none) := by
  obtain ⟨r0, o, k⟩ := aug_ok (X := X) op ho
  refine PS.imp (ps_fldaug ja jv (rd := r0) o) fun D σ H ⟨ρ, S, hh, r, A, e, F⟩ => ?_
  refine tE.bs A e F fun x h1 ρ1 H1 vx eq g A1 rx e1 F1 => ?_
  cases x with
  | ref n =>
    have r1 := rx.ref_inv
    simp only at e1
    split at e1
    · rename_i C fs ec
      split at e1
      · rename_i hC
        split at e1
        · rename_i u eu
          obtain ⟨rfl⟩ : vx = .ref (ρ1 n) := by cases r1; rfl
          cases A1.rep.obj n _ ec with
          | ins cc hh' en rl =>
            rename_i Ca dx gs
            obtain ⟨k1, k2⟩ := c.noat C f (hc C hC) Ca cc
            obtain ⟨w, l, rw'⟩ := RL.look en rl eu
            have hn1 : n < h1.length := (List.getElem?_eq_some_iff.mp ec).1
            refine ⟨_, Ca, dx, gs, w, rfl, hh', k1, k2, l, ?_⟩
            refine tE.bs A1 e1 F1 fun y h2 ρ2 H2 vy eq2 g2 A2 ry e2 F2 => ?_
            split at e2
            · rename_i z ez
              refine k ρ2 h2 H2 σ S H1 u y w vy z _ A2 (fun a z => g2.dom a z) (.held (rw'.go g2 A1.rep)) ry ez fun H' v' g' A' r' => ?_
              have nz : ∀ xs, z ≠ .lst xs := by
                rintro xs rfl
                unfold augD at ez
                split at ez <;> first | cases ez | (split at ez <;> cases ez)
              split at e2
              · rename_i C' fs' ec'
                split at e2
                · rename_i hC'
                  obtain ⟨rfl, hl⟩ := hC'
                  cases e2
                  have hn : n < h2.length := (List.getElem?_eq_some_iff.mp ec').1
                  have er : ρ2 n = ρ1 n := g2.ag n hn1
                  cases A'.rep.obj n _ ec' with
                  | ins cc' hh'' en' rl' =>
                    rename_i Ca' dx' gs'
                    have ecc : X.mg C' = some (.ref Ca) := cc
                    have ecc' : X.mg C' = some (.ref Ca') := cc'
                    have := ecc.symm.trans ecc'
                    cases this
                    have ln : gs'.length = fs'.length := by
                      have := congrArg List.length en'
                      simpa using this
                    obtain ⟨g3, A3⟩ := A'.write hn (u := .ins Ca dx' (putF f v' gs')) (o := .ins C' (putD f z fs')) (fun ob w zz => by have hh3 := hh''; first | (rw [show _ = some (HO.ins Ca dx' gs') from hh3] at zz; cases zz) | (have := hh3.symm.trans zz; cases this)) fun le => .ins cc' upd_same (put_names en') (put_rl ((r'.ofHeld nz).le le) en' (rl'.le le))
                    rw [← er]
                    exact ⟨dx', gs', hh'', by omega, F2 ρ2 _ (g'.trans g3) A3.rep σ A3.sl⟩
                · cases e2
              · cases e2
            · cases e2
        · cases e1
      · cases e1
    · cases e1
  | _ => cases e1
theorem swap_of {x y : Str} {px py pt pt2 : Pos} {kt k2 : Nat} {a b : Expr} {env : Env} (hk : env.scope.kind = .function) (hx : env.scope.names.lookup x = some .local) (hy : env.scope.names.lookup y = some .local) (hl : (py.line == px.line) = true) (hxy : (x == y) = false) (ha : isStar a = false) (hb : isStar b = false)
    (h1 : (foldedForSure 8 a && foldedForSure 8 b) = false) (h2 : (constantsAlone 8 a && constantsAlone 8 b) = false) :
    swappedStores [.Tuple [.Name x px, .Name y py] kt pt] (.Tuple [a, b] k2 pt2) env = pure (some [x, y]) := by
  have hbk : env.blockKind = .function := by
    unfold Env.blockKind
    rw [hk]
    rfl
  have st : ([a, b].any fun | .Starred .. => true | _ => false) = false := by
    have e1 : ∀ c : Expr, (match c with | .Starred .. => true | _ => false) = isStar c := fun c => by cases c <;> rfl
    simp only [List.any_cons, List.any_nil, e1, ha, hb, Bool.or_false]
  have kx : (env.kindOf x == some .local) = true := by unfold Env.kindOf; rw [hx]; rfl
  have ky : (env.kindOf y == some .local) = true := by unfold Env.kindOf; rw [hy]; rfl
  have xy : (y == x) = false := by
    rw [beq_eq_false_iff_ne] at hxy ⊢
    exact fun e => hxy e.symm
  have kx' : env.kindOf x = some .local := hx
  have ky' : env.kindOf y = some .local := hy
  have hl' : py.line = px.line := eq_of_beq hl
  have er : ([x, y] : List Str).eraseDups = [x, y] := by
    simp [List.eraseDups_cons, xy]
  unfold swappedStores
  simp only [hbk]
  simp [Expr.pos, kx', ky', hl', er]
  rw [if_neg (by
    rintro (h | h)
    · cases a <;> simp [isStar] at ha h
    · cases b <;> simp [isStar] at hb h), if_neg (by
    rintro ⟨p, q⟩
    rw [p, q] at h1
    cases h1), if_neg (by
    rintro ⟨p, q⟩
    rw [p, q] at h2
    cases h2)]
theorem js_par {i j : Nat} {x y : Str} {a b : Expr} {fs : AF} {px py pt pt2 pos : Pos} {kt k2 : Nat} (c : Cok G Φ Γ X Wx) (hk : X.env.scope.kind = .function) (js : JA X Wx [a, b] fs) (h1 : Γ.N[i]? = some x) (h2 : Γ.N[j]? = some y) (h3 : i ≠ j) (h4 : Γ.sc.names.lookup x = some .local) (h5 : Γ.sc.names.lookup y = some .local)
    (h6 : (py.line == px.line) = true) (h7 : (x == y) = false) (h8 : isStar a = false) (h9 : isStar b = false) (h10 : (foldedForSure 8 a && foldedForSure 8 b) = false) (h11 : (constantsAlone 8 a && constantsAlone 8 b) = false) :
    JS X Wx (.Assign [.Tuple [.Name x px, .Name y py] kt pt] (.Tuple [a, b] k2 pt2) pos) (fun S h => bs (fs S h) S fun ds h1 => match ds with
      | [x, y] => some (.nx ((S.set i (some x)).set j (some y)), h1)
      | _ => none) := by
  have e4 : X.env.scope.names.lookup x = some .local := by rw [c.sc]; exact h4
  have e5 : X.env.scope.names.lookup y = some .local := by rw [c.sc]; exact h5
  refine PS.imp (ps_par c.calm (by rw [c.N]; exact c.nd) (by rw [c.N]; exact h1) (by rw [c.N]; exact h2) h3 e4 e5 js (swap_of hk e4 e5 h6 h7 h8 h9 h10 h11) rfl) fun D σ H ⟨ρ, S, hh, r, A, e, F⟩ => ?_
  dsimp only at e
  cases q : fs S hh with
  | none => rw [q] at e; cases e
  | some ra =>
    rw [q] at e
    refine ⟨ρ, S, hh, ra, A, q, ?_⟩
    match ra, q, e with
    | (.ok ds, h1), q, e =>
      intro ρ' H' g A' vs rs
      cases rs with
      | nil => cases e
      | cons r1 rs =>
        cases rs with
        | nil => cases e
        | cons r2 rs =>
          cases rs with
          | nil =>
            cases e
            exact ⟨_, _, rfl, F ρ' H' g A'.rep _ ((A'.sl.set i r1).set j r2)⟩
          | cons _ _ => cases e
    | (.ex C fs', h1), q, e =>
      cases e
      exact fun ρ' H' cls dx g A' rx => F ρ' H' g A'.rep σ cls dx A'.sl rx
theorem js_ret {x : Expr} {f : EF} {pos : Pos} (j : JE X Wx x f) : JS X Wx (.Return (some x) pos) (fun S h => bs (f S h) S fun d h1 => some (.rt d, h1)) := by
  refine PS.imp (ps_ret j) fun D σ H ⟨ρ, S, hh, r, A, e, F⟩ => ?_
  refine tE.bs A e F fun d h1 ρ1 H1 v eq g A1 rv e1 F1 => ?_
  cases e1
  exact F ρ1 H1 g A1.rep v rv
theorem js_retn {pos : Pos} : JS X Wx (.Return none pos) (fun _ h => some (.rt .non, h)) := by
  refine PS.imp ps_retN fun D σ H ⟨ρ, S, hh, r, A, e, F⟩ => ?_
  cases e
  exact F ρ H (Go.refl _) A.rep .non (.held .non)
theorem js_if {x : Expr} {a b : List Stmt} {ft : TF} {fa fb : SF} {pos : Pos} (j : JT X Wx x ft) (ja : JB X Wx a fa) (jb : JB X Wx b fb) : JS X Wx (.If x a b pos) (fun S h => bs (ft S h) S fun k h1 => if k = true then fa S h1 else fb S h1) := by
  refine PS.imp (ps_if j ja jb) fun D σ H ⟨ρ, S, hh, r, A, e, F⟩ => ?_
  refine tT.bs A e F fun k h1 ρ1 H1 g A1 e1 F1 => ?_
  cases k with
  | true =>
    rw [if_pos rfl] at e1 ⊢
    exact ⟨ρ1, S, h1, r, A1, e1, F1⟩
  | false =>
    rw [if_neg Bool.false_ne_true] at e1 ⊢
    exact ⟨ρ1, S, h1, r, A1, e1, F1⟩
theorem js_pass {pos : Pos} : JS X Wx (.Pass pos) (fun S h => some (.nx S, h)) := PS.imp ps_pass fun D σ H ⟨ρ, S, hh, r, A, e, F⟩ => by
  cases e
  exact F ρ H (Go.refl _) A.rep σ A.sl
theorem js_brk {pos : Pos} : JS X Wx (.Break pos) (fun S h => some (.bk S, h)) := PS.imp ps_break fun D σ H ⟨ρ, S, hh, r, A, e, F⟩ => by
  cases e
  exact F ρ H (Go.refl _) A.rep σ A.sl
theorem js_cnt {pos : Pos} : JS X Wx (.Continue pos) (fun S h => some (.ct S, h)) := PS.imp ps_continue fun D σ H ⟨ρ, S, hh, r, A, e, F⟩ => by
  cases e
  exact F ρ H (Go.refl _) A.rep σ A.sl
theorem jb_nil : JB X Wx [] (fun S h => some (.nx S, h)) := PSs.imp pss_nil fun D σ H ⟨ρ, S, hh, r, A, e, F⟩ => by
  cases e
  exact F ρ H (Go.refl _) A.rep σ A.sl
theorem jb_cons {st : Stmt} {sts : List Stmt} {f fs : SF} (j : JS X Wx st f) (js : JB X Wx sts fs) : JB X Wx (st :: sts) (fun S h => bq (f S h) fun S1 h1 => fs S1 h1) := by
  refine PSs.imp (pss_cons j js) fun D σ H ⟨ρ, S, hh, r, A, e, F⟩ => ?_
  dsimp only at e
  cases q : f S hh with
  | none => rw [q] at e; cases e
  | some ra =>
    rw [q] at e
    refine ⟨ρ, S, hh, ra, A, q, fun ρ1 H1 g1 p1 => ?_⟩
    obtain ⟨w, h1⟩ := ra
    cases w with
    | nx S1 =>
      intro σ1 s1
      exact ⟨ρ1, S1, h1, r, ⟨p1, s1⟩, e, F.go g1 g1.dom⟩
    | rt d => cases e; exact F ρ1 H1 g1 p1
    | bk S1 => cases e; exact F ρ1 H1 g1 p1
    | ct S1 => cases e; exact F ρ1 H1 g1 p1
    | xx C fs' S1 => cases e; exact F ρ1 H1 g1 p1
theorem js_for {tg i : Expr} {body : List Stmt} {t : Tg} {fi : IF} {fb : SF} {pos : Pos} (c : Cos G Φ Γ X Wx) (ji : JI X Wx tg i fi) (hg : chkG Γ t tg = true) (jb : JB X Wx body fb) (hs : ∀ x, foldedSetIterable i X.env x = pure x) :
    JS X Wx (.For tg i body [] pos) (fun S h => bs (fi S h) S fun s h1 => foGo s.stay t fb s.items S h1) := by
  refine PS.imp (ps_for c.pass c.e.calm ji (jg c.e t tg hg) jb hs) fun Dn σ H ⟨ρ, S, hh, r, A, e, F⟩ => ?_
  refine tI.bs A e F fun s h1 ρ1 H1 g1 A1 e1 F1 J wk => ?_
  refine ⟨fun i m σ' H' => m = s.items.length - i ∧ i ≤ s.items.length ∧ ∃ ρ' S' h', At X ρ' h' H' σ' S' ∧ Go (wd X ρ1 h1 H1) (wd X ρ' h' H') ∧ foGo s.stay t fb (s.items.drop i) S' h' = some r, ⟨s.items.length, by simp, Nat.zero_le _, ρ1, S, h1, A1, Go.refl _, by rw [List.drop_zero]; exact e1⟩, ?_⟩
  rintro i m σ' H' ⟨rfl, hi, ρ', S', h', A', g', e'⟩
  by_cases hlt : i < s.items.length
  · refine .inr ?_
    have hd : s.items.drop i = s.items[i] :: s.items.drop (i + 1) := (List.getElem_cons_drop hlt).symm
    rw [hd] at e'
    simp only [foGo] at e'
    split at e'
    · rename_i st
      obtain ⟨_, turn⟩ := wk ρ' h' H' σ' S' g' A' st
      obtain ⟨go, yl⟩ := turn i hlt
      refine ⟨go, fun σ2 H2 => ∃ ρ2 S2 h2, At X ρ2 h2 H2 σ2 S2 ∧ Go (wd X ρ1 h1 H1) (wd X ρ2 h2 H2) ∧ foGo s.stay t fb (s.items.drop (i + 1)) S2 h2 = some r, fun σ2 H2 ⟨ρ2, S2, h2, a, b, cc⟩ => ⟨s.items.length - (i + 1), by omega, rfl, hlt, ρ2, S2, h2, a, b, cc⟩, fun x H6 y6 => ?_⟩
      obtain ⟨dx, edx, g6, A6, r6⟩ := yl x H6 y6
      have edx' : s.items[i] = dx := by
        rw [List.getElem?_eq_getElem hlt] at edx
        exact Option.some.inj edx
      subst edx'
      cases eb : bindT h' t s.items[i] S' with
      | none => rw [eb] at e'; cases e'
      | some S1 =>
        rw [eb] at e'
        dsimp only at e'
        refine ⟨ρ', S', h', s.items[i], S1, A6, r6, eb, fun σ2 A2 _ _ => ?_⟩
        cases ef : fb S1 h' with
        | none => rw [ef] at e'; cases e'
        | some rb =>
          rw [ef] at e'
          refine ⟨ρ', S1, h', rb, A2, ef, fun ρ3 H3 g3 p3 => ?_⟩
          have gg : Go (wd X ρ1 h1 H1) (wd X ρ3 rb.2 H3) := (g'.trans g6).trans g3
          obtain ⟨w, h3⟩ := rb
          cases w with
          | nx S3 => exact fun σ3 s3 => ⟨ρ3, S3, h3, ⟨p3, s3⟩, gg, e'⟩
          | ct S3 => exact fun σ3 s3 => ⟨ρ3, S3, h3, ⟨p3, s3⟩, gg, e'⟩
          | bk S3 =>
            cases e'
            exact fun σ3 s3 => F1 ρ3 H3 gg p3 σ3 s3
          | rt d =>
            cases e'
            exact fun v rv => F1 ρ3 H3 gg p3 v (rv.old fun a z => (g'.trans g6).dom a z)
          | xx C fs S3 =>
            cases e'
            exact F1 ρ3 H3 gg p3
    · cases e'
  · have ei : i = s.items.length := by omega
    subst ei
    rw [List.drop_length] at e'
    simp only [foGo] at e'
    split at e'
    · rename_i st
      cases e'
      exact .inl ⟨(wk ρ' _ H' _ _ g' A' st).1, F1 ρ' H' g' A'.rep σ' A'.sl⟩
    · cases e'
theorem js_while {x : Expr} {body : List Stmt} {ft : TF} {fb : SF} {pos : Pos} {N : Nat} (c : Cos G Φ Γ X Wx) (j : JT X Wx x ft) (jb : JB X Wx body fb) :
    JS X Wx (.While x body [] pos) (fun S h => whGo ft fb N S h) := by
  refine PS.imp (ps_while c.pass j jb) fun Dn σ H ⟨ρ, S, hh, r, A, e, F⟩ => ?_
  refine ⟨fun m σ' H' => ∃ ρ' S' h', At X ρ' h' H' σ' S' ∧ Go (wd X ρ hh H) (wd X ρ' h' H') ∧ whGo ft fb m S' h' = some r, ⟨N, ρ, S, hh, A, Go.refl _, e⟩, ?_⟩
  rintro m σ' H' ⟨ρ', S', h', A', g', e'⟩
  cases m with
  | zero => cases e'
  | succ m =>
    simp only [whGo] at e'
    have F' : FinS X Wx (wd X ρ' h' H') H' r Dn := F.go g' g'.dom
    refine tT.bs A' e' F' fun k h1 ρ1 H1 g A1 e1 F1 => ?_
    cases k with
    | true =>
      rw [if_pos rfl] at e1 ⊢
      refine ⟨fun σ2 H2 => ∃ ρ2 S2 h2, At X ρ2 h2 H2 σ2 S2 ∧ Go (wd X ρ hh H) (wd X ρ2 h2 H2) ∧ whGo ft fb m S2 h2 = some r, fun σ2 H2 q => ⟨m, Nat.lt_succ_self m, q⟩, ?_⟩
      cases ef : fb S' h1 with
      | none => rw [ef] at e1; cases e1
      | some rb =>
        rw [ef] at e1
        refine ⟨ρ1, S', h1, rb, A1, ef, fun ρ3 H3 g3 p3 => ?_⟩
        have gg : Go (wd X ρ hh H) (wd X ρ3 rb.2 H3) := (g'.trans g).trans g3
        obtain ⟨w, h3⟩ := rb
        cases w with
        | nx S3 => exact fun σ3 s3 => ⟨ρ3, S3, h3, ⟨p3, s3⟩, gg, e1⟩
        | ct S3 => exact fun σ3 s3 => ⟨ρ3, S3, h3, ⟨p3, s3⟩, gg, e1⟩
        | bk S3 =>
          cases e1
          exact fun σ3 s3 => F1 ρ3 H3 g3 p3 σ3 s3
        | rt d =>
          cases e1
          exact F1 ρ3 H3 g3 p3
        | xx C fs S3 =>
          cases e1
          exact F1 ρ3 H3 g3 p3
    | false =>
      rw [if_neg Bool.false_ne_true] at e1 ⊢
      cases e1
      exact F1 ρ1 H1 (Go.refl _) A1.rep σ' A1.sl
theorem js_tr {b : List Stmt} {h0 : ExceptHandler} {hs : List ExceptHandler} {f : SF} {pos : Pos} (j : JB X.nox (fun _ _ _ _ => False) b f) : JS X Wx (.Try b (h0 :: hs) [] [] pos) (fun S h => match f S h with
      | some (.xx _ _ _, _) => none
      | r => r) := by
  refine PS.imp (ps_try_thru0 j) fun D σ H ⟨ρ, S, hh, r, A, e, F⟩ => ?_
  dsimp only at e
  cases q : f S hh with
  | none => rw [q] at e; cases e
  | some ra =>
    rw [q] at e
    refine ⟨ρ, S, hh, ra, ⟨A.rep, A.sl⟩, q, fun ρ' H' g p => ?_⟩
    obtain ⟨w, h1⟩ := ra
    cases w with
    | xx _ _ _ => cases e
    | nx S1 => cases e; exact F ρ' H' g p
    | rt d => cases e; exact F ρ' H' g p
    | bk S1 => cases e; exact F ρ' H' g p
    | ct S1 => cases e; exact F ρ' H' g p
theorem tAsg_vv {f : EF} {i : Nat} {D : Ends} {σ : St} {H : Hp} (q : tAsg (tE X Wx (vv f)) (gName i) D σ H) : tAsg (tE X Wx f) (gName i) D σ H := tE.vv q
theorem sSet (c : Cos G Φ Γ X Wx) {i : Nat} {e : E} {y : Str} {p : Pos} {x : Expr} {pos : Pos} (h1 : Γ.N[i]? = some y) (h2 : stoB Γ y = true) (h3 : setOk Γ y p x = true) (h4 : chkE G Γ e x = true) (h5 : (decide (Γ.sc.names.lookup y = some .cell) || notLcd e) = true) : JS X Wx (.Assign [.Name y p] x pos) (evS G.glob Φ (.set i e)) := by
  by_cases hcl : Γ.sc.names.lookup y = some .cell
  · exact js_setC c.e (sE e c.e x h4).1 hcl h1 h2
  have h5 : notLcd e = true := by
    rw [decide_eq_false hcl, Bool.false_or] at h5
    exact h5
  unfold setOk at h3
  rw [decide_eq_false hcl, Bool.false_or] at h3
  by_cases hc : nocomp x = true
  · exact js_set c.e (sE e c.e x h4).1 hc h1 h2
  · cases x with
    | ListComp y' gs scope cpos =>
      simp only [Bool.and_eq_true, decide_eq_true_eq, Bool.not_eq_true'] at h3
      obtain ⟨⟨l1, l2⟩, l3⟩ := h3
      cases e with
      | lcd _ _ _ _ _ => cases h5
      | lc elt tg it cd own =>
       simp only [chkE] at h4
       split at h4
       · rename_i y'' t i' ifs scope' p'' eq
         cases eq
         simp only [Bool.and_eq_true, List.all_eq_true] at h4
         obtain ⟨⟨⟨⟨⟨k1, k2⟩, k3⟩, k4⟩, k5⟩, k6⟩ := h4
         refine PS.imp (js_setLc c.e k1 (fun i hi => by simpa using k2 i hi) (sI it c.e t i' k3).1 k4 (fun s H C cl fp => PTs.imp (sC cd (c.e.block scope s H C cl fp) ifs k5) fun _ _ _ q => same_blk.tT q)
          (fun s H C cl fp => (sE elt (c.e.block scope s H C cl fp) _ k6).1) (sI it c.e t i' k3).2 h1 l1 c.kind l2 l3) fun D σ H q => ?_
         exact tAsg_vv (set_imp q)
       · cases h4
      | _ => simp [chkE] at h4
    | SetComp _ _ _ _ => simp [nocomp] at h3
    | DictComp _ _ _ _ _ => simp [nocomp] at h3
    | _ => exact absurd rfl hc
mutual
theorem sS : ∀ (s : S) {X : Cx} {Wx : WX}, Cos G Φ Γ X Wx → ∀ (st : Stmt), chkS G Γ s st = true → JS X Wx st (evS G.glob Φ s)
  | .ex e, X, Wx, c, st, h => by
    cases st <;> simp only [chkS, Bool.false_eq_true, Bool.and_eq_true] at h
    exact js_ex (sE e c.e _ h.2).1 h.1
  | .set i e, X, Wx, c, st, h => by
    cases st with
    | Assign ts x pos =>
      simp only [chkS] at h
      split at h
      · rename_i y p x' p' eq
        cases eq
        simp only [Bool.and_eq_true, decide_eq_true_eq] at h
        obtain ⟨⟨⟨⟨h1, h2⟩, h3⟩, h4⟩, h5⟩ := h
        exact sSet c h1 h2 h3 h4 h5
      · cases h
    | _ => simp [chkS] at h
  | .asg t e, X, Wx, c, st, h => by
    cases st with
    | Assign ts x pos =>
      simp only [chkS] at h
      split at h
      · rename_i ts' k p x' p' eq
        cases eq
        simp only [Bool.and_eq_true] at h
        exact js_asg c.e (sE e c.e _ h.2).1 h.1.1 h.1.2
      · cases h
    | _ => simp [chkS] at h
  | .aug i op e, X, Wx, c, st, h => by
    cases st with
    | AugAssign tg o x pos =>
      simp only [chkS] at h
      split at h
      · rename_i y p o' x' p' eq
        cases eq
        simp only [Bool.and_eq_true, decide_eq_true_eq] at h
        obtain ⟨⟨⟨⟨h1, h2⟩, rfl⟩, h3⟩, h4⟩ := h
        exact js_aug c.e (sE e c.e _ h4).1 h1 h2 h3
      · cases h
    | _ => simp [chkS] at h
  | .ret e, X, Wx, c, st, h => by
    cases st with
    | Return v pos =>
      cases v with
      | some x =>
        simp only [chkS] at h
        exact js_ret (sE e c.e x h).1
      | none => simp [chkS] at h
    | _ => simp [chkS] at h
  | .retn, X, Wx, c, st, h => by
    cases st with
    | Return v pos =>
      cases v with
      | some x => simp [chkS] at h
      | none => exact js_retn
    | _ => simp [chkS] at h
  | .ife d a b, X, Wx, c, st, h => by
    cases st <;> simp only [chkS, Bool.false_eq_true, Bool.and_eq_true] at h
    exact js_if (sE d c.e _ h.1.1).2 (sB a c _ h.1.2) (sB b c _ h.2)
  | .fo t it b, X, Wx, c, st, h => by
    cases st with
    | For tg i body oe pos =>
      cases oe with
      | nil =>
        simp only [chkS, Bool.and_eq_true] at h
        obtain ⟨⟨h1, h2⟩, h3⟩ := h
        exact js_for c (sI it c.e tg i h1).1 h2 (sB b c body h3) (sI it c.e tg i h1).2
      | cons _ _ => simp [chkS] at h
    | _ => simp [chkS] at h
  | .wh d b, X, Wx, c, st, h => by
    cases st with
    | While x body oe pos =>
      cases oe with
      | nil =>
        simp only [chkS, Bool.and_eq_true] at h
        exact js_while c (sE d c.e x h.1).2 (sB b c body h.2)
      | cons _ _ => simp [chkS] at h
    | _ => simp [chkS] at h
  | .bad, X, Wx, c, st, h => js_bad
  | .fst a f cs e, X, Wx, c, st, h => by
    unfold chkS at h
    split at h
    · rename_i x y p v pos
      simp only [Bool.and_eq_true, decide_eq_true_eq] at h
      obtain ⟨⟨⟨⟨rfl, h1⟩, h3⟩, h4⟩, h5⟩ := h
      exact js_fst c.e (sE a c.e x h4).1 (sE e c.e v h5).1 fun C m => of_decide_eq_true (List.all_eq_true.mp h3 C m)
    · cases h
  | .faug a f cs op e, X, Wx, c, st, h => by
    unfold chkS at h
    split at h
    · rename_i x y p o v pos
      simp only [Bool.and_eq_true, decide_eq_true_eq] at h
      obtain ⟨⟨⟨⟨⟨⟨rfl, h1⟩, rfl⟩, h2⟩, h3⟩, h4⟩, h5⟩ := h
      exact js_faug c.e (sE a c.e x h4).1 (sE e c.e v h5).1 h2 fun C m => of_decide_eq_true (List.all_eq_true.mp h3 C m)
    · cases h
  | .par i j es, X, Wx, c, st, h => by
    unfold chkS at h
    split at h
    · rename_i x px y py kt pt a b k2 pt2 pos
      simp only [Bool.and_eq_true, decide_eq_true_eq, Bool.not_eq_true'] at h
      obtain ⟨⟨⟨⟨⟨⟨⟨⟨⟨⟨⟨h1, h2⟩, h3⟩, h4⟩, h5⟩, h6⟩, h7⟩, h8⟩, h9⟩, h10⟩, h11⟩, h12⟩ := h
      exact js_par c.e c.kind (sL es c.e [a, b] h12) h1 h2 h3 h4 h5 h6 h7 h8 h9 h10 h11
    · cases h
  | .tr b, X, Wx, c, st, h => by
    unfold chkS at h
    split at h
    · rename_i body h0 hs pos
      exact js_tr (sB b ⟨c.e.nox, c.kind, PassesOwn.never⟩ body h)
    · cases h
  | .kput a b e, X, Wx, c, st, h => by
    unfold chkS at h
    split at h
    · rename_i x y p v pos
      simp only [Bool.and_eq_true] at h
      obtain ⟨⟨⟨h2, h3⟩, h4⟩, h5⟩ := h
      exact js_kput c.e (sE a c.e x h3).1 (sE b c.e y h4).1 (sE e c.e v h5).1 h2
    · cases h
  | .pas, X, Wx, c, st, h => by
    cases st <;> simp only [chkS, Bool.false_eq_true] at h
    exact js_pass
  | .brk, X, Wx, c, st, h => by
    cases st <;> simp only [chkS, Bool.false_eq_true] at h
    exact js_brk
  | .cnt, X, Wx, c, st, h => by
    cases st <;> simp only [chkS, Bool.false_eq_true] at h
    exact js_cnt
theorem sB : ∀ (l : SL) {X : Cx} {Wx : WX}, Cos G Φ Γ X Wx → ∀ (sts : List Stmt), chkB G Γ l sts = true → JB X Wx sts (evB G.glob Φ l)
  | .nil, X, Wx, c, sts, h => by
    cases sts with
    | nil => exact jb_nil
    | cons _ _ => simp [chkB] at h
  | .cons s l, X, Wx, c, sts, h => by
    cases sts with
    | nil => simp [chkB] at h
    | cons st sts =>
      simp only [chkB, Bool.and_eq_true] at h
      exact jb_cons (sS s c st h.1) (sB l c sts h.2)
end
end
end Z

/-! Z12: defs, and a law -/
namespace Z
open PySem L2

/-- a def: its own name, its long name, where it stands, its parameters, its names, its body -/
structure Row where
  nm : Str
  qual : Str
  st : Stmt
  ps : List Str
  N : List Str
  body : SL
def Row.df (r : Row) : Df := ⟨r.ps.length, r.N.length, r.body⟩
abbrev Tab := List (Str × Row)
def Tab.T (t : Tab) : Str → Option Df := fun x => (t.lookup x).map Row.df
/-- a def's text -/
structure DefOk (G : Gs) (r : Row) : Prop where
  sc : FnScope r.N r.ps (defScope r.st)
  chk : chkB G ⟨r.N, defScope r.st, none⟩ r.body (defBody r.st) = true
/-- what the top leaves -/
structure TopOk (w : World) (K : PySem.W.Frag) (mg : Str → Option Value) (G : Gs) (t : Tab) : Prop where
  defs : ∀ x r, t.lookup x = some r → DefOk G r
  fns : ∀ x n, G.fns.lookup x = some n → ∃ (r : Row) (f : Addr) (fd : FuncData), t.lookup x = some r ∧ r.ps.length = n ∧ Fun K r.nm r.qual r.st f fd ∧ mg x = some (.ref f) ∧ Binds K fd r.ps []
  glob : ∀ x d, G.glob.lookup x = some d → ∃ u v, mg x = some u ∧ RelV v u ∧ ∀ ρ n H, R ⟨K, mg, ρ, n, H⟩ v d
  blt : ∀ x ∈ G.blt, mg x = none
  noat : ∀ C f, (C, f) ∈ G.noat → ∀ Ca, mg C = some (.ref Ca) → Cls K Ca ∧ NoAttr K Ca f
  mets : ∀ C m q n, (C, m, q, n) ∈ G.mets → ∃ (Ca f : Addr) (r : Row) (fd : FuncData), mg C = some (.ref Ca) ∧ Cls K Ca ∧ Meth K Ca m f ∧ t.lookup q = some r ∧ r.ps.length = n ∧ Fun K r.nm r.qual r.st f fd ∧ Binds K fd r.ps []
  mks : ∀ C q n, (C, q, n) ∈ G.mks → ∃ (Ca f : Addr) (r : Row) (fd : FuncData), mg C = some (.ref Ca) ∧ Mk K Ca f ∧ t.lookup q = some r ∧ r.ps.length = n ∧ Fun K r.nm r.qual r.st f fd ∧ Binds K fd r.ps []
  isc : ∀ C ∈ G.isc, ∃ Ca, mg C = some (.ref Ca) ∧ C8.InsC K Ca
  gdic : ∀ x kvs, (x, kvs) ∈ G.gdic → GdOk K w mg x kvs
section
variable {P : Program} {w : World} {K : PySem.W.Frag} {mg : Str → Option Value} {base : Heap} {G : Gs} {t : Tab}
theorem spF_len {Φ : CallF} {x : Str} {ps : List Str} : ∀ vs H Q E, spF P w K mg Φ x ps.length vs H Q E → vs.length = ps.length := by
  rintro vs H Q E ⟨ρ, h, ds, r, _, rl, e, _⟩
  rw [rl.length, e]
theorem fns_ok (ok : TopOk w K mg G t) : ∀ (k : Nat) (x : Str) (r : Row) (f : Addr) (fd : FuncData), t.lookup x = some r → Fun K r.nm r.qual r.st f fd →
    FnOk P w K mg base (L2.CX P w) (2 * k + 1) f fd r.ps (spF P w K mg (calls G.glob t.T k) x r.ps.length)
  | 0, x, r, f, fd, e, F => ⟨spF_len, fun A outer s H args us vs Q E hr he hb hv hs => by
      obtain ⟨ρ, h, ds, r, _, _, _, e, _⟩ := hs
      cases e⟩
  | k + 1, x, r, f, fd, e, F => by
    have ih := fns_ok ok k
    have D := ok.defs x r e
    refine F.okX D.sc spF_len fun cdv A outer s H vs Q E hr hs => ?_
    obtain ⟨ρ, h, ds, rr, p, rl, hl, ec, fin⟩ := hs
    have hr1 := Room.mono (j := 2 * k + 1) hr (Nat.le_succ _)
    refine ⟨tS (cxOf (L2.CX P w) P w K mg base r.N r.qual (defScope r.st) f cdv A outer s H E) (fun cls d _ H => E cls d H) (evB G.glob (calls G.glob t.T k) r.body), ?_, ?_⟩
    · refine sB r.body ⟨⟨rfl, D.sc.nd, rfl, rfl, ?_, fun _ _ => .inl rfl, takes_of rfl rfl rfl rfl, ok.glob, ok.blt, fun y n hy => ?_, ok.noat, fun C m q n hm => ?_, fun C q n hm => ?_, ok.isc, ok.gdic⟩, D.sc.kind, passes_of rfl⟩ _ D.chk
      · have := hr.un
        show (A.deeper _).units + 65 < cLine
        omega
      · obtain ⟨r', f', fd', er, en, F', hm, hb⟩ := ok.fns y n hy
        subst en
        exact ⟨f', fd', r'.ps, 2 * k + 1, ih y r' f' fd' er F', hr1, hm, F'.kp, hb⟩
      · obtain ⟨Ca, f', r', fd', mC, cl, me, er, en, F', hb⟩ := ok.mets C m q n hm
        subst en
        exact ⟨Ca, f', fd', r'.ps, 2 * k + 1, mC, cl, me, ih q r' f' fd' er F', hr1, hb⟩
      · obtain ⟨Ca, f', r', fd', mC, me, er, en, F', hb⟩ := ok.mks C q n hm
        subst en
        exact ⟨Ca, f', fd', r'.ps, 2 * k + 1, mC, me, ih q r' f' fd' er F', hr, hb⟩
    · have hT : t.T x = some r.df := by
        unfold Tab.T
        rw [e]
        rfl
      simp only [calls, hT] at ec
      have hpl : ds.length = r.df.ps := hl
      rw [if_pos hpl] at ec
      have hpN : r.ps.length ≤ r.N.length := by
        have := congrArg List.length D.sc.pre
        rw [List.length_take] at this
        omega
      have rs : RS ⟨K, mg, ρ, h.length, H⟩ (L2.start r.N vs) (ds.map some ++ List.replicate (r.df.ns - r.df.ps) none) := by
        have hv : vs.length = ds.length := rl.length
        refine ⟨?_, fun i d q => ?_⟩
        · unfold L2.start
          rw [List.length_append, List.length_append, List.length_map, List.length_map, List.length_replicate, List.length_replicate, hv]
          show ds.length + (r.N.length - ds.length) = ds.length + (r.N.length - r.ps.length)
          rw [hl]
        · by_cases c : i < ds.length
          · rw [List.getElem?_append_left (by rw [List.length_map]; exact c), List.getElem?_map] at q
            cases z : ds[i]? with
            | none => rw [z] at q; cases q
            | some d' =>
              rw [z] at q
              cases q
              obtain ⟨v, ev, rv⟩ := rl.get i z
              refine ⟨v, ?_, rv⟩
              unfold L2.start
              rw [List.getElem?_append_left (by rw [List.length_map, hv]; exact c), List.getElem?_map, ev]
              rfl
          · rw [List.getElem?_append_right (by rw [List.length_map]; omega), List.getElem?_replicate] at q
            split at q <;> cases q
      generalize hb : evB G.glob (calls G.glob t.T k) r.df.body (ds.map some ++ List.replicate (r.df.ns - r.df.ps) none) h = rb at ec
      match rb, ec with
      | some (.nx S', h'), ec =>
        cases ec
        exact ⟨ρ, _, h, _, ⟨p, rs⟩, hb, fun ρ' H' g p' σ' s' => fin ρ' H' .non g p' (.held .non)⟩
      | some (.rt d, h'), ec =>
        cases ec
        exact ⟨ρ, _, h, _, ⟨p, rs⟩, hb, fun ρ' H' g p' v rv => fin ρ' H' v g p' rv⟩
      | some (.xx C fs S', h'), ec =>
        cases ec
        exact ⟨ρ, _, h, _, ⟨p, rs⟩, hb, fun ρ' H' g p' σ' cls dx s' rx => fin ρ' H' cls dx g p' rx⟩
      | some (.bk _, _), ec => cases ec
      | some (.ct _, _), ec => cases ec
      | none, ec => cases ec
/-- what a law promises -/
def spLaw (K : PySem.W.Frag) : Sp := fun vs H Q _ => ∃ (a : Addr) (ns : List Int), vs = [.ref a] ∧ Only H ∧ SqL K H a (ns.map V.int) ∧ ns.length ≤ 63 ∧ ∀ H', Q (.bl true) H'
theorem law_ok (ok : TopOk w K mg G t) {k : Nat} {r : Row} {f : Addr} {fd : FuncData} {x : Str} (e : t.lookup x = some r) (F : Fun K r.nm r.qual r.st f fd) {p : Str} (hp : r.ps = [p])
    (run : ∀ ns : List Int, ns.length ≤ 63 → ∃ h', calls G.glob t.T k x [.frl (ns.map D.int)] [] = some (.ok (.bl true), h')) : FnOk P w K mg base (L2.CX P w) (2 * k + 1) f fd [p] (spLaw K) := by
  have h0 := fns_ok (P := P) (w := w) (base := base) ok k x r f fd e F
  rw [hp] at h0
  refine h0.imp fun vs H Q E q => ?_
  obtain ⟨a, ns, rfl, ho, hs, hl, hq⟩ := q
  obtain ⟨h', er⟩ := run ns hl
  have fz : FzL K H a (ns.map V.int) := by
    rcases hs with (hs | hs) | hs
    · rcases ho a with z | ⟨o, xs, z⟩
      · rw [hs] at z; cases z
      · rw [hs] at z; cases z
    · exact .inl hs
    · exact .inr hs
  refine ⟨fun _ => 0, [], [.frl (ns.map D.int)], _, ⟨rfl, fun i j hi => absurd hi (Nat.not_lt_zero i), fun i o q => by simp at q⟩, .cons (.frl fz (RL.of_map (fun a => .int a) ns)) .nil, rfl, er, fun ρ' H' v g p' rv => ?_⟩
  rw [rv.bl_inv]
  exact hq H'
end
/-- the end of a law's proof -/
theorem walk {l : PySem.W.OpenLaw} {q : Program} {loose : List Str} {XP : (Str → Option Value) → Heap → Prop} {YP : World → Heap → Prop} {d : DefRec} {K : Params → PySem.W.Frag} {G : Gs} {t : Tab} {k : Nat} {r : Row} {x p : Str}
    (hn : l.most = some 63) (hdf : d.params.defaults = []) (hd : d.name = x) (hr : Room (2 * k + 1) callerA)
    (hY : ∀ (w : World) (h : Heap), YP w h → (K w.params).In h) (e : t.lookup x = some r) (hp : r.ps = [p])
    (run : ∀ ns : List Int, ns.length ≤ 63 → ∃ h', calls G.glob t.T k x [.frl (ns.map D.int)] [] = some (.ok (.bl true), h'))
    (ok : ∀ (w : World) (mg : Str → Option Value) (h : Heap), (K w.params).In h → h.Ns mainGlobals mg → TopOk w (K w.params) mg G t ∧ ∃ f fd, mg x = some (.ref f) ∧ Fun (K w.params) r.nm r.qual r.st f fd ∧ ∀ (s : Shared) (u : Value), BindsTo s fd ⟨[u], []⟩ [(p, u)]) :
    PySem.W.WalkO q loose XP YP l.row.toRowW d [] (fun f vs => PySem.call f vs) := by
  refine L2.walk_of (n := 63) (k := 2 * k + 1) (x := p) (CX := fun w => L2.CX l.prog w) (sp := fun w => spLaw (K w.params)) hn (by decide) hdf hr hY (fun w mg fa h KX NG hm => ?_) (fun w H a ns hl ho hs => ⟨a, ns, rfl, ho, hs, hl, fun _ => rfl⟩) fun w H s e s' z => ?_
  · obtain ⟨T, f, fd, hm', F, hb⟩ := ok w mg h KX NG
    rw [hd, hm'] at hm
    cases hm
    exact ⟨fd, hb, fun base _ _ => law_ok T e F hp run⟩
  · obtain ⟨_, _, _, _, _, _, _, _, _, _, _, _, z⟩ := z
    exact z
end Z

/-! Z13: the top's facts put together -/
namespace Z
open PySem L2
inductive All {α : Type} (P : α → Prop) : List α → Prop
  | nil : All P []
  | cons {a : α} {l : List α} (h : P a) (t : All P l) : All P (a :: l)
theorem All.lookup {β : Type} {P : Str × β → Prop} : ∀ {l : List (Str × β)}, All P l → ∀ x r, l.lookup x = some r → P (x, r)
  | _, .nil, x, r, e => by cases e
  | (y, s) :: l, .cons h t, x, r, e => by
    rw [List.lookup_cons] at e
    split at e
    · rename_i q
      cases e
      rw [eq_of_beq q]
      exact h
    · exact All.lookup t x r e
theorem All.mem {α : Type} {P : α → Prop} : ∀ {l : List α}, All P l → ∀ x ∈ l, P x
  | _, .cons h t, x, m => (List.mem_cons.mp m).elim (fun e => e ▸ h) (All.mem t x)
theorem lk {β : Type} {x y : Str} {b : β} {l : List (Str × β)} (h : (x == y) = true) : ((y, b) :: l).lookup x = some b := by rw [List.lookup_cons, h]
theorem ln {β : Type} {x y : Str} {b c : β} {l : List (Str × β)} (h : (x == y) = false) (e : l.lookup x = some c) : ((y, b) :: l).lookup x = some c := by rw [List.lookup_cons, h, e]
theorem lkm {α β : Type} (f : α → β) (x : Str) : ∀ l : List (Str × α), (l.lookup x).map f = (l.map fun p => (p.1, f p.2)).lookup x
  | [] => rfl
  | (y, a) :: l => by
    rw [List.map_cons, List.lookup_cons, List.lookup_cons]
    cases x == y with
    | true => rfl
    | false => exact lkm f x l
theorem Tab.T_eq (t : Tab) {l : List (Str × Df)} (h : (t.map fun p => (p.1, p.2.df)) = l) : t.T = fun x => l.lookup x := funext fun x => by
  unfold Tab.T
  rw [lkm, h]
theorem look_of {β : Type} {x : Str} {r : β} : ∀ {t : List (Str × β)} (i : Nat), (t.map (·.1)).Nodup → t[i]? = some (x, r) → t.lookup x = some r
  | [], i, _, m => by simp at m
  | (y, s) :: t, 0, _, m => by
    have m' : (y, s) = (x, r) := by simpa using m
    cases m'
    rw [List.lookup_cons, beq_self_eq_true]
  | (y, s) :: t, i + 1, nd, m => by
    have m' : t[i]? = some (x, r) := by simpa using m
    rw [List.map_cons, List.nodup_cons] at nd
    have hx : x ∈ t.map (·.1) := List.mem_map.mpr ⟨(x, r), List.mem_of_getElem? m', rfl⟩
    have ne : (x == y) = false := beq_eq_false_iff_ne.mpr fun e => nd.1 (e ▸ hx)
    rw [List.lookup_cons, ne]
    exact look_of i nd.2 m'
section
variable {K : PySem.W.Frag} {mg : Str → Option Value} {G : Gs} {t : Tab} {h : Heap}
theorem defs_of (a : All (fun p : Str × Row => DefOk G p.2) t) : ∀ x r, t.lookup x = some r → DefOk G r := a.lookup
theorem globs_of (a : All (fun p : Str × D => ∃ u v, mg p.1 = some u ∧ RelV v u ∧ ∀ ρ n H, R ⟨K, mg, ρ, n, H⟩ v p.2) G.glob) : ∀ x d, G.glob.lookup x = some d → ∃ u v, mg x = some u ∧ RelV v u ∧ ∀ ρ n H, R ⟨K, mg, ρ, n, H⟩ v d := a.lookup
theorem blts_of (a : All (fun x : Str => mg x = none) G.blt) : ∀ x ∈ G.blt, mg x = none := a.mem
def FnF (K : PySem.W.Frag) (mg : Str → Option Value) (t : Tab) (p : Str × Nat) : Prop := ∃ (r : Row) (f : Addr) (fd : FuncData), t.lookup p.1 = some r ∧ r.ps.length = p.2 ∧ Fun K r.nm r.qual r.st f fd ∧ mg p.1 = some (.ref f) ∧ Binds K fd r.ps []
theorem fns_of (a : All (FnF K mg t) G.fns) : ∀ x n, G.fns.lookup x = some n → FnF K mg t (x, n) := a.lookup
def NoF (K : PySem.W.Frag) (mg : Str → Option Value) (p : Str × Str) : Prop := ∀ Ca, mg p.1 = some (.ref Ca) → Cls K Ca ∧ NoAttr K Ca p.2
theorem noat_of (a : All (NoF K mg) G.noat) : ∀ C f, (C, f) ∈ G.noat → ∀ Ca, mg C = some (.ref Ca) → Cls K Ca ∧ NoAttr K Ca f := fun C f m => a.mem (C, f) m
def MetF (K : PySem.W.Frag) (mg : Str → Option Value) (t : Tab) (p : Str × Str × Str × Nat) : Prop := ∃ (Ca f : Addr) (r : Row) (fd : FuncData), mg p.1 = some (.ref Ca) ∧ Cls K Ca ∧ Meth K Ca p.2.1 f ∧ t.lookup p.2.2.1 = some r ∧ r.ps.length = p.2.2.2 ∧ Fun K r.nm r.qual r.st f fd ∧ Binds K fd r.ps []
theorem mets_of (a : All (MetF K mg t) G.mets) : ∀ C m q n, (C, m, q, n) ∈ G.mets → MetF K mg t (C, m, q, n) := fun C m q n h => a.mem (C, m, q, n) h
def MkF (K : PySem.W.Frag) (mg : Str → Option Value) (t : Tab) (p : Str × Str × Nat) : Prop := ∃ (Ca f : Addr) (r : Row) (fd : FuncData), mg p.1 = some (.ref Ca) ∧ Mk K Ca f ∧ t.lookup p.2.1 = some r ∧ r.ps.length = p.2.2 ∧ Fun K r.nm r.qual r.st f fd ∧ Binds K fd r.ps []
theorem mks_of (a : All (MkF K mg t) G.mks) : ∀ C q n, (C, q, n) ∈ G.mks → MkF K mg t (C, q, n) := fun C q n h => a.mem (C, q, n) h
section
variable {x : Str} {r : Row} {f : Addr} {oc : Value} {od an : Option Addr} {osl : Array (Option Value)} {kV doc pm cdv ct : Value}
theorem fn_mk (X : K.In h) (NG : h.Ns mainGlobals mg) (e : t.lookup x = some r) (a : PySem.W.nsIn K mainGlobals x = some (some (.ref f)))
    (l : K.lookup f = some ⟨oc, od, .func (PySem.W.fnOf r.nm r.qual (defArgs r.st) (defBody r.st) (defScope r.st) .none kV doc pm an cdv ct), osl⟩) (c : PySem.W.codeIn K cdv r.qual = true) (k : PySem.W.keepIn K (.ref f) = true)
    (b : ∀ (kV doc pm : Value) (an : Option Addr) (cdv ct : Value) (us : List Value), us.length = r.ps.length → bindArgs (PySem.W.fnOf r.nm r.qual (defArgs r.st) (defBody r.st) (defScope r.st) .none kV doc pm an cdv ct) ⟨us, []⟩ = pure (r.ps.zip us)) : FnF K mg t (x, r.ps.length) :=
  ⟨r, f, _, e, rfl, fun_mk (st := r.st) l c k, PySem.W.mg_of X NG a, (fun_mk (st := r.st) l c k).binds b⟩
theorem no_mk {C fl : Str} {Ca : Addr} (X : K.In h) (NG : h.Ns mainGlobals mg) (a : PySem.W.nsIn K mainGlobals C = some (some (.ref Ca))) (cl : Cls K Ca) (n : PySem.W.findIn K (.ref Ca) fl = some none) : NoF K mg (C, fl) := fun Cb e => by
  have e' : mg C = some (.ref Cb) := e
  have := (PySem.W.mg_of X NG a).symm.trans e'
  cases this
  exact ⟨cl, n⟩
theorem met_mk {C q m : Str} {Ca : Addr} (X : K.In h) (NG : h.Ns mainGlobals mg) (e : t.lookup q = some r) (aC : PySem.W.nsIn K mainGlobals C = some (some (.ref Ca))) (cl : Cls K Ca) (a : PySem.W.findIn K (.ref Ca) m = some (some (.ref f))) (i : PySem.W.isFn K (.ref f) = true)
    (l : K.lookup f = some ⟨oc, od, .func (PySem.W.fnOf r.nm r.qual (defArgs r.st) (defBody r.st) (defScope r.st) .none kV doc pm an cdv ct), osl⟩) (c : PySem.W.codeIn K cdv r.qual = true) (k : PySem.W.keepIn K (.ref f) = true)
    (b : ∀ (kV doc pm : Value) (an : Option Addr) (cdv ct : Value) (us : List Value), us.length = r.ps.length → bindArgs (PySem.W.fnOf r.nm r.qual (defArgs r.st) (defBody r.st) (defScope r.st) .none kV doc pm an cdv ct) ⟨us, []⟩ = pure (r.ps.zip us)) : MetF K mg t (C, m, q, r.ps.length) :=
  ⟨Ca, f, r, _, PySem.W.mg_of X NG aC, cl, ⟨a, i, k⟩, e, rfl, fun_mk (st := r.st) l c k, (fun_mk (st := r.st) l c k).binds b⟩
theorem mk_mk {C q : Str} {Ca : Addr} (X : K.In h) (NG : h.Ns mainGlobals mg) (e : t.lookup q = some r) (aC : PySem.W.nsIn K mainGlobals C = some (some (.ref Ca))) (a : PySem.W.findIn K (.ref Ca) "__init__" = some (some (.ref f))) (i : PySem.W.isFn K (.ref f) = true) (mk : PySem.W.makesIn K Ca = true) (kc : PySem.W.keepIn K (.ref Ca) = true)
    (l : K.lookup f = some ⟨oc, od, .func (PySem.W.fnOf r.nm r.qual (defArgs r.st) (defBody r.st) (defScope r.st) .none kV doc pm an cdv ct), osl⟩) (c : PySem.W.codeIn K cdv r.qual = true) (k : PySem.W.keepIn K (.ref f) = true)
    (b : ∀ (kV doc pm : Value) (an : Option Addr) (cdv ct : Value) (us : List Value), us.length = r.ps.length → bindArgs (PySem.W.fnOf r.nm r.qual (defArgs r.st) (defBody r.st) (defScope r.st) .none kV doc pm an cdv ct) ⟨us, []⟩ = pure (r.ps.zip us)) : MkF K mg t (C, q, r.ps.length) :=
  ⟨Ca, f, r, _, PySem.W.mg_of X NG aC, ⟨mk, a, i, kc⟩, e, rfl, fun_mk (st := r.st) l c k, (fun_mk (st := r.st) l c k).binds b⟩
end
theorem isc_of (a : All (fun C : Str => ∃ Ca, mg C = some (.ref Ca) ∧ C8.InsC K Ca) G.isc) : ∀ C ∈ G.isc, ∃ Ca, mg C = some (.ref Ca) ∧ C8.InsC K Ca := fun C m => a.mem C m
theorem gdic_of {w : World} (a : All (fun p : Str × List (Str × Gv) => GdOk K w mg p.1 p.2) G.gdic) : ∀ x kvs, (x, kvs) ∈ G.gdic → GdOk K w mg x kvs := fun x kvs m => a.mem (x, kvs) m
/-- a dict of the top, written out -/
def LitD (P : Params) (mg : Str → Option Value) : List DictEntry → List (Str × Gv) → Prop
  | [], [] => True
  | e :: r, (k, g) :: s => ((∃ t, e.key = .str k t) ∧ e.hash = PyData.keyHash P k) ∧ GV mg (some e.val) (some g) ∧ LitD P mg r s
  | _, _ => False
theorem LitD.keys {P : Params} {mg : Str → Option Value} : ∀ {es : List DictEntry} {kvs : List (Str × Gv)}, LitD P mg es kvs → PySem.W.KeysLit P es
  | [], [], _ => True.intro
  | e :: r, (k, g) :: s, h => ⟨⟨k, h.1.1.choose, h.1.1.choose_spec, h.1.2⟩, LitD.keys h.2.2⟩
  | [], _ :: _, h => h.elim
  | _ :: _, [], h => h.elim
theorem LitD.find {P : Params} {mg : Str → Option Value} (z : Str) : ∀ {es : List DictEntry} {kvs : List (Str × Gv)}, LitD P mg es kvs →
    (es.any (·.refKey)) = false ∧ GV mg ((es.find? (·.key.isStr z)).map (·.val)) (kvs.lookup z)
  | [], [], _ => ⟨rfl, True.intro⟩
  | e :: r, (k, g) :: s, h => by
    obtain ⟨t, hk⟩ := h.1.1
    obtain ⟨i1, i2⟩ := LitD.find z h.2.2
    refine ⟨by rw [List.any_cons, i1]; simp [DictEntry.refKey, hk], ?_⟩
    rw [List.find?_cons, List.lookup_cons, hk]
    by_cases c : k = z
    · subst c
      have e1 : (Value.str k t).isStr k = true := by simp [Value.isStr]
      rw [e1, beq_self_eq_true]
      exact h.2.1
    · have e1 : (Value.str k t).isStr z = false := by simp [Value.isStr, c]
      have e2 : (z == k) = false := beq_eq_false_iff_ne.mpr (Ne.symm c)
      rw [e1, e2]
      exact i2
  | [], _ :: _, h => h.elim
  | _ :: _, [], h => h.elim
theorem gd_mk {w : World} {x : Str} {kvs : List (Str × Gv)} {d : Addr} {es : Array DictEntry} {n : Nat} (X : K.In h) (NG : h.Ns mainGlobals mg) (a : PySem.W.nsIn K mainGlobals x = some (some (.ref d)))
    (l : K.lookup d = some ⟨.type "dict", none, .dict es n, #[]⟩) (lo : (d == sysModules) = false) (v : LitD w.params mg es.toList kvs) : GdOk K w mg x kvs := by
  refine ⟨d, es, n, PySem.W.mg_of X NG a, ⟨l, v.keys, lo⟩, fun z => ?_⟩
  obtain ⟨h1, h2⟩ := v.find z
  unfold PySem.W.nsIn
  rw [l]
  dsimp only
  cases q : es.toList.find? (·.key.isStr z) with
  | some e =>
    rw [q] at h2
    exact ⟨_, rfl, h2⟩
  | none =>
    rw [q] at h2
    rw [h1]
    exact ⟨_, rfl, h2⟩
theorem glob_str {x y : Str} {tk : Tok} (X : K.In h) (NG : h.Ns mainGlobals mg) (a : PySem.W.nsIn K mainGlobals x = some (some (.str y tk))) : ∃ u v, mg x = some u ∧ RelV v u ∧ ∀ ρ n H, R ⟨K, mg, ρ, n, H⟩ v (.str y) :=
  ⟨_, .str y, PySem.W.mg_of X NG a, ⟨_, rfl⟩, fun _ _ _ => .str y⟩
theorem glob_int {x : Str} {y : Int} {tk : Tok} (X : K.In h) (NG : h.Ns mainGlobals mg) (a : PySem.W.nsIn K mainGlobals x = some (some (.int y tk))) : ∃ u v, mg x = some u ∧ RelV v u ∧ ∀ ρ n H, R ⟨K, mg, ρ, n, H⟩ v (.int y) :=
  ⟨_, .int y, PySem.W.mg_of X NG a, ⟨_, rfl⟩, fun _ _ _ => .int y⟩
theorem glob_tup {x : Str} {ys : List Str} {f : Addr} {od : Option Addr} {its : Array Value} {n : Nat} {sl : Array (Option Value)} (X : K.In h) (NG : h.Ns mainGlobals mg) (a : PySem.W.nsIn K mainGlobals x = some (some (.ref f)))
    (l : K.lookup f = some ⟨.type "tuple", od, .seq its n, sl⟩) (r : Vals (ys.map V.str) its.toList) (hs : ys.length ≤ 1000) : ∃ u v, mg x = some u ∧ RelV v u ∧ ∀ ρ n H, R ⟨K, mg, ρ, n, H⟩ v (.tup (ys.map D.str)) := by
  refine ⟨_, .ref f, PySem.W.mg_of X NG a, rfl, fun _ _ _ => .tup (.inr ⟨_, its, n, l, rfl, rfl, ?_, r⟩) (RL.of_map (fun a => .str a) ys)⟩
  have e := r.length
  rw [List.length_map] at e
  have : its.size ≤ 1000 := by
    rw [← Array.length_toList, ← e]
    exact hs
  exact Nat.le_trans this (by decide)
end
end Z

/-! Zg: the evaluator, used: what its parts come to, for any program -/
namespace Z
open PySem L2
def retOf : BM → M D
  | some (.nx _, h1) => some (.ok .non, h1)
  | some (.rt d, h1) => some (.ok d, h1)
  | some (.xx C fs _, h1) => some (.ex C fs, h1)
  | _ => none
section
variable {α β : Type} {a : α} {h h' : Hh} {S S' : Sl} {d : D} {b : Bool}
theorem bd_ok {k : α → Hh → M β} : bd (some (.ok a, h)) k = k a h := rfl
theorem bs_ok {k : α → Hh → BM} : bs (some (.ok a, h)) S k = k a h := rfl
theorem bq_nx {k : Sl → Hh → BM} : bq (some (.nx S, h)) k = k S h := rfl
theorem bq_rt {k : Sl → Hh → BM} : bq (some (.rt d, h)) k = some (.rt d, h) := rfl
theorem pu_ok : pu (some a) h = some (.ok a, h) := rfl
theorem re_nx : retOf (some (.nx S, h)) = some (.ok .non, h) := rfl
theorem re_rt : retOf (some (.rt d, h)) = some (.ok d, h) := rfl
theorem ma_bl : mat (.bl b) h = some (.ok (.bl b), h) := rfl
theorem ma_int {i : Int} : mat (.int i) h = some (.ok (.int i), h) := rfl
theorem ma_str {i : Str} : mat (.str i) h = some (.ok (.str i), h) := rfl
theorem ma_non : mat .non h = some (.ok .non, h) := rfl
theorem ma_ty {i : String} : mat (.ty i) h = some (.ok (.ty i), h) := rfl
theorem ma_ref {i : Nat} : mat (.ref i) h = some (.ok (.ref i), h) := rfl
theorem ma_tup {i : List D} : mat (.tup i) h = some (.ok (.tup i), h) := rfl
theorem ma_frl {i : List D} : mat (.frl i) h = some (.ok (.frl i), h) := rfl
theorem ma_lst {i : List D} : mat (.lst i) h = some (.ok (.ref h.length), h ++ [.lst i]) := rfl
theorem mat_ok {d : D} {h : Hh} (n : ∀ xs, d ≠ .lst xs) : mat d h = some (.ok d, h) := by
  cases d with
  | lst xs => exact absurd rfl (n xs)
  | _ => rfl
/-- nothing was made on the way -/
theorem fix_len {h2 : Hh} (e : h2.length = h.length) : fix h d h2 = some (.ok d, h2) := by
  have t : h2.take h.length = h2 := List.take_of_length_le (by omega)
  unfold fix
  split
  · rename_i m
    split
    · split
      · rw [t]
      · rfl
    · rename_i c
      rw [List.getElem?_eq_none (by omega)]
  · split
    · rw [t]
    · rfl
theorem fix_same : fix h d h = some (.ok d, h) := fix_len rfl
/-- .. or something was: it is kept or let go -/
theorem fix_more {h1 g : Hh} (e : h1.length = h.length) (n : ∀ m, d = .ref m → m < h.length) : ∃ g', fix h d (h1 ++ g) = some (.ok d, h1 ++ g') := by
  have t : (h1 ++ g).take h.length = h1 := by rw [← e]; exact List.take_left' rfl
  unfold fix
  split
  · rename_i m
    rw [if_pos (n m rfl), t]
    split
    · exact ⟨[], by rw [List.append_nil]⟩
    · exact ⟨g, rfl⟩
  · rw [t]
    split
    · exact ⟨[], by rw [List.append_nil]⟩
    · exact ⟨g, rfl⟩
/-- a list that was made is told -/
theorem fix_lst {h1 g : Hh} {m : Nat} {xs : List D} (e : h1.length = h.length) (hm : h.length ≤ m) (el : (h1 ++ g)[m]? = some (.lst xs)) :
    (fix h (.ref m) (h1 ++ g) = some (.ok (.lst xs), h1)) ∨ fix h (.ref m) (h1 ++ g) = some (.ok (.ref m), h1 ++ g) := by
  have t : (h1 ++ g).take h.length = h1 := by rw [← e]; exact List.take_left' rfl
  unfold fix
  simp only
  rw [if_neg (by omega), el, t]
  dsimp only
  split
  · exact .inl rfl
  · exact .inr rfl
theorem mat_lst {h1 g : Hh} {m : Nat} {xs : List D} (e : h1.length = h.length) (hm : h.length ≤ m) (el : (h1 ++ g)[m]? = some (.lst xs)) :
    ∃ n g', bd (fix h (.ref m) (h1 ++ g)) mat = some (.ok (.ref n), h1 ++ g') ∧ h.length ≤ n ∧ (h1 ++ g')[n]? = some (.lst xs) := by
  rcases fix_lst e hm el with q | q
  · refine ⟨h1.length, [.lst xs], by rw [q]; rfl, by omega, ?_⟩
    rw [List.getElem?_append_right (Nat.le_refl _), Nat.sub_self]
    rfl
  · exact ⟨m, g, by rw [q]; rfl, hm, el⟩
end
section
variable {G : List (Str × D)} {T : Str → Option Df}
theorem call_eq {x : Str} {f : Df} {k : Nat} {ds : List D} {h : Hh} (e : T x = some f) (l : ds.length = f.ps) : calls G T (k + 1) x ds h = retOf (evB G (calls G T k) f.body (ds.map some ++ List.replicate (f.ns - f.ps) none) h) := by
  simp only [calls, e, if_pos l]
  generalize evB G (calls G T k) f.body _ h = r
  match r with
  | none => rfl
  | some (.nx _, _) => rfl
  | some (.rt _, _) => rfl
  | some (.xx _ _ _, _) => rfl
  | some (.bk _, _) => rfl
  | some (.ct _, _) => rfl
end
section
variable {h : Hh} {b c : Bool} {i j : Int} {x y : Str} {ds : List D} {p q : D} {n : Nat}
theorem tr_bl : truD h (.bl b) = some b := rfl
theorem b_len : bltD h .len ds = lenD h ds := rfl
theorem b_isi : bltD h .isi ds = isinD h ds := rfl
theorem b_all : bltD h .all ds = overL (fun xs => (blsD xs).map fun ns => .bl (ns.all id)) h ds := rfl
theorem b_any : bltD h .any ds = overL (fun xs => (blsD xs).map fun ns => .bl (ns.any id)) h ds := rfl
theorem b_sum : bltD h .sum ds = overL (fun xs => (intsD xs).map fun ns => .int ns.sum) h ds := rfl
theorem b_str : bltD h .str ds = strD ds := rfl
theorem b_intI : bltD h .int [.int i] = some (.int i) := rfl
theorem b_intB : bltD h .int [.bl b] = some (.int (if b then 1 else 0)) := rfl
theorem b_tup : bltD h .tuple ds = tupD h ds := rfl
theorem b_lst : bltD h .list ds = listD h ds := rfl
theorem c_eq : cmpD h .Eq p q = (eqD h p q).map .bl := rfl
theorem c_ne : cmpD h .NotEq p q = (eqD h p q).map fun b => .bl (!b) := rfl
theorem c_in : cmpD h .In p q = (inD h p q).map .bl := rfl
theorem c_ni : cmpD h .NotIn p q = (inD h p q).map fun b => .bl (!b) := rfl
theorem c_lt : cmpD h .Lt (.int i) (.int j) = some (.bl (decide (i < j))) := rfl
theorem c_gt : cmpD h .Gt (.int i) (.int j) = some (.bl (decide (j < i))) := rfl
theorem c_le : cmpD h .LtE (.int i) (.int j) = some (.bl (decide (i ≤ j))) := rfl
theorem c_is : cmpD h .Is (.bl b) (.bl c) = some (.bl (decide (b = c))) := rfl
theorem c_isn : cmpD h .IsNot (.bl b) (.bl c) = some (.bl (!decide (b = c))) := rfl
theorem c_isN : cmpD h .Is .non .non = some (.bl true) := rfl
theorem c_isnN : cmpD h .IsNot .non .non = some (.bl false) := rfl
theorem c_isI : cmpD h .Is (.int i) .non = some (.bl false) := rfl
theorem c_isL : cmpD h .Is (.lst ds) .non = some (.bl false) := rfl
theorem c_isR : cmpD h .Is (.ref n) .non = some (.bl false) := rfl
theorem o_add : binD h .Add (.int i) (.int j) = some (.int (i + j)) := rfl
theorem o_sub : binD h .Sub (.int i) (.int j) = some (.int (i - j)) := rfl
theorem q_bl : eqD h (.bl b) (.bl c) = some (decide (b = c)) := rfl
theorem q_int : eqD h (.int i) (.int j) = some (decide (i = j)) := rfl
theorem q_str : eqD h (.str x) (.str y) = some (decide (x = y)) := rfl
theorem q_NN : eqD h .non .non = some true := rfl
theorem a_int : augD h .Add (.int i) (.int j) = some (.int (i + j)) := rfl
end
section
variable {h : Hh} {i j : Int} {x y : D} {xs ys : List D}
theorem o_mod : binD h .Mod (.int i) (.int j) = if 0 < j then some (.int (i % j)) else none := rfl
theorem o_div : binD h .FloorDiv (.int i) (.int j) = if 0 < j ∧ j < 1073741824 then some (.int (i / j)) else none := rfl
theorem o_mul (c : -(2 ^ 64) < j ∧ j < 2 ^ 64) : binD h .Mult (.int i) (.int j) = some (.int (i * j)) := if_pos (.inl (.inr c))
theorem o_mulL (c : -(2 ^ 64) < i ∧ i < 2 ^ 64) : binD h .Mult (.int i) (.int j) = some (.int (i * j)) := if_pos (.inl (.inl c))
theorem o_mulW (c : i.natAbs < 2 ^ 250) (c' : j.natAbs < 2 ^ 250) : binD h .Mult (.int i) (.int j) = some (.int (i * j)) := if_pos (.inr ⟨c, c'⟩)
theorem o_strs {p q : Str} (c : p.length + q.length ≤ 1000000) : binD h .Add (.str p) (.str q) = some (.str (p ++ q)) := if_pos (Nat.le_trans c (by decide))
theorem o_lst (ex : mlD h x = some xs) (ey : mlD h y = some ys) (l : xs.length + ys.length ≤ 100000) : binD h .Add x y = some (.lst (xs ++ ys)) := by
  have l' : xs.length + ys.length ≤ sizeLine := Nat.le_trans l (by decide)
  have : binD h .Add x y = match mlD h x, mlD h y with
      | some xs, some ys => if xs.length + ys.length ≤ sizeLine then some (.lst (xs ++ ys)) else none
      | _, _ => none := by
    cases x with
    | lst _ => cases y <;> rfl
    | ref _ => cases y <;> rfl
    | _ => cases ex
  rw [this, ex, ey]
  exact if_pos l'
/-- a list, repeated -/
theorem o_rep {k : Nat} (ex : mlD h x = some xs) (l : xs.length * k ≤ 100000) (hk : k ≤ 100000) : binD h .Mult x (.int k) = some (.lst (List.replicate k xs).flatten) := by
  have : binD h .Mult x (.int k) = match mlD h x with
      | some xs => if -(2 ^ 63) ≤ (k : Int) ∧ (k : Int) < 2 ^ 63 ∧ xs.length * (k : Int).toNat ≤ sizeLine then some (.lst (List.replicate (k : Int).toNat xs).flatten) else none
      | none => none := by
    cases x with
    | lst _ => rfl
    | ref _ => rfl
    | _ => cases ex
  rw [this, ex, Int.toNat_natCast]
  exact if_pos ⟨by omega, by omega, Nat.le_trans l (by decide)⟩
theorem sz {n : Nat} (c : n ≤ 100000) : n ≤ sizeLine := Nat.le_trans c (by decide)
end
/-- an element of a comprehension -/
noncomputable def lcEl (G : List (Str × D)) (Φ : CallF) (elt : E) (tg : Tg) (c : EO) (own : List Nat) (S : Sl) : D → Hh → M (Option D) := fun x h => match bindT h tg x (wipeS S own) with
  | none => none
  | some S1 => match evC G Φ c S1 h with
    | some (.ok true, h2) => (bd (vv ((ev G Φ elt).v) S1 h2) fun d h3 => some (.ok (some d), h3))
    | some (.ok false, h2) => some (.ok none, h2)
    | _ => none
section
variable {G : List (Str × D)}
theorem ev_lc {Φ : CallF} {elt : E} {tg : Tg} {it : Z.It} {c : EO} {own : List Nat} {S : Sl} {h h1 h2 : Hh} {xs ys : List D} {st : List (Nat × List D)} (ei : evI G Φ it S h = some (.ok ⟨xs, st⟩, h1)) (l : xs.length ≤ sizeLine)
    (e : lcGo st (lcEl G Φ elt tg c own S) xs h1 = some (ys, h2)) : (ev G Φ (.lc elt tg it c own)).v S h = some (.ok (.lst ys), h2) := by
  simp only [ev, vt, ei, bd_ok, if_pos l]
  show (match lcGo st (lcEl G Φ elt tg c own S) xs h1 with | some (ys, h2) => some (Rs.ok (D.lst ys), h2) | none => none) = _
  rw [e]
theorem lcGo_map {st : List (Nat × List D)} {f : D → Hh → M (Option D)} {h : Hh} (g : D → Option D) (hs : stayB h st) : ∀ items : List D, (∀ x ∈ items, f x h = some (.ok (g x), h)) → lcGo st f items h = some (items.filterMap g, h)
  | [], _ => by simp [lcGo, hs]
  | x :: xs, e => by
    have ih := lcGo_map g hs xs (fun y m => e y (List.mem_cons_of_mem _ m))
    have e0 := e x (List.mem_cons_self ..)
    rw [lcGo]
    simp only [hs, if_true, e0, ih]
    cases q : g x with
    | none => simp [List.filterMap_cons, q]
    | some y => simp [List.filterMap_cons, q]
theorem ev_fo {Φ : CallF} {t : Tg} {it : Z.It} {b : SL} {S S' : Sl} {h h1 h' : Hh} {xs : List D} {st : List (Nat × List D)} (ei : evI G Φ it S h = some (.ok ⟨xs, st⟩, h1)) (e : foGo st t (evB G Φ b) xs S h1 = some (.nx S', h')) : evS G Φ (.fo t it b) S h = some (.nx S', h') := by
  simp only [evS, ei, bs_ok]
  exact e
theorem foGo_inv {st : List (Nat × List D)} {t : Tg} {b : Sl → Hh → BM} (P : Nat → Sl → Hh → Prop) (hst : ∀ i S h, P i S h → stayB h st) : ∀ (items : List D) (i : Nat) (S : Sl) (h : Hh), (∀ j x S h, items[j]? = some x → P (i + j) S h → ∃ S1 S2 h2, bindT h t x S = some S1 ∧ b S1 h = some (.nx S2, h2) ∧ P (i + j + 1) S2 h2) → P i S h →
    ∃ S' h', foGo st t b items S h = some (.nx S', h') ∧ P (i + items.length) S' h'
  | [], i, S, h, _, p => ⟨S, h, by simp [foGo, hst i S h p], p⟩
  | x :: xs, i, S, h, e, p => by
    obtain ⟨S1, S2, h2, e1, e2, p2⟩ := e 0 x S h rfl p
    obtain ⟨S', h', e3, p3⟩ := foGo_inv P hst xs (i + 1) S2 h2 (fun j y S h hj hp => by
      have := e (j + 1) y S h (by simpa using hj) (by rw [show i + (j + 1) = i + 1 + j by omega]; exact hp)
      rw [show i + (j + 1) + 1 = i + 1 + j + 1 by omega] at this
      exact this) p2
    refine ⟨S', h', ?_, by rw [List.length_cons, show i + (xs.length + 1) = i + 1 + xs.length by omega]; exact p3⟩
    rw [foGo]
    simp only [hst i S h p, if_true, e1, e2]
    exact e3
theorem wh_go {c : TF} {b : Sl → Hh → BM} {S S2 : Sl} {h h1 h2 : Hh} {N : Nat} (ec : c S h = some (.ok true, h1)) (eb : b S h1 = some (.nx S2, h2)) : whGo c b (N + 1) S h = whGo c b N S2 h2 := by
  simp only [whGo, ec, bs_ok, if_true, eb]
theorem wh_no {c : TF} {b : Sl → Hh → BM} {S : Sl} {h h1 : Hh} {N : Nat} (ec : c S h = some (.ok false, h1)) : whGo c b (N + 1) S h = some (.nx S, h1) := by
  simp only [whGo, ec, bs_ok, Bool.false_eq_true, if_false]
end
/-! texts -/
def Asc (s : Str) : Prop := ∀ c ∈ s.cps.toList, c < 128
theorem len_ok {s : Str} (l : s.length ≤ 1000) : s.length ≤ sizeLine := Nat.le_trans l (by decide)
theorem lenD_str {h : Hh} {s : Str} (l : s.length ≤ 1000) : lenD h [.str s] = some (.int s.length) := if_pos (len_ok l)
theorem lenD_ref {h : Hh} {n : Nat} {xs : List D} (e : h[n]? = some (.lst xs)) : lenD h [.ref n] = some (.int xs.length) := by
  show (sqD h (.ref n)).map (fun xs => D.int xs.length) = _
  simp only [sqD, lsD, e, Option.map_some]
theorem toPyL_strs {h : Hh} : ∀ (xs : List Str) (k : Nat), xs.length ≤ k → toPyL h k (xs.map D.str) = some (xs.map PyData.str)
  | [], k, _ => by cases k <;> simp [toPyL]
  | x :: xs, 0, l => by simp at l
  | x :: xs, k + 1, l => by
    have l' : xs.length ≤ k := by simpa using l
    rw [List.map_cons, toPyL, toPyL_strs xs k l']
    have : toPy h k (.str x) = some (.str x) := by cases k <;> simp [toPy]
    rw [this]
    rfl
theorem strsD_map : ∀ l : List Str, strsD (l.map D.str) = some l
  | [] => rfl
  | a :: l => by
    rw [List.map_cons, strsD, strsD_map l]
    rfl
theorem blsD_map {α : Type} (p : α → Bool) : ∀ l : List α, blsD (l.map fun a => D.bl (p a)) = some (l.map p)
  | [] => rfl
  | a :: l => by
    rw [List.map_cons, blsD, blsD_map p l]
    rfl
theorem flL_strs : ∀ l : List Str, flL (l.map D.str) = some (l.map V.str)
  | [] => rfl
  | a :: l => by
    rw [List.map_cons, flL, flL_strs l]
    rfl
theorem inV_strs (x : Str) : ∀ l : List Str, inV (.str x) (l.map V.str) = decide (x ∈ l)
  | [] => rfl
  | a :: l => by
    have ih := inV_strs x l
    unfold inV at ih ⊢
    rw [List.map_cons, List.any_cons, ih, Bool.eq_iff_iff]
    simp [eqV]
    constructor
    · rintro (q | q)
      · exact .inl q.symm
      · exact .inr q
    · rintro (q | q)
      · exact .inl q.symm
      · exact .inr q
theorem flatL_strs (l : List Str) : (l.map V.str).all flatV = true := by
  induction l with
  | nil => rfl
  | cons a l ih => rw [List.map_cons, List.all_cons, ih]; rfl
theorem inD_strs {h : Hh} {x : Str} {d : D} {l : List Str} (e : sqD h d = some (l.map D.str)) : inD h (.str x) d = some (decide (x ∈ l)) := by
  have ns : ∀ y, d ≠ .str y := fun y q => by subst q; cases e
  have : inD h (.str x) d = match sqD h d with
    | none => none
    | some ys => match flD (.str x), flL ys with
      | some v, some vs => if flatV v = true ∧ vs.all flatV = true then some (inV v vs) else none
      | _, _ => match lsD h d with
        | none => none
        | some _ => match toPy h 100000 (.str x), toPyL h 100000 ys with
          | some a, some bs => if SeqAt.shaped a = true ∧ SeqAt.shaped (.list bs) = true then some (bs.any fun z => PyData.eqv z a) else none
          | _, _ => none := by
    cases d with
    | str y => exact absurd rfl (ns y)
    | _ => rfl
  rw [this, e]
  simp only [flL_strs, flD, flatL_strs, flatV, and_self, if_true, inV_strs]
def low (c : Nat) : Bool := decide (97 ≤ c) && decide (c ≤ 122)
def wordB (s : Str) : Bool := decide (1 ≤ s.length) && decide (s.length ≤ 8) && s.cps.toList.all low
theorem lt_one (a b : Nat) : ([a] < [b]) ↔ a < b := by
  rw [List.cons_lt_cons_iff]
  simp
theorem nlt_one (a b : Nat) : (!decide ([a] < [b])) = decide (b ≤ a) := by
  rw [Bool.eq_iff_iff, Bool.not_eq_true', decide_eq_false_iff_not, lt_one, decide_eq_true_eq]
  omega
theorem a_le {h : Hh} (c : Nat) : cmpD h .LtE (.str "a") (.str ⟨#[c]⟩) = some (.bl (decide (97 ≤ c))) := by
  have : (("a" : Str)).cps.toList = [97] := by decide +kernel
  rw [← nlt_one c 97]
  simp only [cmpD, this]
theorem le_z {h : Hh} (c : Nat) : cmpD h .LtE (.str ⟨#[c]⟩) (.str "z") = some (.bl (decide (c ≤ 122))) := by
  have : (("z" : Str)).cps.toList = [122] := by decide +kernel
  rw [← nlt_one 122 c]
  simp only [cmpD, this]
theorem strItems_len {s : Str} : (strItems s).length = s.length := by simp [strItems, Str.length]
theorem filterMap_sm {α β : Type} (g : α → β) : ∀ l : List α, l.filterMap (fun a => some (g a)) = l.map g := fun l => by
  induction l with
  | nil => rfl
  | cons a l ih => simp
theorem len_l (s : Str) : s.length = s.cps.toList.length := by simp [Str.length]
def sp : Str := " "
theorem sp_l : sp.cps.toList = [32] := by decide +kernel
theorem split_join {ws : List Str} (hne : ws ≠ []) (h : ∀ w ∈ ws, 32 ∉ w.cps.toList) : Txt.split (Txt.join sp ws) sp = ws :=
  TL.split_join (s := 32) (S := []) sp_l (by decide +kernel) hne h
theorem join_len (y : Str) (ws : List Str) : (Txt.join y ws).length ≤ (ws.map (·.length)).sum + ws.length * y.length := by
  rw [TL.join_eq]
  exact StrLaws.join_length_le y ws
end Z

/-! Zi: one lemma for each form of a term; a body is proved by naming them in its order -/
namespace Z
open PySem L2
section
variable {Gl : List (Str × D)} {Φ : CallF} {S : Sl} {h h1 h2 h3 h4 : Hh} {x y z d : D} {ds : List D} {a b c e : E} {es : EL}
theorem i_bin {op : Operator} (ea : (ev Gl Φ a).v S h = some (.ok x, h1)) (eb : (ev Gl Φ b).v S h1 = some (.ok y, h2)) (e : binD h2 op x y = some d) : (ev Gl Φ (.bin op a b)).v S h = some (.ok d, h2) := by
  rw [ev]
  show bd ((ev Gl Φ a).v S h) _ = _
  rw [ea]
  show bd ((ev Gl Φ b).v S h1) _ = _
  rw [eb]
  show pu (binD h2 op x y) h2 = _
  rw [e]
  rfl
theorem i_neg (ea : (ev Gl Φ a).v S h = some (.ok x, h1)) (e : negD x = some d) : (ev Gl Φ (.neg a)).v S h = some (.ok d, h1) := by
  rw [ev]
  show bd ((ev Gl Φ a).v S h) _ = _
  rw [ea]
  show pu (negD x) h1 = _
  rw [e]
  rfl
theorem i_cmp {op : CmpOp} (ea : (ev Gl Φ a).v S h = some (.ok x, h1)) (eb : (ev Gl Φ b).v S h1 = some (.ok y, h2)) (e : cmpD h2 op x y = some d) : (ev Gl Φ (.cmp op a b)).v S h = some (.ok d, h2) := by
  rw [ev]
  show bd ((ev Gl Φ a).v S h) _ = _
  rw [ea]
  show bd ((ev Gl Φ b).v S h1) _ = _
  rw [eb]
  show pu (cmpD h2 op x y) h2 = _
  rw [e]
  rfl
theorem t_cmp {op : CmpOp} {k : Bool} (ea : (ev Gl Φ a).v S h = some (.ok x, h1)) (eb : (ev Gl Φ b).v S h1 = some (.ok y, h2)) (e : cmpD h2 op x y = some (.bl k)) : (ev Gl Φ (.cmp op a b)).t S h = some (.ok k, h2) := by
  rw [ev]
  show bd ((ev Gl Φ a).v S h) _ = _
  rw [ea]
  show bd ((ev Gl Φ b).v S h1) _ = _
  rw [eb]
  show (match cmpD h2 op x y with | some (.bl k) => some (Rs.ok k, h2) | _ => none) = _
  rw [e]
theorem i_ix (ea : (ev Gl Φ a).v S h = some (.ok x, h1)) (eb : (ev Gl Φ b).v S h1 = some (.ok y, h2)) (e : ixD h2 x y = some d) : (ev Gl Φ (.ix a b)).v S h = some (.ok d, h2) := by
  rw [ev]
  show bd ((ev Gl Φ a).v S h) _ = _
  rw [ea]
  show bd ((ev Gl Φ b).v S h1) _ = _
  rw [eb]
  show pu (ixD h2 x y) h2 = _
  rw [e]
  rfl
/-- d[k] of a dict -/
theorem i_kix (ea : (ev Gl Φ a).v S h = some (.ok x, h1)) (eb : (ev Gl Φ b).v S h1 = some (.ok y, h2)) (e : dgetD h2 x y = some (some d)) : (ev Gl Φ (.kix a b)).v S h = some (.ok d, h2) := by
  rw [ev]
  show bd ((ev Gl Φ a).v S h) _ = _
  rw [ea]
  show bd ((ev Gl Φ b).v S h1) _ = _
  rw [eb]
  show (match dgetD h2 x y with | some (some d) => some (Rs.ok d, h2) | some none => none | none => pu (ixD h2 x y) h2) = _
  rw [e]
/-- k in d, k not in d, of a dict -/
theorem i_kin {neg : Bool} {o : Option D} (ea : (ev Gl Φ a).v S h = some (.ok x, h1)) (eb : (ev Gl Φ b).v S h1 = some (.ok y, h2)) (e : dgetD h2 y x = some o) : (ev Gl Φ (.kin neg a b)).v S h = some (.ok (.bl (if neg = true then !o.isSome else o.isSome)), h2) := by
  rw [ev]
  show bd ((ev Gl Φ a).v S h) _ = _
  rw [ea]
  show bd ((ev Gl Φ b).v S h1) _ = _
  rw [eb]
  show (match dgetD h2 y x with | some o => some (Rs.ok (D.bl (if neg = true then !o.isSome else o.isSome)), h2) | none => pu (cmpD h2 (if neg = true then .NotIn else .In) x y) h2) = _
  rw [e]
theorem t_kin {neg : Bool} {o : Option D} (ea : (ev Gl Φ a).v S h = some (.ok x, h1)) (eb : (ev Gl Φ b).v S h1 = some (.ok y, h2)) (e : dgetD h2 y x = some o) : (ev Gl Φ (.kin neg a b)).t S h = some (.ok (if neg = true then !o.isSome else o.isSome), h2) := by
  rw [ev]
  show bd ((ev Gl Φ a).v S h) _ = _
  rw [ea]
  show bd ((ev Gl Φ b).v S h1) _ = _
  rw [eb]
  show (match dgetD h2 y x with | some o => some (Rs.ok (if neg = true then !o.isSome else o.isSome), h2) | none => (match cmpD h2 (if neg = true then .NotIn else .In) x y with | some (.bl k) => some (Rs.ok k, h2) | _ => none)) = _
  rw [e]
theorem t_kinL {neg : Bool} {k : Bool} (ea : (ev Gl Φ a).v S h = some (.ok x, h1)) (eb : (ev Gl Φ b).v S h1 = some (.ok y, h2)) (n : dgetD h2 y x = none) (e : cmpD h2 (if neg = true then .NotIn else .In) x y = some (.bl k)) : (ev Gl Φ (.kin neg a b)).t S h = some (.ok k, h2) := by
  rw [ev]
  show bd ((ev Gl Φ a).v S h) _ = _
  rw [ea]
  show bd ((ev Gl Φ b).v S h1) _ = _
  rw [eb]
  show (match dgetD h2 y x with | some o => some (Rs.ok (if neg = true then !o.isSome else o.isSome), h2) | none => (match cmpD h2 (if neg = true then .NotIn else .In) x y with | some (.bl k) => some (Rs.ok k, h2) | _ => none)) = _
  rw [n]
  show (match cmpD h2 (if neg = true then .NotIn else .In) x y with | some (.bl k) => some (Rs.ok k, h2) | _ => none) = _
  rw [e]
theorem i_kget1 {kvs : List (Key × D)} {o : Option D} (ea : (ev Gl Φ a).v S h = some (.ok x, h1)) (ed : dicD h1 x = some kvs) (eb : (ev Gl Φ b).v S h1 = some (.ok y, h2)) (e : dgetD h2 x y = some o) : (ev Gl Φ (.kget1 a b)).v S h = some (.ok (o.getD .non), h2) := by
  rw [ev]
  show bd ((ev Gl Φ a).v S h) _ = _
  rw [ea]
  show (match dicD h1 x with | some _ => bd ((ev Gl Φ b).v S h1) (fun y h2 => match dgetD h2 x y with | some o => some (Rs.ok (o.getD .non), h2) | none => none) | none => none) = _
  rw [ed]
  show bd ((ev Gl Φ b).v S h1) _ = _
  rw [eb]
  show (match dgetD h2 x y with | some o => some (Rs.ok (o.getD .non), h2) | none => none) = _
  rw [e]
theorem i_kget2 {kvs : List (Key × D)} {o : Option D} (ea : (ev Gl Φ a).v S h = some (.ok x, h1)) (ed : dicD h1 x = some kvs) (eb : (ev Gl Φ b).v S h1 = some (.ok y, h2)) (ec : (ev Gl Φ c).v S h2 = some (.ok z, h3)) (nl : ∀ xs, z ≠ .lst xs) (e : dgetD h3 x y = some o) :
    (ev Gl Φ (.kget2 a b c)).v S h = some (.ok (o.getD z), h3) := by
  rw [ev]
  show bd ((ev Gl Φ a).v S h) _ = _
  rw [ea]
  show (match dicD h1 x with | some _ => bd ((ev Gl Φ b).v S h1) (fun y h2 => bd (vv ((ev Gl Φ c).v) S h2) fun z h3 => match dgetD h3 x y with | some o => some (Rs.ok (o.getD z), h3) | none => none) | none => none) = _
  rw [ed]
  show bd ((ev Gl Φ b).v S h1) _ = _
  rw [eb]
  show bd (bd ((ev Gl Φ c).v S h2) mat) _ = _
  rw [ec]
  show bd (mat z h3) _ = _
  rw [mat_ok nl]
  show (match dgetD h3 x y with | some o => some (Rs.ok (o.getD z), h3) | none => none) = _
  rw [e]
theorem i_kcp {kvs : List (Key × D)} (ea : (ev Gl Φ a).v S h = some (.ok x, h1)) (ed : dicD h1 x = some kvs) : (ev Gl Φ (.kcp a)).v S h = some (.ok (.ref h1.length), h1 ++ [.dic kvs]) := by
  rw [ev]
  show bd ((ev Gl Φ a).v S h) _ = _
  rw [ea]
  show (match dicD h1 x with | some kvs => some (Rs.ok (D.ref h1.length), h1 ++ [O.dic kvs]) | none => none) = _
  rw [ed]
theorem i_kls {kvs : List (Key × D)} (ea : (ev Gl Φ a).v S h = some (.ok x, h1)) (ed : dicD h1 x = some kvs) : (ev Gl Φ (.kls a)).v S h = some (.ok (.lst (kvs.map fun kv => kD kv.1)), h1) := by
  rw [ev]
  show bd ((ev Gl Φ a).v S h) _ = _
  rw [ea]
  show (match dicD h1 x with | some kvs => some (Rs.ok (D.lst (kvs.map fun (kv : Key × D) => kD kv.1)), h1) | none => none) = _
  rw [ed]
theorem i_ktv {kvs : List (Key × D)} (ea : (ev Gl Φ a).v S h = some (.ok x, h1)) (ed : dicD h1 x = some kvs) : (ev Gl Φ (.ktv a)).v S h = some (.ok (.tup (kvs.map (·.2))), h1) := by
  rw [ev]
  show bd ((ev Gl Φ a).v S h) _ = _
  rw [ea]
  show (match dicD h1 x with | some kvs => some (Rs.ok (D.tup (kvs.map (fun (kv : Key × D) => kv.2))), h1) | none => none) = _
  rw [ed]
theorem i_kpr {xs : List D} {ps : List (Key × D)} (ea : (ev Gl Φ a).v S h = some (.ok x, h1)) (el : lsD h1 x = some xs) (ep : pairsD xs = some ps) : (ev Gl Φ (.kpr a)).v S h = some (.ok (.ref h1.length), h1 ++ [.dic (mergeKD [] ps)]) := by
  rw [ev]
  show bd ((ev Gl Φ a).v S h) _ = _
  rw [ea]
  show (match lsD h1 x with | some xs => (match pairsD xs with | some ps => some (Rs.ok (D.ref h1.length), h1 ++ [O.dic (mergeKD [] ps)]) | none => none) | none => none) = _
  rw [el]
  show (match pairsD xs with | some ps => some (Rs.ok (D.ref h1.length), h1 ++ [O.dic (mergeKD [] ps)]) | none => none) = _
  rw [ep]
theorem i_kdis {ks : List Str} (ea : evA Gl Φ es S h = some (.ok ds, h1)) : (ev Gl Φ (.kdis ks es)).v S h = some (.ok (.ref h1.length), h1 ++ [.dic (mergeKD [] ((ks.map Sum.inr).zip ds))]) := by
  rw [ev]
  show bd (evA Gl Φ es S h) _ = _
  rw [ea]
  rfl
theorem t_gin {neg : Bool} {q w : Str} {kvs : List (Str × Gv)} (ea : (ev Gl Φ a).v S h = some (.ok (.str w), h1)) : (ev Gl Φ (.gin neg a q kvs)).t S h = some (.ok (if neg = true then !(kvs.lookup w).isSome else (kvs.lookup w).isSome), h1) := by
  rw [ev]
  show bd ((ev Gl Φ a).v S h) _ = _
  rw [ea]
  rfl
theorem i_gin {neg : Bool} {q w : Str} {kvs : List (Str × Gv)} (ea : (ev Gl Φ a).v S h = some (.ok (.str w), h1)) : (ev Gl Φ (.gin neg a q kvs)).v S h = some (.ok (.bl (if neg = true then !(kvs.lookup w).isSome else (kvs.lookup w).isSome)), h1) := by
  rw [ev]
  show bd ((ev Gl Φ a).v S h) _ = _
  rw [ea]
  rfl
theorem i_gix {q w : Str} {kvs : List (Str × Gv)} {g : Gv} (ea : (ev Gl Φ b).v S h = some (.ok (.str w), h1)) (eg : kvs.lookup w = some g) : (ev Gl Φ (.gix q kvs b)).v S h = some (.ok g.d, h1) := by
  rw [ev]
  show bd ((ev Gl Φ b).v S h) _ = _
  rw [ea]
  show (match kvs.lookup w with | some g => some (Rs.ok g.d, h1) | none => none) = _
  rw [eg]
theorem i_cll {f : Str} (ea : evA Gl Φ es S h = some (.ok ds, h1)) (ec : Φ f ds h1 = some (.ok d, h2)) (ef : fix h d h2 = some (.ok x, h3)) : (ev Gl Φ (.call f es)).v S h = some (.ok x, h3) := by
  rw [ev]
  show bd (evA Gl Φ es S h) _ = _
  rw [ea]
  show bd (Φ f ds h1) _ = _
  rw [ec]
  exact ef
theorem i_lst (ea : evA Gl Φ es S h = some (.ok ds, h1)) (l : ds.length ≤ sizeLine) : (ev Gl Φ (.lst es)).v S h = some (.ok (.lst ds), h1) := by
  rw [ev]
  show bd (evA Gl Φ es S h) _ = _
  rw [ea]
  exact if_pos l
theorem i_tup (ea : evA Gl Φ es S h = some (.ok ds, h1)) (l : ds.length ≤ sizeLine) : (ev Gl Φ (.tup es)).v S h = some (.ok (.tup ds), h1) := by
  rw [ev]
  show bd (evA Gl Φ es S h) _ = _
  rw [ea]
  exact if_pos l
theorem iAn : evA Gl Φ .nil S h = some (.ok [], h) := by rw [evA.eq_1]
theorem iAc (ea : (ev Gl Φ e).v S h = some (.ok x, h1)) (n : ∀ xs, x ≠ .lst xs) (er : evA Gl Φ es S h1 = some (.ok ds, h2)) : evA Gl Φ (.cons false e es) S h = some (.ok (x :: ds), h2) := by
  rw [evA.eq_2]
  show bd (bd ((ev Gl Φ e).v S h) mat) _ = _
  rw [ea]
  show bd (mat x h1) _ = _
  rw [mat_ok n]
  show bd (evA Gl Φ es S h1) _ = _
  rw [er]
  rfl
/-- .. a new list, held -/
theorem iAl {xs : List D} (ea : (ev Gl Φ e).v S h = some (.ok (.lst xs), h1)) (er : evA Gl Φ es S (h1 ++ [.lst xs]) = some (.ok ds, h2)) : evA Gl Φ (.cons false e es) S h = some (.ok (.ref h1.length :: ds), h2) := by
  rw [evA.eq_2]
  show bd (bd ((ev Gl Φ e).v S h) mat) _ = _
  rw [ea]
  show bd (some (Rs.ok (D.ref h1.length), h1 ++ [O.lst xs])) _ = _
  show bd (evA Gl Φ es S (h1 ++ [.lst xs])) _ = _
  rw [er]
  rfl
/-- .. starred -/
theorem iAs {xs : List D} (ea : (ev Gl Φ e).v S h = some (.ok x, h1)) (es' : sqD h1 x = some xs) (er : evA Gl Φ es S h1 = some (.ok ds, h2)) : evA Gl Φ (.cons true e es) S h = some (.ok (xs ++ ds), h2) := by
  rw [evA.eq_3]
  show bd ((ev Gl Φ e).v S h) _ = _
  rw [ea]
  show (match sqD h1 x with | some xs => bd (evA Gl Φ es S h1) (fun ds h2 => some (Rs.ok (xs ++ ds), h2)) | none => none) = _
  rw [es']
  show bd (evA Gl Φ es S h1) _ = _
  rw [er]
  rfl
theorem i_v {i : Nat} (s : getS S i = some x) : (ev Gl Φ (.var i)).v S h = some (.ok x, h) := by
  rw [ev]
  show pu (getS S i) h = _
  rw [s]
  rfl
theorem i_g {q : Str} (s : Gl.lookup q = some x) : (ev Gl Φ (.glob q)).v S h = some (.ok x, h) := by
  rw [ev]
  show pu (Gl.lookup q) h = _
  rw [s]
  rfl
theorem i_s {x : Str} : (ev Gl Φ (.str x)).v S h = some (.ok (.str x), h) := by rw [ev]; rfl
theorem i_i {x : Int} : (ev Gl Φ (.int x)).v S h = some (.ok (.int x), h) := by rw [ev]; rfl
theorem i_b {x : Bool} : (ev Gl Φ (.bl x)).v S h = some (.ok (.bl x), h) := by rw [ev]; rfl
theorem i_n : (ev Gl Φ .non).v S h = some (.ok .non, h) := by rw [ev]; rfl
theorem i_bl1 {q : Bn} (ea : (ev Gl Φ a).v S h = some (.ok x, h1)) (e : bltD h1 q [x] = some d) : (ev Gl Φ (.bl1 q a)).v S h = some (.ok d, h1) := by
  rw [ev]
  show bd ((ev Gl Φ a).v S h) _ = _
  rw [ea]
  show pu (bltD h1 q [x]) h1 = _
  rw [e]
  rfl
/-- a field -/
theorem i_fld {f : Str} {cs : List Str} {n : Nat} {C : Str} {fs : List (Str × D)} (ea : (ev Gl Φ a).v S h = some (.ok (.ref n), h1)) (en : h1[n]? = some (.ins C fs)) (hC : C ∈ cs) (el : fs.lookup f = some d) : (ev Gl Φ (.fldc a f cs)).v S h = some (.ok d, h1) := by
  rw [ev]
  show bd ((ev Gl Φ a).v S h) _ = _
  rw [ea]
  show (match h1[n]? with | some (.ins C fs) => if C ∈ cs then pu (fs.lookup f) h1 else none | _ => none) = _
  rw [en]
  show (if C ∈ cs then pu (fs.lookup f) h1 else none) = _
  rw [if_pos hC, el]
  rfl
/-- an own method -/
theorem i_meth {C m q : Str} {n : Nat} {fs : List (Str × D)} (ea : (ev Gl Φ a).v S h = some (.ok (.ref n), h1)) (en : h1[n]? = some (.ins C fs)) (nf : fs.lookup m = none) (es' : evA Gl Φ es S h1 = some (.ok ds, h2)) (ec : Φ q (.ref n :: ds) h2 = some (.ok d, h3)) (ef : fix h d h3 = some (.ok x, h4)) :
    (ev Gl Φ (.omth a C m q es)).v S h = some (.ok x, h4) := by
  rw [ev]
  show bd ((ev Gl Φ a).v S h) _ = _
  rw [ea]
  show (match h1[n]? with
        | some (.ins B fs) => if B = C ∧ fs.lookup m = none then bd (evA Gl Φ es S h1) fun ds h2 => (match Φ q (.ref n :: ds) h2 with
          | some (.ok d, h3) => fix h d h3
          | _ => none) else none
        | _ => none) = _
  rw [en]
  show (if C = C ∧ fs.lookup m = none then bd (evA Gl Φ es S h1) (fun ds h2 => (match Φ q (.ref n :: ds) h2 with
          | some (.ok d, h3) => fix h d h3
          | _ => none)) else none) = _
  rw [if_pos ⟨rfl, nf⟩, es']
  show (match Φ q (.ref n :: ds) h2 with | some (.ok d, h3) => fix h d h3 | _ => none) = _
  rw [ec]
  exact ef
/-! tests -/
theorem t_and {k : Bool} (ea : (ev Gl Φ a).t S h = some (.ok true, h1)) (eb : (ev Gl Φ b).t S h1 = some (.ok k, h2)) : (ev Gl Φ (.and a b)).t S h = some (.ok k, h2) := by
  rw [ev]
  show bd ((ev Gl Φ a).t S h) _ = _
  rw [ea]
  exact eb
theorem t_and0 (ea : (ev Gl Φ a).t S h = some (.ok false, h1)) : (ev Gl Φ (.and a b)).t S h = some (.ok false, h1) := by
  rw [ev]
  show bd ((ev Gl Φ a).t S h) _ = _
  rw [ea]
  rfl
theorem t_or {k : Bool} (ea : (ev Gl Φ a).t S h = some (.ok false, h1)) (eb : (ev Gl Φ b).t S h1 = some (.ok k, h2)) : (ev Gl Φ (.or a b)).t S h = some (.ok k, h2) := by
  rw [ev]
  show bd ((ev Gl Φ a).t S h) _ = _
  rw [ea]
  exact eb
theorem t_or1 (ea : (ev Gl Φ a).t S h = some (.ok true, h1)) : (ev Gl Φ (.or a b)).t S h = some (.ok true, h1) := by
  rw [ev]
  show bd ((ev Gl Φ a).t S h) _ = _
  rw [ea]
  rfl
theorem t_not {k : Bool} (ea : (ev Gl Φ a).t S h = some (.ok k, h1)) : (ev Gl Φ (.not a)).t S h = some (.ok (!k), h1) := by
  rw [ev]
  show bd ((ev Gl Φ a).t S h) _ = _
  rw [ea]
  rfl
theorem i_ite1 (ec : (ev Gl Φ c).t S h = some (.ok true, h1)) (ea : (ev Gl Φ a).v S h1 = some (.ok x, h2)) : (ev Gl Φ (.ite c a b)).v S h = some (.ok x, h2) := by
  rw [ev]
  show bd ((ev Gl Φ c).t S h) _ = _
  rw [ec]
  exact ea
theorem i_ite0 (ec : (ev Gl Φ c).t S h = some (.ok false, h1)) (eb : (ev Gl Φ b).v S h1 = some (.ok x, h2)) : (ev Gl Φ (.ite c a b)).v S h = some (.ok x, h2) := by
  rw [ev]
  show bd ((ev Gl Φ c).t S h) _ = _
  rw [ec]
  exact eb
/-! statements -/
variable {l : SL} {S1 : Sl}
theorem s_ifn {A B : SL} {k : Bool} (t : (ev Gl Φ e).t S h = some (.ok k, h1)) : evB Gl Φ (.cons (.ife e A B) l) S h = bq (if k = true then evB Gl Φ A S h1 else evB Gl Φ B S h1) fun S1 h2 => evB Gl Φ l S1 h2 := by
  rw [evB, evS.eq_7]
  show bq (bs ((ev Gl Φ e).t S h) S _) _ = _
  rw [t]
  rfl
theorem s_if1 {A B : SL} (t : (ev Gl Φ e).t S h = some (.ok true, h1)) : evB Gl Φ (.cons (.ife e A B) l) S h = bq (evB Gl Φ A S h1) fun S1 h2 => evB Gl Φ l S1 h2 := s_ifn t
theorem s_if0 {A : SL} (t : (ev Gl Φ e).t S h = some (.ok false, h1)) : evB Gl Φ (.cons (.ife e A .nil) l) S h = evB Gl Φ l S h1 := by
  rw [s_ifn t]
  show bq (evB Gl Φ .nil S h1) _ = _
  rw [evB]
  rfl
theorem s_set {i : Nat} (t : (ev Gl Φ e).v S h = some (.ok d, h1)) (n : ∀ xs, d ≠ .lst xs) : evB Gl Φ (.cons (.set i e) l) S h = evB Gl Φ l (S.set i (some d)) h1 := by
  rw [evB, evS.eq_2]
  show bq (bs (bd ((ev Gl Φ e).v S h) mat) S _) _ = _
  rw [t]
  show bq (bs (mat d h1) S _) _ = _
  rw [mat_ok n]
  rfl
theorem s_setL {xs : List D} {i : Nat} (t : (ev Gl Φ e).v S h = some (.ok (.lst xs), h1)) : evB Gl Φ (.cons (.set i e) l) S h = evB Gl Φ l (S.set i (some (.ref h1.length))) (h1 ++ [.lst xs]) := by
  rw [evB, evS.eq_2]
  show bq (bs (bd ((ev Gl Φ e).v S h) mat) S _) _ = _
  rw [t]
  rfl
theorem s_ex (t : (ev Gl Φ e).v S h = some (.ok d, h1)) : evB Gl Φ (.cons (.ex e) l) S h = evB Gl Φ l S h1 := by
  rw [evB, evS.eq_1]
  show bq (bs ((ev Gl Φ e).v S h) S _) _ = _
  rw [t]
  rfl
theorem s_ret (t : (ev Gl Φ e).v S h = some (.ok d, h1)) : evB Gl Φ (.cons (.ret e) l) S h = some (.rt d, h1) := by
  rw [evB, evS.eq_5]
  show bq (bs ((ev Gl Φ e).v S h) S _) _ = _
  rw [t]
  rfl
theorem s_st {s : Z.S} (t : evS Gl Φ s S h = some (.nx S1, h1)) : evB Gl Φ (.cons s l) S h = evB Gl Φ l S1 h1 := by
  rw [evB]
  show bq (evS Gl Φ s S h) _ = _
  rw [t]
  rfl
/-- d[k] = v -/
theorem s_kput {n : Nat} {kvs : List (Key × D)} {k : Key} (ee : (ev Gl Φ e).v S h = some (.ok d, h1)) (nl : ∀ xs, d ≠ .lst xs) (ea : (ev Gl Φ a).v S h1 = some (.ok (.ref n), h2)) (eb : (ev Gl Φ b).v S h2 = some (.ok y, h3)) (en : h3[n]? = some (.dic kvs)) (ek : keyD y = some k) (hl : kvs.length < sizeLine) :
    evB Gl Φ (.cons (.kput a b e) l) S h = evB Gl Φ l S (h3.set n (.dic (putKD kvs k d))) := by
  rw [evB, evS]
  show bq (bs (bd ((ev Gl Φ e).v S h) mat) S _) _ = _
  rw [ee]
  show bq (bs (mat d h1) S _) _ = _
  rw [mat_ok nl]
  show bq (bs ((ev Gl Φ a).v S h1) S _) _ = _
  rw [ea]
  show bq (bs ((ev Gl Φ b).v S h2) S _) _ = _
  rw [eb]
  show bq (match h3[n]? with
        | some (.dic kvs) => (match keyD y with
          | some k => if kvs.length < sizeLine then some (.nx S, h3.set n (.dic (putKD kvs k d))) else none
          | none => none)
        | _ => none) _ = _
  rw [en]
  show bq (match keyD y with
          | some k => if kvs.length < sizeLine then some (.nx S, h3.set n (.dic (putKD kvs k d))) else none
          | none => none) _ = _
  rw [ek]
  show bq (if kvs.length < sizeLine then some (Fw.nx S, h3.set n (.dic (putKD kvs k d))) else none) _ = _
  rw [if_pos hl]
  rfl
/-- x.f = v -/
theorem s_fst {f : Str} {cs : List Str} {n : Nat} {C : Str} {fs : List (Str × D)} (ee : (ev Gl Φ e).v S h = some (.ok d, h1)) (nl : ∀ xs, d ≠ .lst xs) (ea : (ev Gl Φ a).v S h1 = some (.ok (.ref n), h2)) (en : h2[n]? = some (.ins C fs)) (hC : C ∈ cs) (hl : fs.length < 1000) :
    evB Gl Φ (.cons (.fst a f cs e) l) S h = evB Gl Φ l S (h2.set n (.ins C (putD f d fs))) := by
  rw [evB, evS]
  show bq (bs (bd ((ev Gl Φ e).v S h) mat) S _) _ = _
  rw [ee]
  show bq (bs (mat d h1) S _) _ = _
  rw [mat_ok nl]
  show bq (bs ((ev Gl Φ a).v S h1) S _) _ = _
  rw [ea]
  show bq (match h2[n]? with
        | some (.ins C fs) => if C ∈ cs ∧ fs.length < 1000 then some (.nx S, h2.set n (.ins C (putD f d fs))) else none
        | _ => none) _ = _
  rw [en]
  show bq (if C ∈ cs ∧ fs.length < 1000 then some (Fw.nx S, h2.set n (.ins C (putD f d fs))) else none) _ = _
  rw [if_pos ⟨hC, hl⟩]
  rfl
/-! dicts, as data -/
theorem dget_str {n : Nat} {kvs : List (Key × D)} {k : Str} (e : h[n]? = some (.dic kvs)) : dgetD h (.ref n) (.str k) = some (valD kvs (.inr k)) := by
  simp only [dgetD, dicD, e, keyD]
theorem dic_ref {n : Nat} {kvs : List (Key × D)} (e : h[n]? = some (.dic kvs)) : dicD h (.ref n) = some kvs := by
  simp only [dicD, e]
theorem valD_map {α : Type} (f : α → Str) (g : α → D) (k : Str) : ∀ l : List α, valD (l.map fun a => ((Sum.inr (f a) : Key), g a)) (.inr k) = (l.find? fun a => decide (f a = k)).map g
  | [] => rfl
  | a :: l => by
    have ih := valD_map f g k l
    unfold valD at ih ⊢
    rw [List.map_cons, List.find?_cons, List.find?_cons]
    by_cases c : f a = k
    · simp [c]
    · have e1 : decide ((Sum.inr (f a) : Key) = Sum.inr k) = false := decide_eq_false (by intro z; cases z; exact c rfl)
      have e2 : decide (f a = k) = false := decide_eq_false c
      simp only [e1, e2]
      exact ih
theorem putKD_new {kvs : List (Key × D)} {k : Key} {d : D} (n : ∀ p ∈ kvs, p.1 ≠ k) : putKD kvs k d = kvs ++ [(k, d)] := by
  unfold putKD
  rw [if_neg]
  intro z
  obtain ⟨p, m, q⟩ := List.any_eq_true.mp z
  exact n p m (of_decide_eq_true q)
theorem putKD_old {kvs : List (Key × D)} {k : Key} {d : D} (n : ∃ p ∈ kvs, p.1 = k) : putKD kvs k d = kvs.map fun kv => if kv.1 = k then (kv.1, d) else kv := by
  unfold putKD
  rw [if_pos]
  obtain ⟨p, m, q⟩ := n
  exact List.any_eq_true.mpr ⟨p, m, decide_eq_true q⟩
theorem mergeKD_new : ∀ (ps kvs : List (Key × D)), (ps.map (·.1)).Nodup → (∀ p ∈ ps, ∀ q ∈ kvs, q.1 ≠ p.1) → mergeKD kvs ps = kvs ++ ps
  | [], kvs, _, _ => (List.append_nil kvs).symm
  | p :: ps, kvs, nd, n => by
    rw [List.map_cons, List.nodup_cons] at nd
    have e1 : putKD kvs p.1 p.2 = kvs ++ [p] := putKD_new fun q m => n p (List.mem_cons_self ..) q m
    have ih := mergeKD_new ps (kvs ++ [p]) nd.2 fun r m q hq => by
      rcases List.mem_append.mp hq with z | z
      · exact n r (List.mem_cons_of_mem _ m) q z
      · rw [List.mem_singleton.mp z]
        intro e
        exact nd.1 (List.mem_map.mpr ⟨r, m, e.symm⟩)
    show mergeKD (putKD kvs p.1 p.2) ps = _
    rw [e1, ih, List.append_assoc]
    rfl
end
end Z

/-! Zj: tests of values; dicts from names to data -/
namespace Z
open PySem L2
section
variable {Gl : List (Str × D)} {Φ : CallF} {S : Sl} {h h1 h2 h3 h4 : Hh} {x y z d : D} {ds : List D} {a b c e : E} {es : EL} {k : Bool}
theorem tv_of {f : EF} (q : f S h = some (.ok x, h1)) (t : truD h1 x = some k) : (vt f).t S h = some (.ok k, h1) := by
  show bd (f S h) _ = _
  rw [q]
  show pu (truD h1 x) h1 = _
  rw [t]
  rfl
theorem t_blt {q : Bn} (v : (ev Gl Φ (.blt q es)).v S h = some (.ok (.bl k), h1)) : (ev Gl Φ (.blt q es)).t S h = some (.ok k, h1) := by
  rw [ev] at v ⊢
  exact tv_of v rfl
theorem t_bl1 {q : Bn} (v : (ev Gl Φ (.bl1 q a)).v S h = some (.ok (.bl k), h1)) : (ev Gl Φ (.bl1 q a)).t S h = some (.ok k, h1) := by
  rw [ev] at v ⊢
  exact tv_of v rfl
theorem t_cll {f : Str} (v : (ev Gl Φ (.call f es)).v S h = some (.ok (.bl k), h1)) : (ev Gl Φ (.call f es)).t S h = some (.ok k, h1) := by
  rw [ev] at v ⊢
  exact tv_of v rfl
theorem t_meth {C m q : Str} (v : (ev Gl Φ (.omth a C m q es)).v S h = some (.ok (.bl k), h1)) : (ev Gl Φ (.omth a C m q es)).t S h = some (.ok k, h1) := by
  rw [ev] at v ⊢
  exact tv_of v rfl
theorem t_var {i : Nat} (s : getS S i = some (.bl k)) : (ev Gl Φ (.var i)).t S h = some (.ok k, h) := by
  have v := i_v (Gl := Gl) (Φ := Φ) (h := h) s
  rw [ev] at v ⊢
  exact tv_of v rfl
theorem t_kix (v : (ev Gl Φ (.kix a b)).v S h = some (.ok (.bl k), h1)) : (ev Gl Φ (.kix a b)).t S h = some (.ok k, h1) := by
  rw [ev] at v ⊢
  exact tv_of v rfl
theorem t_kget2 (v : (ev Gl Φ (.kget2 a b c)).v S h = some (.ok (.bl k), h1)) : (ev Gl Φ (.kget2 a b c)).t S h = some (.ok k, h1) := by
  rw [ev] at v ⊢
  exact tv_of v rfl
theorem i_blt {q : Bn} (ea : evA Gl Φ es S h = some (.ok ds, h1)) (e : bltD h1 q ds = some d) : (ev Gl Φ (.blt q es)).v S h = some (.ok d, h1) := by
  rw [ev]
  show bd (evA Gl Φ es S h) _ = _
  rw [ea]
  show pu (bltD h1 q ds) h1 = _
  rw [e]
  rfl
theorem i_typ {x : Str} {t : String} : (ev Gl Φ (.typ x t)).v S h = some (.ok (.ty t), h) := by rw [ev]; rfl
/-- isinstance(x, str) of a text -/
theorem t_isStr {i : Nat} {w : Str} (s : getS S i = some (.str w)) : (ev Gl Φ (.blt .isi (.cons false (.var i) (.cons false (.typ "str" "str") .nil)))).t S h = some (.ok true, h) :=
  t_blt (i_blt (iAc (i_v s) (fun _ z => by cases z) (iAc i_typ (fun _ z => by cases z) iAn)) rfl)
/-- a, b, .. = a tuple -/
theorem s_asg {t : TL} {xs : List D} {S1 : Sl} {l : SL} (v : (ev Gl Φ e).v S h = some (.ok (.tup xs), h1)) (bt : bindTs h1 t xs S = some S1) : evB Gl Φ (.cons (.asg t e) l) S h = evB Gl Φ l S1 h1 := by
  rw [evB, evS.eq_3]
  show bq (bs (bd ((ev Gl Φ e).v S h) mat) S _) _ = _
  rw [v]
  show bq (match bindTs h1 t xs S with
      | some S1 => some (Fw.nx S1, h1)
      | none => none) _ = _
  rw [bt]
  rfl
end
/-! ### a dict from names -/
def DN (names : List Str) (g : Str → D) : List (Key × D) := names.map fun n => (.inr n, g n)
theorem DN_len {names : List Str} {g : Str → D} : (DN names g).length = names.length := List.length_map ..
theorem DN_val {g : Str → D} {k : Str} : ∀ {names : List Str}, valD (DN names g) (.inr k) = if k ∈ names then some (g k) else none
  | [] => rfl
  | n :: names => by
    have ih := DN_val (g := g) (k := k) (names := names)
    unfold valD DN at ih ⊢
    rw [List.map_cons, List.find?_cons]
    by_cases c : n = k
    · subst c
      simp
    · have e1 : decide ((Sum.inr n : Key) = Sum.inr k) = false := decide_eq_false (by intro z; cases z; exact c rfl)
      simp only [e1]
      rw [ih]
      have e2 : (k ∈ n :: names) ↔ k ∈ names := by
        rw [List.mem_cons]
        exact ⟨fun z => z.elim (fun q => absurd q.symm c) id, .inr⟩
      simp only [e2]
theorem DN_in {g : Str → D} {k : Str} {names : List Str} (m : k ∈ names) : valD (DN names g) (.inr k) = some (g k) := by rw [DN_val, if_pos m]
theorem DN_put {g : Str → D} {k : Str} {names : List Str} {d : D} (m : k ∈ names) : putKD (DN names g) (.inr k) d = DN names fun n => if n = k then d else g n := by
  rw [putKD_old (kvs := DN names g) (k := .inr k) ⟨(.inr k, g k), List.mem_map.mpr ⟨k, m, rfl⟩, rfl⟩]
  unfold DN
  rw [List.map_map]
  refine List.map_congr_left fun n _ => ?_
  show (if (Sum.inr n : Key) = Sum.inr k then ((Sum.inr n : Key), d) else (Sum.inr n, g n)) = _
  by_cases c : n = k
  · subst c; simp
  · rw [if_neg (by intro z; cases z; exact c rfl)]
    show _ = ((Sum.inr n : Key), if n = k then d else g n)
    rw [if_neg c]
theorem DN_new {g : Str → D} {names : List Str} (nd : names.Nodup) : mergeKD [] (DN names g) = DN names g := by
  rw [mergeKD_new _ _ ?_ (fun _ _ _ m => by cases m), List.nil_append]
  unfold DN
  rw [List.map_map]
  exact List.Pairwise.map _ (fun a b n e => n (by cases e; rfl)) nd
theorem DN_keys {g : Str → D} {names : List Str} : ((DN names g).map fun kv => kD kv.1) = names.map D.str := by
  unfold DN
  rw [List.map_map]
  rfl
theorem DN_vals {g : Str → D} {names : List Str} : ((DN names g).map fun kv => kv.2) = names.map g := by
  unfold DN
  rw [List.map_map]
  rfl
theorem dget_DN {h : Hh} {n : Nat} {names : List Str} {g : Str → D} {k : Str} (e : h[n]? = some (.dic (DN names g))) : dgetD h (.ref n) (.str k) = some (if k ∈ names then some (g k) else none) := by
  rw [dget_str e, DN_val]
end Z

/-! Zk: what is walked, comprehensions, loops, calls that change nothing -/
namespace Z
open PySem L2
section
variable {Gl : List (Str × D)} {Φ : CallF} {S S1 S2 : Sl} {h h1 h2 h3 h4 : Hh} {x y z d d' : D} {xs ys ds : List D} {a b c e : E} {es : EL} {n : Nat}
/-! heaps -/
theorem g_app {g : Hh} {i : Nat} {q : O} (e : h[i]? = some q) : (h ++ g)[i]? = some q := by
  rw [List.getElem?_append_left (List.getElem?_eq_some_iff.mp e).1]; exact e
theorem g_end {o : O} : (h ++ [o])[h.length]? = some o := by rw [List.getElem?_append_right (Nat.le_refl _), Nat.sub_self]; rfl
theorem g_setn {i j : Nat} {q o : O} (n : j ≠ i) (e : h[i]? = some q) : (h.set j o)[i]? = some q := by rw [List.getElem?_set_ne n]; exact e
theorem g_set {i : Nat} {q o : O} (e : h[i]? = some q) : (h.set i o)[i]? = some o := by rw [List.getElem?_set_self (List.getElem?_eq_some_iff.mp e).1]
theorem g_lt {i : Nat} {q : O} (e : h[i]? = some q) : i < h.length := (List.getElem?_eq_some_iff.mp e).1
theorem g_same {i : Nat} {q : O} (e : h[i]? = some q) : h.set i q = h := by
  refine List.ext_getElem? fun j => ?_
  by_cases cc : i = j
  · subst cc
    rw [List.getElem?_set_self (List.getElem?_eq_some_iff.mp e).1, e]
  · rw [List.getElem?_set_ne cc]
theorem h_end {o o' : O} : (h ++ [o]).set h.length o' = h ++ [o'] := by rw [List.set_append_right _ _ (Nat.le_refl _), Nat.sub_self]; rfl
/-! what is walked -/
theorem ei_tup (v : (ev Gl Φ e).v S h = some (.ok (.tup xs), h1)) : evI Gl Φ (.sq e) S h = some (.ok ⟨xs, []⟩, h1) := by
  rw [evI]; show bd ((ev Gl Φ e).v S h) _ = _; rw [v]; rfl
theorem ei_lst (v : (ev Gl Φ e).v S h = some (.ok (.lst xs), h1)) : evI Gl Φ (.sq e) S h = some (.ok ⟨xs, []⟩, h1) := by
  rw [evI]; show bd ((ev Gl Φ e).v S h) _ = _; rw [v]; rfl
theorem ei_frl (v : (ev Gl Φ e).v S h = some (.ok (.frl xs), h1)) : evI Gl Φ (.sq e) S h = some (.ok ⟨xs, []⟩, h1) := by
  rw [evI]; show bd ((ev Gl Φ e).v S h) _ = _; rw [v]; rfl
theorem ei_ref (v : (ev Gl Φ e).v S h = some (.ok (.ref n), h1)) (en : h1[n]? = some (.lst xs)) : evI Gl Φ (.sq e) S h = some (.ok ⟨xs, [(n, xs)]⟩, h1) := by
  rw [evI]; show bd ((ev Gl Φ e).v S h) _ = _; rw [v]
  show (match sqD h1 (.ref n) with | some xs => some (Rs.ok (⟨xs, stayOf (.ref n) xs⟩ : Src), h1) | none => none) = _
  simp only [sqD, lsD, en]
  rfl
theorem r1_go {j : Int} (j0 : 0 ≤ j) (j1 : j ≤ 100000) : (match (D.int j) with
      | .int j => if -(2 ^ 62) ≤ j ∧ j < 2 ^ 62 then some (Rs.ok (⟨rngItems 0 j.toNat, []⟩ : Src), h1) else none
      | _ => none) = some (Rs.ok (⟨rngItems 0 j.toNat, []⟩ : Src), h1) := if_pos ⟨by omega, by omega⟩
theorem ei_r1j {j : Int} (v : (ev Gl Φ e).v S h = some (.ok (.int j), h1)) (j0 : 0 ≤ j) (j1 : j ≤ 100000) : evI Gl Φ (.r1 e) S h = some (.ok ⟨rngItems 0 j.toNat, []⟩, h1) := by
  rw [evI]
  refine (congrArg (fun q => bd q _) v).trans ?_
  exact r1_go j0 j1
theorem ei_r1 {k : Nat} (v : (ev Gl Φ e).v S h = some (.ok (.int k), h1)) (l : k ≤ 100000) : evI Gl Φ (.r1 e) S h = some (.ok ⟨rngItems 0 k, []⟩, h1) := by
  have := ei_r1j v (Int.natCast_nonneg k) (by omega)
  rw [Int.toNat_natCast] at this
  exact this
theorem ei_en (v : (ev Gl Φ e).v S h = some (.ok x, h1)) (el : lsD h1 x = some xs) : evI Gl Φ (.en e) S h = some (.ok ⟨enItems 0 xs, stayOf x xs⟩, h1) := by
  rw [evI]; show bd ((ev Gl Φ e).v S h) _ = _; rw [v]
  show (match lsD h1 x with | some xs => some (Rs.ok (⟨enItems 0 xs, stayOf x xs⟩ : Src), h1) | none => none) = _
  rw [el]
theorem rng_map (k : Nat) : rngItems 0 k = (List.range k).map fun (i : Nat) => D.int (i : Int) := by
  unfold rngItems
  refine List.map_congr_left fun i _ => ?_
  rw [Int.zero_add]
theorem ls_ref (en : h[n]? = some (.lst xs)) : lsD h (.ref n) = some xs := by simp only [lsD, en]
theorem sq_ref (en : h[n]? = some (.lst xs)) : sqD h (.ref n) = some xs := by simp only [sqD, lsD, en]
theorem ml_ref (en : h[n]? = some (.lst xs)) : mlD h (.ref n) = some xs := by simp only [mlD, en]
/-! comprehensions -/
theorem ec_no : evC Gl Φ .no S h = some (.ok true, h) := by rw [evC]
theorem ec_yes {k : Bool} (t : (ev Gl Φ e).t S h = some (.ok k, h1)) : evC Gl Φ (.yes e) S h = some (.ok k, h1) := by rw [evC]; exact t
/-- of items that are taken or not, and told as what is no list -/
theorem lc_gen {α : Type} {elt : E} {t : Tg} {it : Z.It} {cc : EO} {own : List Nat} {l : List α} {f : α → D} {p : α → Bool} {g : α → D} {st : List (Nat × List D)}
    (ei : evI Gl Φ it S h = some (.ok ⟨l.map f, st⟩, h1)) (hst : stayB h1 st) (hl : l.length ≤ 100000) (ng : ∀ a xs, g a ≠ .lst xs)
    (eb : ∀ a ∈ l, ∃ S1, bindT h1 t (f a) (wipeS S own) = some S1 ∧ evC Gl Φ cc S1 h1 = some (.ok (p a), h1) ∧ (p a = true → (ev Gl Φ elt).v S1 h1 = some (.ok (g a), h1))) :
    (ev Gl Φ (.lc elt t it cc own)).v S h = some (.ok (.lst ((l.filter p).map g)), h1) := by
  refine ev_lc ei (by rw [List.length_map]; exact sz hl) ?_
  have key : ∀ m : List α, (∀ a ∈ m, a ∈ l) → lcGo st (lcEl Gl Φ elt t cc own S) (m.map f) h1 = some ((m.filter p).map g, h1) := fun m => by
    induction m with
    | nil => intro _; simp [lcGo, hst]
    | cons a m ih =>
      intro hm
      obtain ⟨S1, e1, e2, e3⟩ := eb a (hm a (List.mem_cons_self ..))
      have e4 : lcEl Gl Φ elt t cc own S (f a) h1 = some (.ok (if p a then some (g a) else none), h1) := by
        unfold lcEl
        rw [e1]
        simp only [e2]
        cases q : p a with
        | false => rfl
        | true =>
          show bd (bd ((ev Gl Φ elt).v S1 h1) mat) _ = _
          rw [e3 q]
          show bd (mat (g a) h1) _ = _
          rw [mat_ok (ng a)]
          rfl
      rw [List.map_cons, lcGo, if_pos hst, e4]
      dsimp only
      rw [ih fun b q => hm b (List.mem_cons_of_mem _ q)]
      cases q : p a with
      | false => rw [List.filter_cons_of_neg (by rw [q]; exact Bool.false_ne_true)]; rfl
      | true => rw [List.filter_cons_of_pos q]; rfl
  exact key l fun _ m => m
/-- .. none left out -/
theorem lc_all {α : Type} {elt : E} {t : Tg} {it : Z.It} {own : List Nat} {l : List α} {f : α → D} {g : α → D} {st : List (Nat × List D)}
    (ei : evI Gl Φ it S h = some (.ok ⟨l.map f, st⟩, h1)) (hst : stayB h1 st) (hl : l.length ≤ 100000) (ng : ∀ a xs, g a ≠ .lst xs)
    (eb : ∀ a ∈ l, ∃ S1, bindT h1 t (f a) (wipeS S own) = some S1 ∧ (ev Gl Φ elt).v S1 h1 = some (.ok (g a), h1)) :
    (ev Gl Φ (.lc elt t it .no own)).v S h = some (.ok (.lst (l.map g)), h1) := by
  have := lc_gen (cc := .no) (p := fun _ => true) ei hst hl ng fun a m => by
    obtain ⟨S1, e1, e2⟩ := eb a m
    exact ⟨S1, e1, ec_no, fun _ => e2⟩
  rw [List.filter_eq_self.mpr (fun _ _ => rfl)] at this
  exact this
/-- a dict's comprehension -/
theorem kdc_all {α : Type} {kx vx : E} {t : Tg} {it : Z.It} {own : List Nat} {l : List α} {f : α → D} {g : α → Key × D} {st : List (Nat × List D)}
    (ei : evI Gl Φ it S h = some (.ok ⟨l.map f, st⟩, h1)) (hst : stayB h1 st) (hl : l.length ≤ 100000) (ng : ∀ a xs, (g a).2 ≠ .lst xs)
    (eb : ∀ a ∈ l, ∃ S1 y, bindT h1 t (f a) (wipeS S own) = some S1 ∧ (ev Gl Φ kx).v S1 h1 = some (.ok y, h1) ∧ keyD y = some (g a).1 ∧ (ev Gl Φ vx).v S1 h1 = some (.ok (g a).2, h1)) :
    (ev Gl Φ (.kdc kx vx t it .no own)).v S h = some (.ok (.ref h1.length), h1 ++ [.dic (mergeKD [] (l.map g))]) := by
  have key : ∀ (m : List α) (acc : List (Key × D)), (∀ a ∈ m, a ∈ l) → dcGo st (fun x h => match bindT h t x (wipeS S own) with
        | none => none
        | some S1 => match evC Gl Φ .no S1 h with
          | some (.ok true, h2) => (bd ((ev Gl Φ kx).v S1 h2) fun y h3 => match keyD y with
            | some k => bd (vv ((ev Gl Φ vx).v) S1 h3) fun d h4 => some (.ok (some (k, d)), h4)
            | none => none)
          | some (.ok false, h2) => some (.ok none, h2)
          | _ => none) (m.map f) h1 acc = some (mergeKD acc (m.map g), h1) := fun m => by
    induction m with
    | nil => intro acc _; simp [dcGo, hst, mergeKD]
    | cons a m ih =>
      intro acc hm
      obtain ⟨S1, y, e1, e2, e3, e4⟩ := eb a (hm a (List.mem_cons_self ..))
      rw [List.map_cons, dcGo, if_pos hst]
      simp only [e1, ec_no, e2, bd_ok, e3]
      have e5 : vv ((ev Gl Φ vx).v) S1 h1 = some (.ok (g a).2, h1) := by
        show bd ((ev Gl Φ vx).v S1 h1) mat = _
        rw [e4]
        exact mat_ok (ng a)
      simp only [e5, bd_ok]
      exact ih _ fun b q => hm b (List.mem_cons_of_mem _ q)
  rw [ev]
  show bd (evI Gl Φ it S h) _ = _
  rw [ei]
  show (if (l.map f).length ≤ sizeLine then _ else none) = _
  rw [if_pos (by rw [List.length_map]; exact sz hl)]
  exact (congrArg (fun z : Option (List (Key × D) × Hh) => match z with | some (ys, h2) => some (Rs.ok (D.ref h2.length), h2 ++ [O.dic ys]) | none => none) (key l [] fun _ m => m)).trans rfl
/-! statements, one behind the other -/
variable {l l' : SL} {R : BM} {i : Nat}
theorem st_set (v : (ev Gl Φ e).v S h = some (.ok d, h1)) (m : mat d h1 = some (.ok d', h2)) (r : evB Gl Φ l (S.set i (some d')) h2 = R) : evB Gl Φ (.cons (.set i e) l) S h = R := by
  rw [evB, evS.eq_2]
  show bq (bs (bd ((ev Gl Φ e).v S h) mat) S _) _ = _
  rw [v]
  show bq (bs (mat d h1) S _) _ = _
  rw [m]
  exact r
theorem st_ex (v : (ev Gl Φ e).v S h = some (.ok d, h1)) (r : evB Gl Φ l S h1 = R) : evB Gl Φ (.cons (.ex e) l) S h = R := (s_ex v).trans r
theorem st_ret (v : (ev Gl Φ e).v S h = some (.ok d, h1)) (r : some (.rt d, h1) = R) : evB Gl Φ (.cons (.ret e) l) S h = R := (s_ret v).trans r
theorem st_retn (r : some (.rt .non, h) = R) : evB Gl Φ (.cons .retn l) S h = R := by rw [evB, evS]; exact r
theorem st_if1 {A B : SL} (t : (ev Gl Φ e).t S h = some (.ok true, h1)) (r : bq (evB Gl Φ A S h1) (fun S1 h2 => evB Gl Φ l S1 h2) = R) : evB Gl Φ (.cons (.ife e A B) l) S h = R := (s_if1 t).trans r
theorem st_if0 {A B : SL} (t : (ev Gl Φ e).t S h = some (.ok false, h1)) (r : bq (evB Gl Φ B S h1) (fun S1 h2 => evB Gl Φ l S1 h2) = R) : evB Gl Φ (.cons (.ife e A B) l) S h = R := (s_ifn t).trans r
theorem st_if0n {A : SL} (t : (ev Gl Φ e).t S h = some (.ok false, h1)) (r : evB Gl Φ l S h1 = R) : evB Gl Φ (.cons (.ife e A .nil) l) S h = R := (s_if0 t).trans r
/-- .. by what the test says -/
theorem st_if {A B : SL} {k : Bool} (t : (ev Gl Φ e).t S h = some (.ok k, h1)) (r1 : k = true → bq (evB Gl Φ A S h1) (fun S1 h2 => evB Gl Φ l S1 h2) = R) (r0 : k = false → bq (evB Gl Φ B S h1) (fun S1 h2 => evB Gl Φ l S1 h2) = R) : evB Gl Φ (.cons (.ife e A B) l) S h = R := by
  cases k with
  | true => exact (s_if1 t).trans (r1 rfl)
  | false => exact (s_ifn t).trans (r0 rfl)
theorem st_nil (r : some (.nx S, h) = R) : evB Gl Φ .nil S h = R := by rw [evB]; exact r
theorem st_bqn {k : Sl → Hh → BM} (r1 : evB Gl Φ l S h = some (.nx S1, h1)) (r : k S1 h1 = R) : bq (evB Gl Φ l S h) k = R := by rw [r1]; exact r
theorem st_bqr {k : Sl → Hh → BM} (r1 : evB Gl Φ l S h = some (.rt d, h1)) (r : some (.rt d, h1) = R) : bq (evB Gl Φ l S h) k = R := by rw [r1]; exact r
theorem st_asg {t : TL} (v : (ev Gl Φ e).v S h = some (.ok (.tup xs), h1)) (bt : bindTs h1 t xs S = some S1) (r : evB Gl Φ l S1 h1 = R) : evB Gl Φ (.cons (.asg t e) l) S h = R := (s_asg v bt).trans r
theorem st_kput {m : Nat} {kvs : List (Key × D)} {k : Key} (ee : (ev Gl Φ e).v S h = some (.ok d, h1)) (nl : mat d h1 = some (.ok d', h2)) (ea : (ev Gl Φ a).v S h2 = some (.ok (.ref m), h3)) (eb : (ev Gl Φ b).v S h3 = some (.ok y, h4)) (en : h4[m]? = some (.dic kvs)) (ek : keyD y = some k) (hl : kvs.length ≤ 100000)
    (r : evB Gl Φ l S (h4.set m (.dic (putKD kvs k d'))) = R) : evB Gl Φ (.cons (.kput a b e) l) S h = R := by
  rw [evB, evS]
  show bq (bs (bd ((ev Gl Φ e).v S h) mat) S _) _ = _
  rw [ee]
  show bq (bs (mat d h1) S _) _ = _
  rw [nl]
  show bq (bs ((ev Gl Φ a).v S h2) S _) _ = _
  rw [ea]
  show bq (bs ((ev Gl Φ b).v S h3) S _) _ = _
  rw [eb]
  show bq (match h4[m]? with
        | some (.dic kvs) => (match keyD y with
          | some k => if kvs.length < sizeLine then some (.nx S, h4.set m (.dic (putKD kvs k d'))) else none
          | none => none)
        | _ => none) _ = _
  rw [en]
  show bq (match keyD y with
          | some k => if kvs.length < sizeLine then some (.nx S, h4.set m (.dic (putKD kvs k d'))) else none
          | none => none) _ = _
  rw [ek]
  show bq (if kvs.length < sizeLine then some (Fw.nx S, h4.set m (.dic (putKD kvs k d'))) else none) _ = _
  rw [if_pos (Nat.lt_of_le_of_lt hl (by decide))]
  exact r
theorem st_fst {f : Str} {cs : List Str} {m : Nat} {C : Str} {fs : List (Str × D)} (ee : (ev Gl Φ e).v S h = some (.ok d, h1)) (nl : mat d h1 = some (.ok d', h2)) (ea : (ev Gl Φ a).v S h2 = some (.ok (.ref m), h3)) (en : h3[m]? = some (.ins C fs)) (hC : C ∈ cs) (hl : fs.length < 1000)
    (r : evB Gl Φ l S (h3.set m (.ins C (putD f d' fs))) = R) : evB Gl Φ (.cons (.fst a f cs e) l) S h = R := by
  rw [evB, evS]
  show bq (bs (bd ((ev Gl Φ e).v S h) mat) S _) _ = _
  rw [ee]
  show bq (bs (mat d h1) S _) _ = _
  rw [nl]
  show bq (bs ((ev Gl Φ a).v S h2) S _) _ = _
  rw [ea]
  show bq (match h3[m]? with
        | some (.ins C fs) => if C ∈ cs ∧ fs.length < 1000 then some (.nx S, h3.set m (.ins C (putD f d' fs))) else none
        | _ => none) _ = _
  rw [en]
  show bq (if C ∈ cs ∧ fs.length < 1000 then some (Fw.nx S, h3.set m (.ins C (putD f d' fs))) else none) _ = _
  rw [if_pos ⟨hC, hl⟩]
  exact r
/-- xs.append(x) as a statement -/
theorem i_appd {m : Nat} (ea : (ev Gl Φ a).v S h = some (.ok (.ref m), h1)) (en : h1[m]? = some (.lst ys)) (eb : (ev Gl Φ b).v S h1 = some (.ok d, h2)) (nl : mat d h2 = some (.ok d', h3)) (em : h3[m]? = some (.lst xs)) (hl : xs.length ≤ 100000) :
    (ev Gl Φ (.meth a .append (.cons false b .nil))).v S h = some (.ok .non, h3.set m (.lst (xs ++ [d']))) := by
  rw [ev]
  show bd (bd ((ev Gl Φ a).v S h) mat) _ = _
  rw [ea]
  show (match h1[m]? with
        | some (.lst _) => bd (evA Gl Φ (.cons false b .nil) S h1) (fun ds h2 => match mutD h2 m .append ds with
          | some (d, h3) => some (Rs.ok d, h3)
          | none => none)
        | _ => none) = _
  rw [en]
  dsimp only
  have e1 : evA Gl Φ (.cons false b .nil) S h1 = some (.ok [d'], h3) := by
    rw [evA.eq_2]
    show bd (bd ((ev Gl Φ b).v S h1) mat) _ = _
    rw [eb]
    show bd (mat d h2) _ = _
    rw [nl, bd_ok, iAn]
    rfl
  rw [e1]
  show (match mutD h3 m .append [d'] with | some (d, h3) => some (Rs.ok d, h3) | none => none) = _
  have e2 : mutD h3 m .append [d'] = some (.non, h3.set m (.lst (xs ++ [d']))) := by
    show (match h3[m]? with
      | some (.lst xs) => if xs.length < sizeLine then some (D.non, h3.set m (.lst (xs ++ [d']))) else none
      | _ => none) = _
    rw [em]
    exact if_pos (Nat.lt_of_le_of_lt hl (by decide))
  rw [e2]
/-- a loop, by what holds ahead of each turn -/
theorem st_fo {α : Type} {t : Tg} {it : Z.It} {b : SL} {items : List α} {f : α → D} {st : List (Nat × List D)} (P : Nat → Sl → Hh → Prop) (ei : evI Gl Φ it S h = some (.ok ⟨items.map f, st⟩, h1)) (p0 : P 0 S h1) (hst : ∀ i S h, P i S h → stayB h st)
    (step : ∀ j a S h, items[j]? = some a → P j S h → ∃ S1 S2 h2, bindT h t (f a) S = some S1 ∧ evB Gl Φ b S1 h = some (.nx S2, h2) ∧ P (j + 1) S2 h2)
    (r : ∀ S' h', P items.length S' h' → evB Gl Φ l S' h' = R) : evB Gl Φ (.cons (.fo t it b) l) S h = R := by
  obtain ⟨S', h', e1, p1⟩ := foGo_inv (st := st) (t := t) (b := evB Gl Φ b) P hst (items.map f) 0 S h1 (fun j x S h hj hp => by
    rw [List.getElem?_map] at hj
    cases q : items[j]? with
    | none => rw [q] at hj; cases hj
    | some a =>
      rw [q] at hj
      cases hj
      rw [Nat.zero_add] at hp ⊢
      exact step j a S h q hp) p0
  rw [Nat.zero_add, List.length_map] at p1
  rw [s_st (ev_fo ei e1)]
  exact r S' h' p1
/-! calls that change nothing -/
/-- what is told is d, or a new list that is d -/
def PC (Φ : CallF) (f : Str) (ds : List D) (h : Hh) (d : D) : Prop := ∃ r g, Φ f ds h = some (.ok r, h ++ g) ∧ ((r = d ∧ ∀ m, d ≠ .ref m) ∨ ∃ m xs, r = .ref m ∧ h.length ≤ m ∧ d = .lst xs ∧ (h ++ g)[m]? = some (.lst xs))
theorem fix_pc {g : Hh} {r : D} (cl : clD h.length d = true) (q : (r = d ∧ ∀ m, d ≠ .ref m) ∨ ∃ m xs, r = .ref m ∧ h.length ≤ m ∧ d = .lst xs ∧ (h ++ g)[m]? = some (.lst xs)) : fix h r (h ++ g) = some (.ok d, h) := by
  have tk : (h ++ g).take h.length = h := List.take_left' rfl
  have ok : okH h (h ++ g) := .inl tk
  rcases q with ⟨rfl, nr⟩ | ⟨m, xs, rfl, hm, rfl, em⟩
  · cases r with
    | ref m => exact absurd rfl (nr m)
    | _ => unfold fix; dsimp only; rw [if_pos ⟨ok, cl⟩, tk]
  · unfold fix
    dsimp only
    rw [if_neg (by omega), em]
    dsimp only
    have cl' : clL h.length xs = true := by rw [clD] at cl; exact cl
    rw [if_pos ⟨ok, cl'⟩, tk]
theorem i_pc {f : Str} {g : Hh} (ea : evA Gl Φ es S h = some (.ok ds, h1)) (eh : h1 = h ++ g) (pc : PC Φ f ds h1 d) (cl : clD h.length d = true) : (ev Gl Φ (.call f es)).v S h = some (.ok d, h) := by
  subst eh
  obtain ⟨r, g', e, q⟩ := pc
  refine i_cll ea e ?_
  rw [List.append_assoc] at *
  refine fix_pc cl ?_
  rcases q with q | ⟨m, xs, e1, e2, e3, e4⟩
  · exact .inl q
  · exact .inr ⟨m, xs, e1, by rw [List.length_append] at e2; omega, e3, e4⟩
theorem i_pc0 {f : Str} (ea : evA Gl Φ es S h = some (.ok ds, h)) (pc : PC Φ f ds h d) (cl : clD h.length d = true) : (ev Gl Φ (.call f es)).v S h = some (.ok d, h) := i_pc (g := []) ea (List.append_nil h).symm pc cl
/-- .. by a def's body -/
theorem pc_of {T : Str → Option Df} {f : Str} {df : Df} {k : Nat} {r : D} {g : Hh} (e : T f = some df) (l : ds.length = df.ps) (b : evB Gl (calls Gl T k) df.body (ds.map some ++ List.replicate (df.ns - df.ps) none) h = some (.rt r, h ++ g)) (q : (r = d ∧ ∀ m, d ≠ .ref m) ∨ ∃ m xs, r = .ref m ∧ h.length ≤ m ∧ d = .lst xs ∧ (h ++ g)[m]? = some (.lst xs)) : PC (calls Gl T (k + 1)) f ds h d :=
  ⟨r, g, by rw [call_eq e l, b]; rfl, q⟩
theorem iAcm (ea : (ev Gl Φ e).v S h = some (.ok x, h1)) (m : mat x h1 = some (.ok y, h2)) (er : evA Gl Φ es S h2 = some (.ok ds, h3)) : evA Gl Φ (.cons false e es) S h = some (.ok (y :: ds), h3) := by
  rw [evA.eq_2]
  show bd (bd ((ev Gl Φ e).v S h) mat) _ = _
  rw [ea]
  show bd (mat x h1) _ = _
  rw [m, bd_ok, er]
  rfl
theorem i_dic0 : (ev Gl Φ .dic0).v S h = some (.ok (.ref h.length), h ++ [.dic []]) := by rw [ev]; rfl
theorem i_kixd {kvs : List (Key × D)} {k : Key} (ea : (ev Gl Φ a).v S h = some (.ok (.ref n), h1)) (eb : (ev Gl Φ b).v S h1 = some (.ok y, h2)) (en : h2[n]? = some (.dic kvs)) (ek : keyD y = some k) (e : valD kvs k = some d) : (ev Gl Φ (.kix a b)).v S h = some (.ok d, h2) :=
  i_kix ea eb (by simp only [dgetD, dicD, en, ek, e])
theorem p_bin {op : Operator} (e : binD h op x y = some d) : binD h op x y = some d := e
theorem p_cmp {op : CmpOp} (e : cmpD h op x y = some d) : cmpD h op x y = some d := e
theorem p_ix (e : ixD h x y = some d) : ixD h x y = some d := e
theorem p_blt {q : Bn} (e : bltD h q ds = some d) : bltD h q ds = some d := e
theorem p_tru {k : Bool} (e : truD h x = some k) : truD h x = some k := e
theorem p_key {k : Key} (e : keyD x = some k) : keyD x = some k := e
theorem p_val {kvs : List (Key × D)} {k : Key} (e : valD kvs k = some d) : valD kvs k = some d := e
theorem p_sqz {k : Nat} (e : xs.length ≤ k) : xs.length ≤ k := e
theorem p_mem {C : Str} {cs : List Str} (e : C ∈ cs) : C ∈ cs := e
theorem p_lk {fs : List (Str × D)} {f : Str} (e : fs.lookup f = some d) : fs.lookup f = some d := e
theorem p_nlk {fs : List (Str × D)} {f : Str} (e : fs.lookup f = none) : fs.lookup f = none := e
theorem p_bts {t : TL} (e : bindTs h t xs S = some S1) : bindTs h t xs S = some S1 := e
theorem p_call {f : Str} (e : Φ f ds h = some (.ok d, h1)) : Φ f ds h = some (.ok d, h1) := e
theorem fix_pl {g : Hh} (cl : clD h.length d = true) (nr : ∀ m, d ≠ .ref m) : fix h d (h ++ g) = some (.ok d, h) := fix_pc cl (.inl ⟨rfl, nr⟩)
theorem fix_st {h' : Hh} (e : h'.length = h.length) : fix h d h' = some (.ok d, h') := fix_len e
theorem cl_strs {n : Nat} : ∀ l : List Str, clL n (l.map D.str) = true
  | [] => rfl
  | a :: l => by rw [List.map_cons, clL, cl_strs l]; rfl
theorem cl_map {α : Type} {n : Nat} {f : α → D} (c : ∀ a, clD n (f a) = true) : ∀ l : List α, clL n (l.map f) = true
  | [] => rfl
  | a :: l => by rw [List.map_cons, clL, c a, cl_map c l]; rfl
theorem cl_mem {n : Nat} : ∀ l : List D, (∀ d ∈ l, clD n d = true) → clL n l = true
  | [], _ => rfl
  | a :: l, c => by rw [clL, c a (List.mem_cons_self ..), cl_mem l fun d m => c d (List.mem_cons_of_mem _ m)]; rfl
end
end Z

namespace K3
open PySem L2 Z
/-- _wall: 0=k -/
def b0 : SL := (.cons .bad .nil)
/-- is_word: 0=thing 1=sign -/
def b1 : SL := (.cons (.ife (.or (.not (.blt .isi (.cons false (.var 0) (.cons false (.typ "str" "str") .nil)))) (.not (.chn .LtE .LtE (.int 1) (.bl1 .len (.var 0)) (.glob "LONGEST_WORD")))) (.cons (.ret (.bl false))
    .nil) .nil)
    (.cons (.ret (.bl1 .all (.lc (.chn .LtE .LtE (.str "a") (.var 1) (.str "z")) (.nm 1) (.sq (.var 0)) .no [1])))
    .nil))
/-- is_reserved: 0=thing -/
def b2 : SL := (.cons (.ife (.not (.blt .isi (.cons false (.var 0) (.cons false (.typ "str" "str") .nil)))) (.cons (.ret (.bl false))
    .nil) .nil)
    (.cons (.ret (.or (.cmp .In (.var 0) (.glob "COMMANDS")) (.or (.cmp .In (.var 0) (.glob "DIRECTIONS")) (.or (.cmp .In (.var 0) (.glob "LINE_WORDS")) (.cmp .In (.var 0) (.glob "TALE_WORDS"))))))
    .nil))
/-- is_name: 0=thing -/
def b3 : SL := (.cons (.ret (.and (.call "is_word" (.cons false (.var 0) .nil)) (.not (.call "is_reserved" (.cons false (.var 0) .nil)))))
    .nil)
/-- words_of: 0=row 1=words -/
def b4 : SL := (.cons (.ife (.not (.blt .isi (.cons false (.var 0) (.cons false (.typ "str" "str") .nil)))) (.cons (.ret .non)
    .nil) .nil)
    (.cons (.set 1 (.met1 (.var 0) .split (.str " ")))
    (.cons (.ife (.cmp .In (.str "") (.var 1)) (.cons (.ret .non)
    .nil) .nil)
    (.cons (.ret (.var 1))
    .nil))))
/-- Cursor.__init__: 0=self 1=row 2=words -/
def b5 : SL := (.cons (.fst (.var 0) "_row" ["Cursor"] (.var 1))
    (.cons (.fst (.var 0) "_words" ["Cursor"] (.bl1 .list (.var 2)))
    (.cons (.fst (.var 0) "_at" ["Cursor"] (.int 0))
    .nil)))
/-- Cursor.refuse: 0=self -/
def b6 : SL := (.cons (.ex (.omth (.var 0) "Cursor" "refuse_at" "Cursor.refuse_at" (.cons false (.bin .Add (.fldc (.var 0) "_at" ["Cursor"]) (.int 1)) .nil)))
    .nil)
/-- Cursor.refuse_row: 0=self -/
def b7 : SL := (.cons .bad .nil)
/-- Cursor.peek: 0=self -/
def b8 : SL := (.cons (.ret (.ite (.cmp .Lt (.fldc (.var 0) "_at" ["Cursor"]) (.bl1 .len (.fldc (.var 0) "_words" ["Cursor"]))) (.ix (.fldc (.var 0) "_words" ["Cursor"]) (.fldc (.var 0) "_at" ["Cursor"])) (.str "")))
    .nil)
/-- Cursor.take_next: 0=self 1=word -/
def b9 : SL := (.cons (.set 1 (.omth (.var 0) "Cursor" "peek" "Cursor.peek" .nil))
    (.cons (.faug (.var 0) "_at" ["Cursor"] .Add (.int 1))
    (.cons (.ret (.var 1))
    .nil)))
/-- Cursor.skip: 0=self 1=word -/
def b10 : SL := (.cons (.ife (.cmp .NotEq (.omth (.var 0) "Cursor" "peek" "Cursor.peek" .nil) (.var 1)) (.cons (.ret (.bl false))
    .nil) .nil)
    (.cons (.faug (.var 0) "_at" ["Cursor"] .Add (.int 1))
    (.cons (.ret (.bl true))
    .nil)))
/-- Cursor.take_word: 0=self 1=word -/
def b11 : SL := (.cons .bad .nil)
/-- Cursor.take_one_of: 0=self 1=words -/
def b12 : SL := (.cons (.ife (.cmp .NotIn (.omth (.var 0) "Cursor" "peek" "Cursor.peek" .nil) (.var 1)) (.cons (.ex (.omth (.var 0) "Cursor" "refuse" "Cursor.refuse" .nil))
    .nil) .nil)
    (.cons (.ret (.omth (.var 0) "Cursor" "take_next" "Cursor.take_next" .nil))
    .nil))
/-- Cursor.take_name: 0=self -/
def b13 : SL := (.cons (.ife (.not (.call "is_name" (.cons false (.omth (.var 0) "Cursor" "peek" "Cursor.peek" .nil) .nil))) (.cons (.ex (.omth (.var 0) "Cursor" "refuse" "Cursor.refuse" .nil))
    .nil) .nil)
    (.cons (.ret (.omth (.var 0) "Cursor" "take_next" "Cursor.take_next" .nil))
    .nil))
/-- Cursor.take_figure: 0=self 1=least 2=most -/
def b14 : SL := (.cons .bad .nil)
/-- Cursor.finish: 0=self -/
def b15 : SL := (.cons (.ife (.cmp .Lt (.fldc (.var 0) "_at" ["Cursor"]) (.bl1 .len (.fldc (.var 0) "_words" ["Cursor"]))) (.cons (.ex (.omth (.var 0) "Cursor" "refuse" "Cursor.refuse" .nil))
    .nil) .nil)
    .nil)
/-- Clause.__init__: 0=self 1=verb 2=what 3=link 4=holder -/
def b16 : SL := (.cons (.fst (.var 0) "verb" ["Clause"] (.var 1))
    (.cons (.fst (.var 0) "what" ["Clause"] (.var 2))
    (.cons (.fst (.var 0) "link" ["Clause"] (.var 3))
    (.cons (.fst (.var 0) "holder" ["Clause"] (.var 4))
    .nil))))
/-- Clause.told: 0=self -/
def b17 : SL := (.cons (.ret (.tup (.cons false (.fldc (.var 0) "verb" ["Clause"]) (.cons false (.fldc (.var 0) "what" ["Clause"]) (.cons false (.fldc (.var 0) "link" ["Clause"]) (.cons false (.fldc (.var 0) "holder" ["Clause"]) .nil))))))
    .nil)
/-- clauses_of: 0=line 1=words 2=word -/
def b18 : SL := (.cons (.set 1 (.call "words_of" (.cons false (.var 0) .nil)))
    (.cons (.ife (.or (.cmp .Is (.var 1) .non) (.or (.cmp .Gt (.bl1 .len (.var 1)) (.glob "MOST_WORDS")) (.not (.bl1 .all (.lc (.call "is_word" (.cons false (.var 2) .nil)) (.nm 2) (.sq (.var 1)) .no [2]))))) (.cons .bad
    .nil) .nil)
    (.cons (.tr (.cons (.ret (.call "read_clauses" (.cons false (.mk "Cursor" "Cursor.__init__" (.cons false (.int 1) (.cons false (.var 1) .nil))) .nil)))
    .nil))
    .nil)))
/-- read_clauses: 0=cursor 1=found -/
def b19 : SL := (.cons (.set 1 (.lst (.cons false (.call "read_clause" (.cons false (.var 0) .nil)) .nil)))
    (.cons (.wh (.and (.cmp .Lt (.bl1 .len (.var 1)) (.glob "MOST_CLAUSES")) (.omth (.var 0) "Cursor" "skip" "Cursor.skip" (.cons false (.str "then") .nil))) (.cons (.ex (.meth (.var 1) .append (.cons false (.call "read_clause" (.cons false (.var 0) .nil)) .nil)))
    .nil))
    (.cons (.ex (.omth (.var 0) "Cursor" "finish" "Cursor.finish" .nil))
    (.cons (.ret (.var 1))
    .nil))))
/-- read_clause: 0=cursor 1=verb 2=phrase 3=link -/
def b20 : SL := (.cons (.set 1 (.omth (.var 0) "Cursor" "take_one_of" "Cursor.take_one_of" (.cons false (.tup (.cons true (.glob "COMMANDS") (.cons true (.glob "DIRECTIONS") .nil))) .nil)))
    (.cons (.ife (.cmp .In (.var 1) (.glob "DIRECTIONS")) (.cons (.ret (.mk "Clause" "Clause.__init__" (.cons false (.str "go") (.cons false (.var 1) (.cons false (.str "") (.cons false .non .nil))))))
    .nil) .nil)
    (.cons (.ife (.cmp .Eq (.var 1) (.str "go")) (.cons (.ret (.mk "Clause" "Clause.__init__" (.cons false (.var 1) (.cons false (.omth (.var 0) "Cursor" "take_one_of" "Cursor.take_one_of" (.cons false (.glob "DIRECTIONS") .nil)) (.cons false (.str "") (.cons false .non .nil))))))
    .nil) .nil)
    (.cons (.ife (.cmp .In (.var 1) (.glob "LONE_VERBS")) (.cons (.ret (.mk "Clause" "Clause.__init__" (.cons false (.var 1) (.cons false (.str "") (.cons false (.str "") (.cons false .non .nil))))))
    .nil) .nil)
    (.cons (.set 2 (.call "read_phrase" (.cons false (.var 0) .nil)))
    (.cons (.ife (.cmp .NotEq (.var 1) (.str "put")) (.cons (.ret (.mk "Clause" "Clause.__init__" (.cons false (.var 1) (.cons false (.var 2) (.cons false (.str "") (.cons false .non .nil))))))
    .nil) .nil)
    (.cons (.set 3 (.omth (.var 0) "Cursor" "take_one_of" "Cursor.take_one_of" (.cons false (.tup (.cons false (.str "in") (.cons false (.str "on") .nil))) .nil)))
    (.cons (.ret (.mk "Clause" "Clause.__init__" (.cons false (.var 1) (.cons false (.var 2) (.cons false (.var 3) (.cons false (.call "read_holder" (.cons false (.var 0) .nil)) .nil))))))
    .nil))))))))
/-- read_phrase: 0=cursor -/
def b21 : SL := (.cons (.ife (.cmp .In (.omth (.var 0) "Cursor" "peek" "Cursor.peek" .nil) (.tup (.cons false (.str "it") (.cons false (.str "them") .nil)))) (.cons (.ret (.tup (.cons false (.omth (.var 0) "Cursor" "take_next" "Cursor.take_next" .nil) .nil)))
    .nil) .nil)
    (.cons (.ife (.omth (.var 0) "Cursor" "skip" "Cursor.skip" (.cons false (.str "all") .nil)) (.cons (.ret (.tup (.cons false (.str "all") (.cons false (.ite (.omth (.var 0) "Cursor" "skip" "Cursor.skip" (.cons false (.str "but") .nil)) (.call "read_nouns" (.cons false (.var 0) .nil)) (.tup .nil)) .nil))))
    .nil) .nil)
    (.cons (.ret (.tup (.cons false (.str "some") (.cons false (.call "read_nouns" (.cons false (.var 0) .nil)) .nil))))
    .nil)))
/-- read_holder: 0=cursor -/
def b22 : SL := (.cons (.ife (.omth (.var 0) "Cursor" "skip" "Cursor.skip" (.cons false (.str "it") .nil)) (.cons (.ret (.tup (.cons false (.str "it") .nil)))
    .nil) .nil)
    (.cons (.ret (.tup (.cons false (.str "one") (.cons false (.call "read_noun" (.cons false (.var 0) .nil)) .nil))))
    .nil))
/-- read_nouns: 0=cursor 1=found -/
def b23 : SL := (.cons (.set 1 (.lst (.cons false (.call "read_noun" (.cons false (.var 0) .nil)) .nil)))
    (.cons (.wh (.and (.cmp .Lt (.bl1 .len (.var 1)) (.glob "MOST_NOUNS")) (.omth (.var 0) "Cursor" "skip" "Cursor.skip" (.cons false (.str "and") .nil))) (.cons (.ex (.meth (.var 1) .append (.cons false (.call "read_noun" (.cons false (.var 0) .nil)) .nil)))
    .nil))
    (.cons (.ret (.bl1 .tuple (.var 1)))
    .nil)))
/-- read_noun: 0=cursor 1=found -/
def b24 : SL := (.cons (.ex (.omth (.var 0) "Cursor" "skip" "Cursor.skip" (.cons false (.str "the") .nil)))
    (.cons (.set 1 (.lst (.cons false (.omth (.var 0) "Cursor" "take_name" "Cursor.take_name" .nil) .nil)))
    (.cons (.wh (.and (.cmp .Lt (.bl1 .len (.var 1)) (.glob "MOST_NOUN_WORDS")) (.and (.call "are_unlike" (.cons false (.var 1) .nil)) (.call "is_name" (.cons false (.omth (.var 0) "Cursor" "peek" "Cursor.peek" .nil) .nil)))) (.cons (.ex (.meth (.var 1) .append (.cons false (.omth (.var 0) "Cursor" "take_next" "Cursor.take_next" .nil) .nil)))
    .nil))
    (.cons (.ret (.bl1 .tuple (.var 1)))
    .nil))))
/-- are_unlike: 0=words -/
def b25 : SL := (.cons (.ret (.cmp .Eq (.lset (.var 0)) (.bl1 .len (.var 0))))
    .nil)
/-- _law_mixed: 0=_law_cell 1=_law_k 2=_law_number -/
def b26 : SL := (.cons (.set 2 (.bin .Add (.bin .Add (.bin .Mod (.var 0) (.bin .Pow (.int 10) (.int 30))) (.bin .Mult (.int 7919) (.var 1))) (.int 13)))
    (.cons (.ret (.bin .FloorDiv (.bin .Mod (.bin .Mult (.bin .Mod (.bin .Mult (.var 2) (.var 2)) (.int 1000000007)) (.int 48271)) (.int 998244353)) (.int 11)))
    .nil))
/-- _law_cell_at: 0=_law_script 1=_law_k -/
def b27 : SL := (.cons (.ret (.ite (.cmp .NotEq (.var 0) (.lst .nil)) (.ix (.var 0) (.bin .Mod (.var 1) (.bl1 .len (.var 0)))) (.var 1)))
    .nil)
/-- _law_alike: 0=_law_found 1=_law_due 2=_law_one 3=_law_other -/
def b28 : SL := (.cons (.ife (.isiT (.var 1) ["tuple", "list"]) (.cons (.ife (.or (.cmp .NotEq (.blt .isi (.cons false (.var 0) (.cons false (.typ "list" "list") .nil))) (.blt .isi (.cons false (.var 1) (.cons false (.typ "list" "list") .nil)))) (.not (.isiT (.var 0) ["tuple", "list"]))) (.cons (.ret (.bl false))
    .nil) .nil)
    (.cons (.ret (.and (.cmp .Eq (.bl1 .len (.var 0)) (.bl1 .len (.var 1))) (.bl1 .all (.lc (.call "_law_alike" (.cons false (.var 2) (.cons false (.var 3) .nil))) (.tp (.cons (.nm 2) (.cons (.nm 3) .nil))) (.zp (.var 0) (.var 1)) .no [2, 3]))))
    .nil)) .nil)
    (.cons (.ret (.and (.cmp .Eq (.blt .isi (.cons false (.var 0) (.cons false (.typ "bool" "bool") .nil))) (.blt .isi (.cons false (.var 1) (.cons false (.typ "bool" "bool") .nil)))) (.cmp .Eq (.var 0) (.var 1))))
    .nil))
/-- _law_word: 0=_law_number 1=_law_some -/
def b29 : SL := (.cons (.set 1 (.lst (.cons false (.str "lamp") (.cons false (.str "box") (.cons false (.str "key") (.cons false (.str "cup") (.cons false (.str "red") (.cons false (.str "old") (.cons false (.str "big") (.cons false (.str "sword") (.cons false (.str "quill") (.cons false (.str "x") (.cons false (.str "lantern") (.cons false (.str "abcdefgh") .nil))))))))))))))
    (.cons (.ret (.ix (.var 1) (.bin .Mod (.var 0) (.int 12))))
    .nil))
/-- _law_noun: 0=_law_number 1=_law_words 2=_law_k 3=_law_word_here -/
def b30 : SL := (.cons (.set 1 (.lst (.cons false (.call "_law_word" (.cons false (.bin .FloorDiv (.var 0) (.int 8)) .nil)) .nil)))
    (.cons (.fo (.nm 2) (.r1 (.bin .Mod (.var 0) (.int 4))) (.cons (.set 3 (.call "_law_word" (.cons false (.bin .FloorDiv (.var 0) (.bin .Add (.int 12) (.bin .Mult (.int 5) (.var 2)))) .nil)))
    (.cons (.ife (.cmp .NotIn (.var 3) (.var 1)) (.cons (.ex (.meth (.var 1) .append (.cons false (.var 3) .nil)))
    .nil) .nil)
    .nil)))
    (.cons (.ife (.and (.cmp .Eq (.bin .Mod (.bin .FloorDiv (.var 0) (.int 96)) (.int 5)) (.int 1)) (.cmp .Lt (.bl1 .len (.var 1)) (.int 4))) (.cons (.ex (.meth (.var 1) .append (.cons false (.ix (.var 1) (.int 0)) .nil)))
    .nil) .nil)
    (.cons (.ret (.tup (.cons false (.bin .Add (.bin .Mult (.lst (.cons false (.str "the") .nil)) (.bl1 .int (.bin .Mod (.bin .FloorDiv (.var 0) (.int 480)) (.int 2)))) (.var 1)) (.cons false (.bl1 .tuple (.var 1)) .nil))))
    .nil))))
/-- _law_nouns: 0=_law_number 1=_law_said 2=_law_told 3=_law_k 4=_law_one -/
def b31 : SL := (.cons (.set 1 (.lst .nil))
    (.cons (.set 2 (.lst .nil))
    (.cons (.fo (.nm 3) (.r1 (.bin .Add (.int 1) (.bin .Mod (.var 0) (.int 3)))) (.cons (.set 4 (.call "_law_noun" (.cons false (.call "_law_mixed" (.cons false (.var 0) (.cons false (.var 3) .nil))) .nil)))
    (.cons (.set 1 (.bin .Add (.bin .Add (.var 1) (.bin .Mult (.lst (.cons false (.str "and") .nil)) (.bl1 .int (.cmp .Gt (.var 3) (.int 0))))) (.ix (.var 4) (.int 0))))
    (.cons (.ex (.meth (.var 2) .append (.cons false (.ix (.var 4) (.int 1)) .nil)))
    .nil))))
    (.cons (.ret (.tup (.cons false (.var 1) (.cons false (.bl1 .tuple (.var 2)) .nil))))
    .nil))))
/-- _law_phrase: 0=_law_number 1=_law_way 2=_law_said 3=_law_told -/
def b32 : SL := (.cons (.set 1 (.bin .Mod (.var 0) (.int 7)))
    (.cons (.ife (.cmp .Lt (.var 1) (.int 2)) (.cons (.ret (.tup (.cons false (.ix (.lst (.cons false (.lst (.cons false (.str "it") .nil)) (.cons false (.lst (.cons false (.str "them") .nil)) .nil))) (.var 1)) (.cons false (.ix (.lst (.cons false (.tup (.cons false (.str "it") .nil)) (.cons false (.tup (.cons false (.str "them") .nil)) .nil))) (.var 1)) .nil))))
    .nil) .nil)
    (.cons (.ife (.cmp .Eq (.var 1) (.int 2)) (.cons (.ret (.tup (.cons false (.lst (.cons false (.str "all") .nil)) (.cons false (.tup (.cons false (.str "all") (.cons false (.tup .nil) .nil))) .nil))))
    .nil) .nil)
    (.cons (.asg (.cons (.nm 2) (.cons (.nm 3) .nil)) (.call "_law_nouns" (.cons false (.bin .FloorDiv (.var 0) (.int 7)) .nil)))
    (.cons (.ife (.cmp .Eq (.var 1) (.int 3)) (.cons (.ret (.tup (.cons false (.bin .Add (.lst (.cons false (.str "all") (.cons false (.str "but") .nil))) (.var 2)) (.cons false (.tup (.cons false (.str "all") (.cons false (.var 3) .nil))) .nil))))
    .nil) .nil)
    (.cons (.ret (.tup (.cons false (.var 2) (.cons false (.tup (.cons false (.str "some") (.cons false (.var 3) .nil))) .nil))))
    .nil))))))
/-- _law_clause: 0=_law_number 1=_law_way 2=_law_more 3=_law_link 4=_law_one 5=_law_word_here 6=_law_verb 7=_law_said 8=_law_told -/
def b33 : SL := (.cons (.set 1 (.bin .Mod (.var 0) (.int 12)))
    (.cons (.set 2 (.bin .FloorDiv (.var 0) (.int 12)))
    (.cons (.ife (.cmp .Lt (.var 1) (.int 3)) (.cons (.set 5 (.ix (.lst (.cons false (.str "look") (.cons false (.str "list") (.cons false (.str "wait") (.cons false (.str "undo") .nil))))) (.bin .Mod (.var 2) (.int 4))))
    (.cons (.ret (.tup (.cons false (.lst (.cons false (.var 5) .nil)) (.cons false (.tup (.cons false (.var 5) (.cons false (.str "") (.cons false (.str "") (.cons false .non .nil))))) .nil))))
    .nil)) .nil)
    (.cons (.ife (.cmp .Lt (.var 1) (.int 5)) (.cons (.set 5 (.ix (.lst (.cons false (.str "down") (.cons false (.str "east") (.cons false (.str "north") (.cons false (.str "south") (.cons false (.str "up") (.cons false (.str "west") .nil))))))) (.bin .Mod (.var 2) (.int 6))))
    (.cons (.ret (.tup (.cons false (.bin .Add (.bin .Mult (.lst (.cons false (.str "go") .nil)) (.bin .Sub (.var 1) (.int 3))) (.lst (.cons false (.var 5) .nil))) (.cons false (.tup (.cons false (.str "go") (.cons false (.var 5) (.cons false (.str "") (.cons false .non .nil))))) .nil))))
    .nil)) .nil)
    (.cons (.ife (.cmp .Lt (.var 1) (.int 9)) (.cons (.set 6 (.ix (.lst (.cons false (.str "take") (.cons false (.str "drop") (.cons false (.str "open") (.cons false (.str "shut") (.cons false (.str "wear") (.cons false (.str "doff") .nil))))))) (.bin .Mod (.var 2) (.int 6))))
    (.cons (.asg (.cons (.nm 7) (.cons (.nm 8) .nil)) (.call "_law_phrase" (.cons false (.bin .FloorDiv (.var 2) (.int 6)) .nil)))
    (.cons (.ret (.tup (.cons false (.bin .Add (.lst (.cons false (.var 6) .nil)) (.var 7)) (.cons false (.tup (.cons false (.var 6) (.cons false (.var 8) (.cons false (.str "") (.cons false .non .nil))))) .nil))))
    .nil))) .nil)
    (.cons (.asg (.cons (.nm 7) (.cons (.nm 8) .nil)) (.call "_law_phrase" (.cons false (.bin .FloorDiv (.var 2) (.int 2)) .nil)))
    (.cons (.set 3 (.ix (.lst (.cons false (.str "in") (.cons false (.str "on") .nil))) (.bin .Mod (.var 2) (.int 2))))
    (.cons (.ife (.cmp .Eq (.bin .Mod (.bin .FloorDiv (.var 2) (.int 2)) (.int 5)) (.int 1)) (.cons (.ret (.tup (.cons false (.bin .Add (.bin .Add (.lst (.cons false (.str "put") .nil)) (.var 7)) (.lst (.cons false (.var 3) (.cons false (.str "it") .nil)))) (.cons false (.tup (.cons false (.str "put") (.cons false (.var 8) (.cons false (.var 3) (.cons false (.tup (.cons false (.str "it") .nil)) .nil))))) .nil))))
    .nil) .nil)
    (.cons (.set 4 (.call "_law_noun" (.cons false (.call "_law_mixed" (.cons false (.var 2) (.cons false (.int 3) .nil))) .nil)))
    (.cons (.ret (.tup (.cons false (.bin .Add (.bin .Add (.bin .Add (.lst (.cons false (.str "put") .nil)) (.var 7)) (.lst (.cons false (.var 3) .nil))) (.ix (.var 4) (.int 0))) (.cons false (.tup (.cons false (.str "put") (.cons false (.var 8) (.cons false (.var 3) (.cons false (.tup (.cons false (.str "one") (.cons false (.ix (.var 4) (.int 1)) .nil))) .nil))))) .nil))))
    .nil))))))))))
/-- _law_line: 0=_law_script 1=_law_first 2=_law_most 3=_law_said 4=_law_told 5=_law_k 6=_law_words 7=_law_clause_here -/
def b34 : SL := (.cons (.set 3 (.lst .nil))
    (.cons (.set 4 (.lst .nil))
    (.cons (.fo (.nm 5) (.r1 (.var 2)) (.cons (.asg (.cons (.nm 6) (.cons (.nm 7) .nil)) (.call "_law_clause" (.cons false (.call "_law_mixed" (.cons false (.call "_law_cell_at" (.cons false (.var 0) (.cons false (.bin .Add (.var 1) (.var 5)) .nil))) (.cons false (.bin .Add (.var 1) (.var 5)) .nil))) .nil)))
    (.cons (.ife (.and (.cmp .LtE (.bin .Add (.bin .Add (.bl1 .len (.var 3)) (.int 1)) (.bl1 .len (.var 6))) (.int 40)) (.cmp .Lt (.bl1 .len (.var 4)) (.int 8))) (.cons (.set 3 (.bin .Add (.bin .Add (.var 3) (.bin .Mult (.lst (.cons false (.str "then") .nil)) (.bl1 .int (.cmp .NotEq (.var 4) (.lst .nil))))) (.var 6)))
    (.cons (.ex (.meth (.var 4) .append (.cons false (.var 7) .nil)))
    .nil)) .nil)
    .nil)))
    (.cons (.ret (.tup (.cons false (.var 3) (.cons false (.var 4) .nil))))
    .nil))))
/-- _law_right: 0=_law_said 1=_law_due 2=_law_found 3=_law_fields 4=_law_one -/
def b35 : SL := (.cons (.set 2 (.call "clauses_of" (.cons false (.met1 (.str " ") .join (.var 0)) .nil)))
    (.cons (.ife (.or (.not (.blt .isi (.cons false (.var 2) (.cons false (.typ "list" "list") .nil)))) (.not (.bl1 .all (.lc (.isiC (.var 4) "Clause") (.nm 4) (.sq (.var 2)) .no [4])))) (.cons (.ret (.bl false))
    .nil) .nil)
    (.cons (.ife (.not (.call "_law_alike" (.cons false (.lc (.omth (.var 4) "Clause" "told" "Clause.told" .nil) (.nm 4) (.sq (.var 2)) .no [4]) (.cons false (.var 1) .nil)))) (.cons (.ret (.bl false))
    .nil) .nil)
    (.cons (.set 3 (.lc (.tup (.cons false (.fldc (.var 4) "verb" ["Clause"]) (.cons false (.fldc (.var 4) "what" ["Clause"]) (.cons false (.fldc (.var 4) "link" ["Clause"]) (.cons false (.fldc (.var 4) "holder" ["Clause"]) .nil))))) (.nm 4) (.sq (.var 2)) .no [4]))
    (.cons (.ex (.clr (.var 2)))
    (.cons (.ret (.call "_law_alike" (.cons false (.var 3) (.cons false (.var 1) .nil))))
    .nil))))))
/-- law: 0=_law_script 1=_law_lines 2=_law_said 3=_law_due 4=_law_k 5=_law_cell 6=_law_told -/
def b36 : SL := (.cons (.set 1 (.lst (.cons false (.call "_law_line" (.cons false (.var 0) (.cons false (.int 0) (.cons false (.bin .Add (.bl1 .len (.slc (.var 0) .no (.yes (.int 30)))) (.int 1)) .nil)))) (.cons false (.call "_law_line" (.cons false (.revl (.var 0)) (.cons false (.int 40) (.cons false (.int 4) .nil)))) .nil))))
    (.cons (.fo (.tp (.cons (.nm 2) (.cons (.nm 3) .nil))) (.sq (.bin .Add (.var 1) (.slc (.var 1) .no (.yes (.int 1))))) (.cons (.ife (.not (.call "_law_right" (.cons false (.var 2) (.cons false (.var 3) .nil)))) (.cons (.ret (.bl false))
    .nil) .nil)
    .nil))
    (.cons (.fo (.tp (.cons (.nm 4) (.cons (.nm 5) .nil))) (.en (.bin .Add (.slc (.var 0) .no (.yes (.int 40))) (.lst (.cons false (.int 1) .nil)))) (.cons (.asg (.cons (.nm 2) (.cons (.nm 6) .nil)) (.call "_law_clause" (.cons false (.call "_law_mixed" (.cons false (.var 5) (.cons false (.bin .Add (.var 4) (.int 60)) .nil))) .nil)))
    (.cons (.ife (.not (.call "_law_right" (.cons false (.var 2) (.cons false (.lst (.cons false (.var 6) .nil)) .nil)))) (.cons (.ret (.bl false))
    .nil) .nil)
    .nil)))
    (.cons (.ret (.bl true))
    .nil))))
/-- Cursor.refuse_at: 0=self 1=word -/
def b37 : SL := (.cons .bad
    .nil)
def glob : List (Str × D) := [("LONGEST_WORD", .int 8), ("TALE_WORDS", .tup [.str "always", .str "any", .str "say", .str "set", .str "move", .str "stop"]), ("LINE_WORDS", .tup [.str "the", .str "all", .str "but", .str "and", .str "then", .str "it", .str "them", .str "in", .str "on", .str "is", .str "at", .str "you", .str "with", .str "not", .str "nowhere"]), ("DIRECTIONS", .tup [.str "down", .str "east", .str "north", .str "south", .str "up", .str "west"]), ("COMMANDS", .tup [.str "take", .str "drop", .str "put", .str "open", .str "shut", .str "wear", .str "doff", .str "look", .str "go", .str "list", .str "wait", .str "undo"]), ("MOST_WORDS", .int 40), ("MOST_CLAUSES", .int 8), ("LONE_VERBS", .tup [.str "look", .str "list", .str "wait", .str "undo"]), ("MOST_NOUNS", .int 3), ("MOST_NOUN_WORDS", .int 4)]
def blt : List Str := ["all", "bool", "enumerate", "int", "isinstance", "len", "list", "range", "set", "str", "tuple", "zip"]
def dfs : List (Str × Df) := [(("_wall" : Str), (⟨1, 1, b0⟩ : Df)), (("is_word" : Str), (⟨1, 2, b1⟩ : Df)), (("is_reserved" : Str), (⟨1, 1, b2⟩ : Df)), (("is_name" : Str), (⟨1, 1, b3⟩ : Df)), (("words_of" : Str), (⟨1, 2, b4⟩ : Df)), (("Cursor.__init__" : Str), (⟨3, 3, b5⟩ : Df)), (("Cursor.refuse" : Str), (⟨1, 1, b6⟩ : Df)), (("Cursor.refuse_row" : Str), (⟨1, 1, b7⟩ : Df)), (("Cursor.peek" : Str), (⟨1, 1, b8⟩ : Df)), (("Cursor.take_next" : Str), (⟨1, 2, b9⟩ : Df)), (("Cursor.skip" : Str), (⟨2, 2, b10⟩ : Df)), (("Cursor.take_word" : Str), (⟨2, 2, b11⟩ : Df)), (("Cursor.take_one_of" : Str), (⟨2, 2, b12⟩ : Df)), (("Cursor.take_name" : Str), (⟨1, 1, b13⟩ : Df)), (("Cursor.take_figure" : Str), (⟨3, 3, b14⟩ : Df)), (("Cursor.finish" : Str), (⟨1, 1, b15⟩ : Df)), (("Clause.__init__" : Str), (⟨5, 5, b16⟩ : Df)), (("Clause.told" : Str), (⟨1, 1, b17⟩ : Df)), (("clauses_of" : Str), (⟨1, 3, b18⟩ : Df)), (("read_clauses" : Str), (⟨1, 2, b19⟩ : Df)), (("read_clause" : Str), (⟨1, 4, b20⟩ : Df)), (("read_phrase" : Str), (⟨1, 1, b21⟩ : Df)), (("read_holder" : Str), (⟨1, 1, b22⟩ : Df)), (("read_nouns" : Str), (⟨1, 2, b23⟩ : Df)), (("read_noun" : Str), (⟨1, 2, b24⟩ : Df)), (("are_unlike" : Str), (⟨1, 1, b25⟩ : Df)), (("_law_mixed" : Str), (⟨2, 3, b26⟩ : Df)), (("_law_cell_at" : Str), (⟨2, 2, b27⟩ : Df)), (("_law_alike" : Str), (⟨2, 4, b28⟩ : Df)), (("_law_word" : Str), (⟨1, 2, b29⟩ : Df)), (("_law_noun" : Str), (⟨1, 4, b30⟩ : Df)), (("_law_nouns" : Str), (⟨1, 5, b31⟩ : Df)), (("_law_phrase" : Str), (⟨1, 4, b32⟩ : Df)), (("_law_clause" : Str), (⟨1, 9, b33⟩ : Df)), (("_law_line" : Str), (⟨3, 8, b34⟩ : Df)), (("_law_right" : Str), (⟨2, 5, b35⟩ : Df)), (("law" : Str), (⟨1, 7, b36⟩ : Df)), (("Cursor.refuse_at" : Str), (⟨2, 2, b37⟩ : Df))]
def T : Str → Option Df := fun x => dfs.lookup x
end K3

namespace K3
open PySem L2 Z
noncomputable abbrev C (k : Nat) : CallF := calls glob T k
theorem call_eq {x : Str} {f : Df} {k : Nat} {ds : List D} {h : Hh} (e : T x = some f) (l : ds.length = f.ps) : C (k + 1) x ds h = retOf (evB glob (C k) f.body (ds.map some ++ List.replicate (f.ns - f.ps) none) h) := Z.call_eq e l
theorem t1 : T "is_word" = some ⟨1, 2, b1⟩ := by unfold T dfs; repeat (first | exact lk (by decide +kernel) | refine ln (by decide +kernel) ?_)
theorem t2 : T "is_reserved" = some ⟨1, 1, b2⟩ := by unfold T dfs; repeat (first | exact lk (by decide +kernel) | refine ln (by decide +kernel) ?_)
theorem t3 : T "is_name" = some ⟨1, 1, b3⟩ := by unfold T dfs; repeat (first | exact lk (by decide +kernel) | refine ln (by decide +kernel) ?_)
theorem t4 : T "words_of" = some ⟨1, 2, b4⟩ := by unfold T dfs; repeat (first | exact lk (by decide +kernel) | refine ln (by decide +kernel) ?_)
theorem t5 : T "Cursor.__init__" = some ⟨3, 3, b5⟩ := by unfold T dfs; repeat (first | exact lk (by decide +kernel) | refine ln (by decide +kernel) ?_)
theorem t6 : T "Cursor.refuse" = some ⟨1, 1, b6⟩ := by unfold T dfs; repeat (first | exact lk (by decide +kernel) | refine ln (by decide +kernel) ?_)
theorem t7 : T "Cursor.refuse_row" = some ⟨1, 1, b7⟩ := by unfold T dfs; repeat (first | exact lk (by decide +kernel) | refine ln (by decide +kernel) ?_)
theorem t8 : T "Cursor.peek" = some ⟨1, 1, b8⟩ := by unfold T dfs; repeat (first | exact lk (by decide +kernel) | refine ln (by decide +kernel) ?_)
theorem t9 : T "Cursor.take_next" = some ⟨1, 2, b9⟩ := by unfold T dfs; repeat (first | exact lk (by decide +kernel) | refine ln (by decide +kernel) ?_)
theorem t10 : T "Cursor.skip" = some ⟨2, 2, b10⟩ := by unfold T dfs; repeat (first | exact lk (by decide +kernel) | refine ln (by decide +kernel) ?_)
theorem t11 : T "Cursor.take_word" = some ⟨2, 2, b11⟩ := by unfold T dfs; repeat (first | exact lk (by decide +kernel) | refine ln (by decide +kernel) ?_)
theorem t12 : T "Cursor.take_one_of" = some ⟨2, 2, b12⟩ := by unfold T dfs; repeat (first | exact lk (by decide +kernel) | refine ln (by decide +kernel) ?_)
theorem t13 : T "Cursor.take_name" = some ⟨1, 1, b13⟩ := by unfold T dfs; repeat (first | exact lk (by decide +kernel) | refine ln (by decide +kernel) ?_)
theorem t14 : T "Cursor.take_figure" = some ⟨3, 3, b14⟩ := by unfold T dfs; repeat (first | exact lk (by decide +kernel) | refine ln (by decide +kernel) ?_)
theorem t15 : T "Cursor.finish" = some ⟨1, 1, b15⟩ := by unfold T dfs; repeat (first | exact lk (by decide +kernel) | refine ln (by decide +kernel) ?_)
theorem t16 : T "Clause.__init__" = some ⟨5, 5, b16⟩ := by unfold T dfs; repeat (first | exact lk (by decide +kernel) | refine ln (by decide +kernel) ?_)
theorem t17 : T "Clause.told" = some ⟨1, 1, b17⟩ := by unfold T dfs; repeat (first | exact lk (by decide +kernel) | refine ln (by decide +kernel) ?_)
theorem t18 : T "clauses_of" = some ⟨1, 3, b18⟩ := by unfold T dfs; repeat (first | exact lk (by decide +kernel) | refine ln (by decide +kernel) ?_)
theorem t19 : T "read_clauses" = some ⟨1, 2, b19⟩ := by unfold T dfs; repeat (first | exact lk (by decide +kernel) | refine ln (by decide +kernel) ?_)
theorem t20 : T "read_clause" = some ⟨1, 4, b20⟩ := by unfold T dfs; repeat (first | exact lk (by decide +kernel) | refine ln (by decide +kernel) ?_)
theorem t21 : T "read_phrase" = some ⟨1, 1, b21⟩ := by unfold T dfs; repeat (first | exact lk (by decide +kernel) | refine ln (by decide +kernel) ?_)
theorem t22 : T "read_holder" = some ⟨1, 1, b22⟩ := by unfold T dfs; repeat (first | exact lk (by decide +kernel) | refine ln (by decide +kernel) ?_)
theorem t23 : T "read_nouns" = some ⟨1, 2, b23⟩ := by unfold T dfs; repeat (first | exact lk (by decide +kernel) | refine ln (by decide +kernel) ?_)
theorem t24 : T "read_noun" = some ⟨1, 2, b24⟩ := by unfold T dfs; repeat (first | exact lk (by decide +kernel) | refine ln (by decide +kernel) ?_)
theorem t25 : T "are_unlike" = some ⟨1, 1, b25⟩ := by unfold T dfs; repeat (first | exact lk (by decide +kernel) | refine ln (by decide +kernel) ?_)
theorem t26 : T "_law_mixed" = some ⟨2, 3, b26⟩ := by unfold T dfs; repeat (first | exact lk (by decide +kernel) | refine ln (by decide +kernel) ?_)
theorem t27 : T "_law_cell_at" = some ⟨2, 2, b27⟩ := by unfold T dfs; repeat (first | exact lk (by decide +kernel) | refine ln (by decide +kernel) ?_)
theorem t28 : T "_law_alike" = some ⟨2, 4, b28⟩ := by unfold T dfs; repeat (first | exact lk (by decide +kernel) | refine ln (by decide +kernel) ?_)
theorem t29 : T "_law_word" = some ⟨1, 2, b29⟩ := by unfold T dfs; repeat (first | exact lk (by decide +kernel) | refine ln (by decide +kernel) ?_)
theorem t30 : T "_law_noun" = some ⟨1, 4, b30⟩ := by unfold T dfs; repeat (first | exact lk (by decide +kernel) | refine ln (by decide +kernel) ?_)
theorem t31 : T "_law_nouns" = some ⟨1, 5, b31⟩ := by unfold T dfs; repeat (first | exact lk (by decide +kernel) | refine ln (by decide +kernel) ?_)
theorem t32 : T "_law_phrase" = some ⟨1, 4, b32⟩ := by unfold T dfs; repeat (first | exact lk (by decide +kernel) | refine ln (by decide +kernel) ?_)
theorem t33 : T "_law_clause" = some ⟨1, 9, b33⟩ := by unfold T dfs; repeat (first | exact lk (by decide +kernel) | refine ln (by decide +kernel) ?_)
theorem t34 : T "_law_line" = some ⟨3, 8, b34⟩ := by unfold T dfs; repeat (first | exact lk (by decide +kernel) | refine ln (by decide +kernel) ?_)
theorem t35 : T "_law_right" = some ⟨2, 5, b35⟩ := by unfold T dfs; repeat (first | exact lk (by decide +kernel) | refine ln (by decide +kernel) ?_)
theorem t36 : T "law" = some ⟨1, 7, b36⟩ := by unfold T dfs; repeat (first | exact lk (by decide +kernel) | refine ln (by decide +kernel) ?_)
def lCom : List Str := ["take", "drop", "put", "open", "shut", "wear", "doff", "look", "go", "list", "wait", "undo"]
def lDir : List Str := ["down", "east", "north", "south", "up", "west"]
def lLin : List Str := ["the", "all", "but", "and", "then", "it", "them", "in", "on", "is", "at", "you", "with", "not", "nowhere"]
def lTal : List Str := ["always", "any", "say", "set", "move", "stop"]
def lLon : List Str := ["look", "list", "wait", "undo"]
theorem g_com : glob.lookup ("COMMANDS" : Str) = some (.tup (lCom.map D.str)) := by unfold glob; repeat (first | exact lk (by decide +kernel) | refine ln (by decide +kernel) ?_)
theorem g_dir : glob.lookup ("DIRECTIONS" : Str) = some (.tup (lDir.map D.str)) := by unfold glob; repeat (first | exact lk (by decide +kernel) | refine ln (by decide +kernel) ?_)
theorem g_lin : glob.lookup ("LINE_WORDS" : Str) = some (.tup (lLin.map D.str)) := by unfold glob; repeat (first | exact lk (by decide +kernel) | refine ln (by decide +kernel) ?_)
theorem g_tal : glob.lookup ("TALE_WORDS" : Str) = some (.tup (lTal.map D.str)) := by unfold glob; repeat (first | exact lk (by decide +kernel) | refine ln (by decide +kernel) ?_)
theorem g_lon : glob.lookup ("LONE_VERBS" : Str) = some (.tup (lLon.map D.str)) := by unfold glob; repeat (first | exact lk (by decide +kernel) | refine ln (by decide +kernel) ?_)
theorem g_long : glob.lookup ("LONGEST_WORD" : Str) = some (.int 8) := by unfold glob; repeat (first | exact lk (by decide +kernel) | refine ln (by decide +kernel) ?_)
theorem g_words : glob.lookup ("MOST_WORDS" : Str) = some (.int 40) := by unfold glob; repeat (first | exact lk (by decide +kernel) | refine ln (by decide +kernel) ?_)
theorem g_clauses : glob.lookup ("MOST_CLAUSES" : Str) = some (.int 8) := by unfold glob; repeat (first | exact lk (by decide +kernel) | refine ln (by decide +kernel) ?_)
theorem g_nouns : glob.lookup ("MOST_NOUNS" : Str) = some (.int 3) := by unfold glob; repeat (first | exact lk (by decide +kernel) | refine ln (by decide +kernel) ?_)
theorem g_noun : glob.lookup ("MOST_NOUN_WORDS" : Str) = some (.int 4) := by unfold glob; repeat (first | exact lk (by decide +kernel) | refine ln (by decide +kernel) ?_)
theorem is_str {h : Hh} {s : Str} : isinD h [.str s, .ty "str"] = some (.bl true) := rfl
theorem is_word {k : Nat} {h : Hh} {s : Str} (l : s.length ≤ 1000) : C (k + 1) "is_word" [.str s] h = some (.ok (.bl (wordB s)), h) := by
  rw [call_eq t1 rfl]
  have e3 : ∀ x ∈ strItems s, lcEl glob (C k) (.chn .LtE .LtE (.str "a") (.var 1) (.str "z")) (.nm 1) .no [1] [some (.str s), none] x h = some (.ok (match x with | .str y => some (.bl (y.cps.toList.all low)) | _ => none), h) := by
    intro x m
    obtain ⟨c, -, rfl⟩ := List.mem_map.mp m
    unfold lcEl
    by_cases c1 : 97 ≤ c
    · by_cases c2 : c ≤ 122 <;> simp [c1, c2, low, evB, evS.eq_1, evS.eq_2, evS.eq_3, evS.eq_4, evS.eq_5, evS.eq_6, evS.eq_7, evS.eq_10, evS.eq_11, evS.eq_12, evS.eq_14, evS.eq_15, evS.eq_17, ev.eq_1, ev.eq_2, ev.eq_3, ev.eq_4, ev.eq_5, ev.eq_6, ev.eq_7, ev.eq_8, ev.eq_9, ev.eq_10, ev.eq_11, ev.eq_12, ev.eq_13, ev.eq_14, ev.eq_15, ev.eq_16, ev.eq_17, ev.eq_18, ev.eq_19, ev.eq_20, ev.eq_21, ev.eq_22, ev.eq_23, ev.eq_24, ev.eq_25, ev.eq_26, ev.eq_27, ev.eq_28, ev.eq_29, ev.eq_31, ev.eq_32, ev.eq_34, ev.eq_35, ev.eq_36, ev.eq_37, ev.eq_38, ev.eq_39, ev.eq_40, ev.eq_41, evA, evO, evC, evI, vt, tv, bd_ok, bs_ok, bq_nx, bq_rt, pu_ok, re_nx, re_rt, ma_bl, ma_int, ma_str, ma_non, ma_ty, ma_ref, ma_tup, ma_frl, ma_lst, fix_same, getS, Z.evE, Z.evT, Z.vv, tr_bl, b_len, b_isi, b_all, b_any, b_sum, b_str, b_intI, b_intB, b_tup, b_lst, c_eq, c_ne, c_in, c_ni, c_lt, c_gt, c_le, c_is, c_isn, c_isN, c_isnN, c_isI, c_isL, c_isR, o_add, o_sub, q_bl, q_int, q_str, q_NN, a_int, le_z, a_le, bindT, wipeS]
    · simp [c1, low, evB, evS.eq_1, evS.eq_2, evS.eq_3, evS.eq_4, evS.eq_5, evS.eq_6, evS.eq_7, evS.eq_10, evS.eq_11, evS.eq_12, evS.eq_14, evS.eq_15, evS.eq_17, ev.eq_1, ev.eq_2, ev.eq_3, ev.eq_4, ev.eq_5, ev.eq_6, ev.eq_7, ev.eq_8, ev.eq_9, ev.eq_10, ev.eq_11, ev.eq_12, ev.eq_13, ev.eq_14, ev.eq_15, ev.eq_16, ev.eq_17, ev.eq_18, ev.eq_19, ev.eq_20, ev.eq_21, ev.eq_22, ev.eq_23, ev.eq_24, ev.eq_25, ev.eq_26, ev.eq_27, ev.eq_28, ev.eq_29, ev.eq_31, ev.eq_32, ev.eq_34, ev.eq_35, ev.eq_36, ev.eq_37, ev.eq_38, ev.eq_39, ev.eq_40, ev.eq_41, evA, evO, evC, evI, vt, tv, bd_ok, bs_ok, bq_nx, bq_rt, pu_ok, re_nx, re_rt, ma_bl, ma_int, ma_str, ma_non, ma_ty, ma_ref, ma_tup, ma_frl, ma_lst, fix_same, getS, Z.evE, Z.evT, Z.vv, tr_bl, b_len, b_isi, b_all, b_any, b_sum, b_str, b_intI, b_intB, b_tup, b_lst, c_eq, c_ne, c_in, c_ni, c_lt, c_gt, c_le, c_is, c_isn, c_isN, c_isnN, c_isI, c_isL, c_isR, o_add, o_sub, q_bl, q_int, q_str, q_NN, a_int, le_z, a_le, bindT, wipeS]
  have e4 := lcGo_map (st := []) (h := h) _ trivial (strItems s) e3
  have e5 : (strItems s).filterMap (fun x => match x with | .str y => some (D.bl (y.cps.toList.all low)) | _ => none) = s.cps.toList.map fun c => D.bl (low c) := by
    unfold strItems
    rw [List.filterMap_map]
    show s.cps.toList.filterMap (fun c => some (D.bl ([c].all low))) = _
    rw [filterMap_sm]
    simp
  rw [e5] at e4
  have e6 := ev_lc (Φ := C k) (it := .sq (.var 0)) (S := [some (.str s), none]) (h := h) (h1 := h) (st := []) (by simp [evB, evS.eq_1, evS.eq_2, evS.eq_3, evS.eq_4, evS.eq_5, evS.eq_6, evS.eq_7, evS.eq_10, evS.eq_11, evS.eq_12, evS.eq_14, evS.eq_15, evS.eq_17, ev.eq_1, ev.eq_2, ev.eq_3, ev.eq_4, ev.eq_5, ev.eq_6, ev.eq_7, ev.eq_8, ev.eq_9, ev.eq_10, ev.eq_11, ev.eq_12, ev.eq_13, ev.eq_14, ev.eq_15, ev.eq_16, ev.eq_17, ev.eq_18, ev.eq_19, ev.eq_20, ev.eq_21, ev.eq_22, ev.eq_23, ev.eq_24, ev.eq_25, ev.eq_26, ev.eq_27, ev.eq_28, ev.eq_29, ev.eq_31, ev.eq_32, ev.eq_34, ev.eq_35, ev.eq_36, ev.eq_37, ev.eq_38, ev.eq_39, ev.eq_40, ev.eq_41, evA, evO, evC, evI, vt, tv, bd_ok, bs_ok, bq_nx, bq_rt, pu_ok, re_nx, re_rt, ma_bl, ma_int, ma_str, ma_non, ma_ty, ma_ref, ma_tup, ma_frl, ma_lst, fix_same, getS, Z.evE, Z.evT, Z.vv, tr_bl, b_len, b_isi, b_all, b_any, b_sum, b_str, b_intI, b_intB, b_tup, b_lst, c_eq, c_ne, c_in, c_ni, c_lt, c_gt, c_le, c_is, c_isn, c_isN, c_isnN, c_isI, c_isL, c_isR, o_add, o_sub, q_bl, q_int, q_str, q_NN, a_int]) (by rw [strItems_len]; exact len_ok l) e4
  have e7 : overL (fun xs => (blsD xs).map fun ns => .bl (ns.all id)) h [.lst (s.cps.toList.map fun c => D.bl (low c))] = some (.bl (s.cps.toList.all low)) := by
    simp only [overL, lsD, blsD_map]
    simp
  by_cases c1 : 1 ≤ s.length
  · have c1' : (1 : Int) ≤ s.length := by omega
    by_cases c2 : s.length ≤ 8
    · have c2' : (s.length : Int) ≤ 8 := by omega
      simp [b1, evB, evS.eq_1, evS.eq_2, evS.eq_3, evS.eq_4, evS.eq_5, evS.eq_6, evS.eq_7, evS.eq_10, evS.eq_11, evS.eq_12, evS.eq_14, evS.eq_15, evS.eq_17, ev.eq_1, ev.eq_2, ev.eq_3, ev.eq_4, ev.eq_5, ev.eq_6, ev.eq_7, ev.eq_8, ev.eq_9, ev.eq_10, ev.eq_11, ev.eq_12, ev.eq_13, ev.eq_14, ev.eq_15, ev.eq_16, ev.eq_17, ev.eq_18, ev.eq_19, ev.eq_20, ev.eq_21, ev.eq_22, ev.eq_23, ev.eq_24, ev.eq_25, ev.eq_26, ev.eq_27, ev.eq_28, ev.eq_29, ev.eq_31, ev.eq_32, ev.eq_34, ev.eq_35, ev.eq_36, ev.eq_37, ev.eq_38, ev.eq_39, ev.eq_40, ev.eq_41, evA, evO, evC, evI, vt, tv, bd_ok, bs_ok, bq_nx, bq_rt, pu_ok, re_nx, re_rt, ma_bl, ma_int, ma_str, ma_non, ma_ty, ma_ref, ma_tup, ma_frl, ma_lst, fix_same, getS, Z.evE, Z.evT, Z.vv, tr_bl, b_len, b_isi, b_all, b_any, b_sum, b_str, b_intI, b_intB, b_tup, b_lst, c_eq, c_ne, c_in, c_ni, c_lt, c_gt, c_le, c_is, c_isn, c_isN, c_isnN, c_isI, c_isL, c_isR, o_add, o_sub, q_bl, q_int, q_str, q_NN, a_int, is_str, lenD_str l, g_long, c1', c2', e6, e7, wordB, c1, c2]
    · have c2' : ¬ (s.length : Int) ≤ 8 := by omega
      simp [b1, evB, evS.eq_1, evS.eq_2, evS.eq_3, evS.eq_4, evS.eq_5, evS.eq_6, evS.eq_7, evS.eq_10, evS.eq_11, evS.eq_12, evS.eq_14, evS.eq_15, evS.eq_17, ev.eq_1, ev.eq_2, ev.eq_3, ev.eq_4, ev.eq_5, ev.eq_6, ev.eq_7, ev.eq_8, ev.eq_9, ev.eq_10, ev.eq_11, ev.eq_12, ev.eq_13, ev.eq_14, ev.eq_15, ev.eq_16, ev.eq_17, ev.eq_18, ev.eq_19, ev.eq_20, ev.eq_21, ev.eq_22, ev.eq_23, ev.eq_24, ev.eq_25, ev.eq_26, ev.eq_27, ev.eq_28, ev.eq_29, ev.eq_31, ev.eq_32, ev.eq_34, ev.eq_35, ev.eq_36, ev.eq_37, ev.eq_38, ev.eq_39, ev.eq_40, ev.eq_41, evA, evO, evC, evI, vt, tv, bd_ok, bs_ok, bq_nx, bq_rt, pu_ok, re_nx, re_rt, ma_bl, ma_int, ma_str, ma_non, ma_ty, ma_ref, ma_tup, ma_frl, ma_lst, fix_same, getS, Z.evE, Z.evT, Z.vv, tr_bl, b_len, b_isi, b_all, b_any, b_sum, b_str, b_intI, b_intB, b_tup, b_lst, c_eq, c_ne, c_in, c_ni, c_lt, c_gt, c_le, c_is, c_isn, c_isN, c_isnN, c_isI, c_isL, c_isR, o_add, o_sub, q_bl, q_int, q_str, q_NN, a_int, is_str, lenD_str l, g_long, c1', c2', wordB, c1, c2]
  · have c1' : ¬ (1 : Int) ≤ s.length := by omega
    simp [b1, evB, evS.eq_1, evS.eq_2, evS.eq_3, evS.eq_4, evS.eq_5, evS.eq_6, evS.eq_7, evS.eq_10, evS.eq_11, evS.eq_12, evS.eq_14, evS.eq_15, evS.eq_17, ev.eq_1, ev.eq_2, ev.eq_3, ev.eq_4, ev.eq_5, ev.eq_6, ev.eq_7, ev.eq_8, ev.eq_9, ev.eq_10, ev.eq_11, ev.eq_12, ev.eq_13, ev.eq_14, ev.eq_15, ev.eq_16, ev.eq_17, ev.eq_18, ev.eq_19, ev.eq_20, ev.eq_21, ev.eq_22, ev.eq_23, ev.eq_24, ev.eq_25, ev.eq_26, ev.eq_27, ev.eq_28, ev.eq_29, ev.eq_31, ev.eq_32, ev.eq_34, ev.eq_35, ev.eq_36, ev.eq_37, ev.eq_38, ev.eq_39, ev.eq_40, ev.eq_41, evA, evO, evC, evI, vt, tv, bd_ok, bs_ok, bq_nx, bq_rt, pu_ok, re_nx, re_rt, ma_bl, ma_int, ma_str, ma_non, ma_ty, ma_ref, ma_tup, ma_frl, ma_lst, fix_same, getS, Z.evE, Z.evT, Z.vv, tr_bl, b_len, b_isi, b_all, b_any, b_sum, b_str, b_intI, b_intB, b_tup, b_lst, c_eq, c_ne, c_in, c_ni, c_lt, c_gt, c_le, c_is, c_isn, c_isN, c_isnN, c_isI, c_isL, c_isR, o_add, o_sub, q_bl, q_int, q_str, q_NN, a_int, is_str, lenD_str l, g_long, c1', wordB, c1]
def resL : List Str := lCom ++ lDir ++ lLin ++ lTal
def resB (s : Str) : Bool := decide (s ∈ resL)
theorem resB_eq (s : Str) : resB s = (decide (s ∈ lCom) || (decide (s ∈ lDir) || (decide (s ∈ lLin) || decide (s ∈ lTal)))) := by
  unfold resB resL
  rw [Bool.eq_iff_iff]
  simp only [List.mem_append, Bool.or_eq_true, decide_eq_true_eq, or_assoc]
theorem is_reserved {k : Nat} {h : Hh} {s : Str} : C (k + 1) "is_reserved" [.str s] h = some (.ok (.bl (resB s)), h) := by
  rw [call_eq t2 rfl, resB_eq]
  have i1 : inD h (.str s) (.tup (lCom.map D.str)) = some (decide (s ∈ lCom)) := inD_strs rfl
  have i2 : inD h (.str s) (.tup (lDir.map D.str)) = some (decide (s ∈ lDir)) := inD_strs rfl
  have i3 : inD h (.str s) (.tup (lLin.map D.str)) = some (decide (s ∈ lLin)) := inD_strs rfl
  have i4 : inD h (.str s) (.tup (lTal.map D.str)) = some (decide (s ∈ lTal)) := inD_strs rfl
  by_cases c1 : s ∈ lCom
  · simp [b2, evB, evS.eq_1, evS.eq_2, evS.eq_3, evS.eq_4, evS.eq_5, evS.eq_6, evS.eq_7, evS.eq_10, evS.eq_11, evS.eq_12, evS.eq_14, evS.eq_15, evS.eq_17, ev.eq_1, ev.eq_2, ev.eq_3, ev.eq_4, ev.eq_5, ev.eq_6, ev.eq_7, ev.eq_8, ev.eq_9, ev.eq_10, ev.eq_11, ev.eq_12, ev.eq_13, ev.eq_14, ev.eq_15, ev.eq_16, ev.eq_17, ev.eq_18, ev.eq_19, ev.eq_20, ev.eq_21, ev.eq_22, ev.eq_23, ev.eq_24, ev.eq_25, ev.eq_26, ev.eq_27, ev.eq_28, ev.eq_29, ev.eq_31, ev.eq_32, ev.eq_34, ev.eq_35, ev.eq_36, ev.eq_37, ev.eq_38, ev.eq_39, ev.eq_40, ev.eq_41, evA, evO, evC, evI, vt, tv, bd_ok, bs_ok, bq_nx, bq_rt, pu_ok, re_nx, re_rt, ma_bl, ma_int, ma_str, ma_non, ma_ty, ma_ref, ma_tup, ma_frl, ma_lst, fix_same, getS, Z.evE, Z.evT, Z.vv, tr_bl, b_len, b_isi, b_all, b_any, b_sum, b_str, b_intI, b_intB, b_tup, b_lst, c_eq, c_ne, c_in, c_ni, c_lt, c_gt, c_le, c_is, c_isn, c_isN, c_isnN, c_isI, c_isL, c_isR, o_add, o_sub, q_bl, q_int, q_str, q_NN, a_int, is_str, g_com, i1, c1, -List.map_cons]
  · by_cases c2 : s ∈ lDir
    · simp [b2, evB, evS.eq_1, evS.eq_2, evS.eq_3, evS.eq_4, evS.eq_5, evS.eq_6, evS.eq_7, evS.eq_10, evS.eq_11, evS.eq_12, evS.eq_14, evS.eq_15, evS.eq_17, ev.eq_1, ev.eq_2, ev.eq_3, ev.eq_4, ev.eq_5, ev.eq_6, ev.eq_7, ev.eq_8, ev.eq_9, ev.eq_10, ev.eq_11, ev.eq_12, ev.eq_13, ev.eq_14, ev.eq_15, ev.eq_16, ev.eq_17, ev.eq_18, ev.eq_19, ev.eq_20, ev.eq_21, ev.eq_22, ev.eq_23, ev.eq_24, ev.eq_25, ev.eq_26, ev.eq_27, ev.eq_28, ev.eq_29, ev.eq_31, ev.eq_32, ev.eq_34, ev.eq_35, ev.eq_36, ev.eq_37, ev.eq_38, ev.eq_39, ev.eq_40, ev.eq_41, evA, evO, evC, evI, vt, tv, bd_ok, bs_ok, bq_nx, bq_rt, pu_ok, re_nx, re_rt, ma_bl, ma_int, ma_str, ma_non, ma_ty, ma_ref, ma_tup, ma_frl, ma_lst, fix_same, getS, Z.evE, Z.evT, Z.vv, tr_bl, b_len, b_isi, b_all, b_any, b_sum, b_str, b_intI, b_intB, b_tup, b_lst, c_eq, c_ne, c_in, c_ni, c_lt, c_gt, c_le, c_is, c_isn, c_isN, c_isnN, c_isI, c_isL, c_isR, o_add, o_sub, q_bl, q_int, q_str, q_NN, a_int, is_str, g_com, g_dir, i1, i2, c1, c2]
    · by_cases c3 : s ∈ lLin <;> simp [b2, evB, evS.eq_1, evS.eq_2, evS.eq_3, evS.eq_4, evS.eq_5, evS.eq_6, evS.eq_7, evS.eq_10, evS.eq_11, evS.eq_12, evS.eq_14, evS.eq_15, evS.eq_17, ev.eq_1, ev.eq_2, ev.eq_3, ev.eq_4, ev.eq_5, ev.eq_6, ev.eq_7, ev.eq_8, ev.eq_9, ev.eq_10, ev.eq_11, ev.eq_12, ev.eq_13, ev.eq_14, ev.eq_15, ev.eq_16, ev.eq_17, ev.eq_18, ev.eq_19, ev.eq_20, ev.eq_21, ev.eq_22, ev.eq_23, ev.eq_24, ev.eq_25, ev.eq_26, ev.eq_27, ev.eq_28, ev.eq_29, ev.eq_31, ev.eq_32, ev.eq_34, ev.eq_35, ev.eq_36, ev.eq_37, ev.eq_38, ev.eq_39, ev.eq_40, ev.eq_41, evA, evO, evC, evI, vt, tv, bd_ok, bs_ok, bq_nx, bq_rt, pu_ok, re_nx, re_rt, ma_bl, ma_int, ma_str, ma_non, ma_ty, ma_ref, ma_tup, ma_frl, ma_lst, fix_same, getS, Z.evE, Z.evT, Z.vv, tr_bl, b_len, b_isi, b_all, b_any, b_sum, b_str, b_intI, b_intB, b_tup, b_lst, c_eq, c_ne, c_in, c_ni, c_lt, c_gt, c_le, c_is, c_isn, c_isN, c_isnN, c_isI, c_isL, c_isR, o_add, o_sub, q_bl, q_int, q_str, q_NN, a_int, is_str, g_com, g_dir, g_lin, g_tal, i1, i2, i3, i4, c1, c2, c3]
def nameB (s : Str) : Bool := wordB s && !resB s
theorem is_name {k : Nat} {h : Hh} {s : Str} (l : s.length ≤ 1000) : C (k + 2) "is_name" [.str s] h = some (.ok (.bl (nameB s)), h) := by
  rw [call_eq t3 rfl]
  have e1 := is_word (k := k) (h := h) l
  have e2 := is_reserved (k := k) (h := h) (s := s)
  unfold nameB
  cases q : wordB s <;> rw [q] at e1 <;> simp [b3, evB, evS.eq_1, evS.eq_2, evS.eq_3, evS.eq_4, evS.eq_5, evS.eq_6, evS.eq_7, evS.eq_10, evS.eq_11, evS.eq_12, evS.eq_14, evS.eq_15, evS.eq_17, ev.eq_1, ev.eq_2, ev.eq_3, ev.eq_4, ev.eq_5, ev.eq_6, ev.eq_7, ev.eq_8, ev.eq_9, ev.eq_10, ev.eq_11, ev.eq_12, ev.eq_13, ev.eq_14, ev.eq_15, ev.eq_16, ev.eq_17, ev.eq_18, ev.eq_19, ev.eq_20, ev.eq_21, ev.eq_22, ev.eq_23, ev.eq_24, ev.eq_25, ev.eq_26, ev.eq_27, ev.eq_28, ev.eq_29, ev.eq_31, ev.eq_32, ev.eq_34, ev.eq_35, ev.eq_36, ev.eq_37, ev.eq_38, ev.eq_39, ev.eq_40, ev.eq_41, evA, evO, evC, evI, vt, tv, bd_ok, bs_ok, bq_nx, bq_rt, pu_ok, re_nx, re_rt, ma_bl, ma_int, ma_str, ma_non, ma_ty, ma_ref, ma_tup, ma_frl, ma_lst, fix_same, getS, Z.evE, Z.evT, Z.vv, tr_bl, b_len, b_isi, b_all, b_any, b_sum, b_str, b_intI, b_intB, b_tup, b_lst, c_eq, c_ne, c_in, c_ni, c_lt, c_gt, c_le, c_is, c_isn, c_isN, c_isnN, c_isI, c_isL, c_isR, o_add, o_sub, q_bl, q_int, q_str, q_NN, a_int, e1, e2]
/-- the words of a row, in a list of its own -/
theorem words_of {k : Nat} {h : Hh} {ws : List Str} (hne : ws ≠ []) (hs : ∀ w ∈ ws, 32 ∉ w.cps.toList ∧ w ≠ Str.empty) (l : (Txt.join sp ws).length ≤ 100000) (ln : ws.length ≤ 1000) :
    ∃ h2 n g, C (k + 1) "words_of" [.str (Txt.join sp ws)] h = some (.ok (.ref n), h2) ∧ h2 = h ++ g ∧ h.length ≤ n ∧ h2[n]? = some (.lst (ws.map D.str)) := by
  rw [call_eq t4 rfl]
  have e0 : mthD h (Txt.join sp ws) .split (.str " ") = some (.lst (ws.map .str)) := by
    have : mthD h (Txt.join sp ws) .split (.str sp) = some (.lst ((Txt.split (Txt.join sp ws) sp).map .str)) := if_pos ⟨by decide +kernel, Nat.le_trans (Nat.add_le_add_right l 2) (by decide)⟩
    rw [split_join hne fun w m => (hs w m).1] at this
    exact this
  have ee : ("" : Str) = Str.empty := by decide +kernel
  have g0 : (h ++ [O.lst (ws.map D.str)])[h.length]? = some (.lst (ws.map D.str)) := by rw [List.getElem?_append_right (Nat.le_refl _), Nat.sub_self]; rfl
  have i1 : inD (h ++ [.lst (ws.map .str)]) (.str "") (.ref h.length) = some false := by
    rw [ee, inD_strs (l := ws) (by simp only [sqD, lsD, g0])]
    congr 1
    exact decide_eq_false fun m => (hs _ m).2 rfl
  refine ⟨_, h.length, [.lst (ws.map .str)], ?_, rfl, Nat.le_refl _, g0⟩
  simp [b4, evB, evS.eq_1, evS.eq_2, evS.eq_3, evS.eq_4, evS.eq_5, evS.eq_6, evS.eq_7, evS.eq_10, evS.eq_11, evS.eq_12, evS.eq_14, evS.eq_15, evS.eq_17, ev.eq_1, ev.eq_2, ev.eq_3, ev.eq_4, ev.eq_5, ev.eq_6, ev.eq_7, ev.eq_8, ev.eq_9, ev.eq_10, ev.eq_11, ev.eq_12, ev.eq_13, ev.eq_14, ev.eq_15, ev.eq_16, ev.eq_17, ev.eq_18, ev.eq_19, ev.eq_20, ev.eq_21, ev.eq_22, ev.eq_23, ev.eq_24, ev.eq_25, ev.eq_26, ev.eq_27, ev.eq_28, ev.eq_29, ev.eq_31, ev.eq_32, ev.eq_34, ev.eq_35, ev.eq_36, ev.eq_37, ev.eq_38, ev.eq_39, ev.eq_40, ev.eq_41, evA, evO, evC, evI, vt, tv, bd_ok, bs_ok, bq_nx, bq_rt, pu_ok, re_nx, re_rt, ma_bl, ma_int, ma_str, ma_non, ma_ty, ma_ref, ma_tup, ma_frl, ma_lst, fix_same, getS, Z.evE, Z.evT, Z.vv, tr_bl, b_len, b_isi, b_all, b_any, b_sum, b_str, b_intI, b_intB, b_tup, b_lst, c_eq, c_ne, c_in, c_ni, c_lt, c_gt, c_le, c_is, c_isn, c_isN, c_isnN, c_isI, c_isL, c_isR, o_add, o_sub, q_bl, q_int, q_str, q_NN, a_int, is_str, e0, i1]
end K3

namespace K3
open PySem L2 Z
theorem fix_set {h : Hh} {n : Nat} {o : O} {d : D} : fix h d (h.set n o) = some (.ok d, h.set n o) := fix_len List.length_set
theorem nolk {β : Type} {x : Str} {ns : List Str} : ∀ {l : List (Str × β)}, l.map (·.1) = ns → (ns.all fun y => !(x == y)) = true → l.lookup x = none
  | [], _, _ => rfl
  | (y, b) :: l, e, q => by
    subst e
    simp only [List.map_cons, List.all_cons, Bool.and_eq_true, Bool.not_eq_true'] at q
    rw [List.lookup_cons, q.1]
    exact nolk rfl q.2
abbrev cf (w i : Nat) : List (Str × D) := [("_row", .int 1), ("_words", .ref w), ("_at", .int i)]
abbrev cu (w i : Nat) : O := .ins "Cursor" (cf w i)
theorem f_row {w i : Nat} : (cf w i).lookup ("_row" : Str) = some (.int 1) := lk (by decide +kernel)
theorem f_words {w i : Nat} : (cf w i).lookup ("_words" : Str) = some (.ref w) := ln (by decide +kernel) (lk (by decide +kernel))
theorem f_at {w i : Nat} : (cf w i).lookup ("_at" : Str) = some (.int i) := ln (by decide +kernel) (ln (by decide +kernel) (lk (by decide +kernel)))
theorem n_peek {w i : Nat} : (cf w i).lookup ("peek" : Str) = none := nolk (ns := ["_row", "_words", "_at"]) rfl (by decide +kernel)
theorem n_next {w i : Nat} : (cf w i).lookup ("take_next" : Str) = none := nolk (ns := ["_row", "_words", "_at"]) rfl (by decide +kernel)
theorem n_skip {w i : Nat} : (cf w i).lookup ("skip" : Str) = none := nolk (ns := ["_row", "_words", "_at"]) rfl (by decide +kernel)
theorem n_one {w i : Nat} : (cf w i).lookup ("take_one_of" : Str) = none := nolk (ns := ["_row", "_words", "_at"]) rfl (by decide +kernel)
theorem n_name {w i : Nat} : (cf w i).lookup ("take_name" : Str) = none := nolk (ns := ["_row", "_words", "_at"]) rfl (by decide +kernel)
theorem n_fin {w i : Nat} : (cf w i).lookup ("finish" : Str) = none := nolk (ns := ["_row", "_words", "_at"]) rfl (by decide +kernel)
theorem put_at {w i : Nat} : putD "_at" (.int ((i : Int) + 1)) (cf w i) = cf w (i + 1) := by
  rw [putD, if_neg (by decide +kernel), putD, if_neg (by decide +kernel), putD, if_pos rfl]
  rfl
def pk (ws : List Str) (i : Nat) : Str := (ws[i]?).getD ("" : Str)
structure Cur (h : Hh) (c w : Nat) (ws : List Str) (i : Nat) : Prop where
  oc : h[c]? = some (cu w i)
  ow : h[w]? = some (.lst (ws.map D.str))
  ne : c ≠ w
  sm : ws.length ≤ 100
  ok : ∀ x ∈ ws, x.length ≤ 8
section
variable {k : Nat} {h : Hh} {c w i : Nat} {ws : List Str}
theorem Cur.lt (u : Cur h c w ws i) : c < h.length := (List.getElem?_eq_some_iff.mp u.oc).1
theorem Cur.ltw (u : Cur h c w ws i) : w < h.length := (List.getElem?_eq_some_iff.mp u.ow).1
theorem Cur.set (u : Cur h c w ws i) (j : Nat) : Cur (h.set c (cu w j)) c w ws j := ⟨List.getElem?_set_self u.lt, by rw [List.getElem?_set_ne u.ne]; exact u.ow, u.ne, u.sm, u.ok⟩
theorem Cur.app (u : Cur h c w ws i) (g : Hh) : Cur (h ++ g) c w ws i := ⟨by rw [List.getElem?_append_left u.lt]; exact u.oc, by rw [List.getElem?_append_left u.ltw]; exact u.ow, u.ne, u.sm, u.ok⟩
theorem Cur.up (u : Cur h c w ws i) (j : Nat) (g : Hh) : Cur (h.set c (cu w j) ++ g) c w ws j := (u.set j).app g
theorem pk_len (u : Cur h c w ws i) (j : Nat) : (pk ws j).length ≤ 8 := by
  unfold pk
  cases q : ws[j]? with
  | none => decide +kernel
  | some x => exact u.ok x (List.mem_of_getElem? q)
theorem peek (u : Cur h c w ws i) : C (k + 1) "Cursor.peek" [.ref c] h = some (.ok (.str (pk ws i)), h) := by
  rw [call_eq t8 rfl]
  have e1 : h[c]? = some (.ins "Cursor" (cf w i)) := u.oc
  have e2 : lenD h [.ref w] = some (.int ws.length) := by rw [lenD_ref u.ow, List.length_map]
  by_cases q : i < ws.length
  · have q' : (i : Int) < ws.length := by omega
    have e3 : ixD h (.ref w) (.int i) = some (.str (pk ws i)) := by
      show (match sqD h (.ref w) with | some xs => atI xs i | none => none) = _
      simp only [sqD, lsD, u.ow]
      unfold atI ixN
      rw [if_pos (by omega), if_pos (by rw [List.length_map]; omega)]
      show (ws.map D.str)[(i : Int).toNat]? = _
      rw [Int.toNat_natCast, List.getElem?_map, pk, List.getElem?_eq_getElem q]
      rfl
    simp [b8, evB, evS.eq_1, evS.eq_2, evS.eq_3, evS.eq_4, evS.eq_5, evS.eq_6, evS.eq_7, evS.eq_10, evS.eq_11, evS.eq_12, evS.eq_14, evS.eq_15, evS.eq_17, ev.eq_1, ev.eq_2, ev.eq_3, ev.eq_4, ev.eq_5, ev.eq_6, ev.eq_7, ev.eq_8, ev.eq_9, ev.eq_10, ev.eq_11, ev.eq_12, ev.eq_13, ev.eq_14, ev.eq_15, ev.eq_16, ev.eq_17, ev.eq_18, ev.eq_19, ev.eq_20, ev.eq_21, ev.eq_22, ev.eq_23, ev.eq_24, ev.eq_25, ev.eq_26, ev.eq_27, ev.eq_28, ev.eq_29, ev.eq_31, ev.eq_32, ev.eq_34, ev.eq_35, ev.eq_36, ev.eq_37, ev.eq_38, ev.eq_39, ev.eq_40, ev.eq_41, evA, evO, evC, evI, vt, tv, bd_ok, bs_ok, bq_nx, bq_rt, pu_ok, re_nx, re_rt, ma_bl, ma_int, ma_str, ma_non, ma_ty, ma_ref, ma_tup, ma_frl, ma_lst, fix_same, getS, Z.evE, Z.evT, Z.vv, tr_bl, b_len, b_isi, b_all, b_any, b_sum, b_str, b_intI, b_intB, b_tup, b_lst, c_eq, c_ne, c_in, c_ni, c_lt, c_gt, c_le, c_is, c_isn, c_isN, c_isnN, c_isI, c_isL, c_isR, o_add, o_sub, q_bl, q_int, q_str, q_NN, a_int, e1, e2, e3, f_at, f_words, q']
  · have q' : ¬ (i : Int) < ws.length := by omega
    have e3 : pk ws i = "" := by rw [pk, List.getElem?_eq_none (by omega)]; rfl
    rw [e3]
    simp [b8, evB, evS.eq_1, evS.eq_2, evS.eq_3, evS.eq_4, evS.eq_5, evS.eq_6, evS.eq_7, evS.eq_10, evS.eq_11, evS.eq_12, evS.eq_14, evS.eq_15, evS.eq_17, ev.eq_1, ev.eq_2, ev.eq_3, ev.eq_4, ev.eq_5, ev.eq_6, ev.eq_7, ev.eq_8, ev.eq_9, ev.eq_10, ev.eq_11, ev.eq_12, ev.eq_13, ev.eq_14, ev.eq_15, ev.eq_16, ev.eq_17, ev.eq_18, ev.eq_19, ev.eq_20, ev.eq_21, ev.eq_22, ev.eq_23, ev.eq_24, ev.eq_25, ev.eq_26, ev.eq_27, ev.eq_28, ev.eq_29, ev.eq_31, ev.eq_32, ev.eq_34, ev.eq_35, ev.eq_36, ev.eq_37, ev.eq_38, ev.eq_39, ev.eq_40, ev.eq_41, evA, evO, evC, evI, vt, tv, bd_ok, bs_ok, bq_nx, bq_rt, pu_ok, re_nx, re_rt, ma_bl, ma_int, ma_str, ma_non, ma_ty, ma_ref, ma_tup, ma_frl, ma_lst, fix_same, getS, Z.evE, Z.evT, Z.vv, tr_bl, b_len, b_isi, b_all, b_any, b_sum, b_str, b_intI, b_intB, b_tup, b_lst, c_eq, c_ne, c_in, c_ni, c_lt, c_gt, c_le, c_is, c_isn, c_isN, c_isnN, c_isI, c_isL, c_isR, o_add, o_sub, q_bl, q_int, q_str, q_NN, a_int, e1, e2, f_at, f_words, q']
theorem next (u : Cur h c w ws i) : C (k + 2) "Cursor.take_next" [.ref c] h = some (.ok (.str (pk ws i)), h.set c (cu w (i + 1))) := by
  rw [call_eq t9 rfl]
  have e1 : h[c]? = some (.ins "Cursor" (cf w i)) := u.oc
  have e0 := peek (k := k) u
  simp [b9, evB, evS.eq_1, evS.eq_2, evS.eq_3, evS.eq_4, evS.eq_5, evS.eq_6, evS.eq_7, evS.eq_10, evS.eq_11, evS.eq_12, evS.eq_14, evS.eq_15, evS.eq_17, ev.eq_1, ev.eq_2, ev.eq_3, ev.eq_4, ev.eq_5, ev.eq_6, ev.eq_7, ev.eq_8, ev.eq_9, ev.eq_10, ev.eq_11, ev.eq_12, ev.eq_13, ev.eq_14, ev.eq_15, ev.eq_16, ev.eq_17, ev.eq_18, ev.eq_19, ev.eq_20, ev.eq_21, ev.eq_22, ev.eq_23, ev.eq_24, ev.eq_25, ev.eq_26, ev.eq_27, ev.eq_28, ev.eq_29, ev.eq_31, ev.eq_32, ev.eq_34, ev.eq_35, ev.eq_36, ev.eq_37, ev.eq_38, ev.eq_39, ev.eq_40, ev.eq_41, evA, evO, evC, evI, vt, tv, bd_ok, bs_ok, bq_nx, bq_rt, pu_ok, re_nx, re_rt, ma_bl, ma_int, ma_str, ma_non, ma_ty, ma_ref, ma_tup, ma_frl, ma_lst, fix_same, getS, Z.evE, Z.evT, Z.vv, tr_bl, b_len, b_isi, b_all, b_any, b_sum, b_str, b_intI, b_intB, b_tup, b_lst, c_eq, c_ne, c_in, c_ni, c_lt, c_gt, c_le, c_is, c_isn, c_isN, c_isnN, c_isI, c_isL, c_isR, o_add, o_sub, q_bl, q_int, q_str, q_NN, a_int, e1, e0, f_at, n_peek, put_at]
theorem skip (u : Cur h c w ws i) (x : Str) : C (k + 2) "Cursor.skip" [.ref c, .str x] h = some (.ok (.bl (decide (pk ws i = x))), if pk ws i = x then h.set c (cu w (i + 1)) else h) := by
  rw [call_eq t10 rfl]
  have e1 : h[c]? = some (.ins "Cursor" (cf w i)) := u.oc
  have e0 := peek (k := k) u
  by_cases q : pk ws i = x <;> simp [b10, evB, evS.eq_1, evS.eq_2, evS.eq_3, evS.eq_4, evS.eq_5, evS.eq_6, evS.eq_7, evS.eq_10, evS.eq_11, evS.eq_12, evS.eq_14, evS.eq_15, evS.eq_17, ev.eq_1, ev.eq_2, ev.eq_3, ev.eq_4, ev.eq_5, ev.eq_6, ev.eq_7, ev.eq_8, ev.eq_9, ev.eq_10, ev.eq_11, ev.eq_12, ev.eq_13, ev.eq_14, ev.eq_15, ev.eq_16, ev.eq_17, ev.eq_18, ev.eq_19, ev.eq_20, ev.eq_21, ev.eq_22, ev.eq_23, ev.eq_24, ev.eq_25, ev.eq_26, ev.eq_27, ev.eq_28, ev.eq_29, ev.eq_31, ev.eq_32, ev.eq_34, ev.eq_35, ev.eq_36, ev.eq_37, ev.eq_38, ev.eq_39, ev.eq_40, ev.eq_41, evA, evO, evC, evI, vt, tv, bd_ok, bs_ok, bq_nx, bq_rt, pu_ok, re_nx, re_rt, ma_bl, ma_int, ma_str, ma_non, ma_ty, ma_ref, ma_tup, ma_frl, ma_lst, fix_same, getS, Z.evE, Z.evT, Z.vv, tr_bl, b_len, b_isi, b_all, b_any, b_sum, b_str, b_intI, b_intB, b_tup, b_lst, c_eq, c_ne, c_in, c_ni, c_lt, c_gt, c_le, c_is, c_isn, c_isN, c_isnN, c_isI, c_isL, c_isR, o_add, o_sub, q_bl, q_int, q_str, q_NN, a_int, e1, e0, f_at, n_peek, put_at, q]
theorem one_of (u : Cur h c w ws i) {l : List Str} (m : pk ws i ∈ l) : C (k + 3) "Cursor.take_one_of" [.ref c, .tup (l.map D.str)] h = some (.ok (.str (pk ws i)), h.set c (cu w (i + 1))) := by
  rw [call_eq t12 rfl]
  have e1 : h[c]? = some (.ins "Cursor" (cf w i)) := u.oc
  have e0 := peek (k := k + 1) u
  have e2 := next (k := k) u
  have e3 : inD h (.str (pk ws i)) (.tup (l.map D.str)) = some true := by rw [inD_strs (l := l) rfl, decide_eq_true m]
  simp [b12, evB, evS.eq_1, evS.eq_2, evS.eq_3, evS.eq_4, evS.eq_5, evS.eq_6, evS.eq_7, evS.eq_10, evS.eq_11, evS.eq_12, evS.eq_14, evS.eq_15, evS.eq_17, ev.eq_1, ev.eq_2, ev.eq_3, ev.eq_4, ev.eq_5, ev.eq_6, ev.eq_7, ev.eq_8, ev.eq_9, ev.eq_10, ev.eq_11, ev.eq_12, ev.eq_13, ev.eq_14, ev.eq_15, ev.eq_16, ev.eq_17, ev.eq_18, ev.eq_19, ev.eq_20, ev.eq_21, ev.eq_22, ev.eq_23, ev.eq_24, ev.eq_25, ev.eq_26, ev.eq_27, ev.eq_28, ev.eq_29, ev.eq_31, ev.eq_32, ev.eq_34, ev.eq_35, ev.eq_36, ev.eq_37, ev.eq_38, ev.eq_39, ev.eq_40, ev.eq_41, evA, evO, evC, evI, vt, tv, bd_ok, bs_ok, bq_nx, bq_rt, pu_ok, re_nx, re_rt, ma_bl, ma_int, ma_str, ma_non, ma_ty, ma_ref, ma_tup, ma_frl, ma_lst, fix_same, getS, Z.evE, Z.evT, Z.vv, tr_bl, b_len, b_isi, b_all, b_any, b_sum, b_str, b_intI, b_intB, b_tup, b_lst, c_eq, c_ne, c_in, c_ni, c_lt, c_gt, c_le, c_is, c_isn, c_isN, c_isnN, c_isI, c_isL, c_isR, o_add, o_sub, q_bl, q_int, q_str, q_NN, a_int, e1, e0, e2, e3, n_peek, n_next, fix_set]
theorem name (u : Cur h c w ws i) (m : nameB (pk ws i) = true) : C (k + 3) "Cursor.take_name" [.ref c] h = some (.ok (.str (pk ws i)), h.set c (cu w (i + 1))) := by
  rw [call_eq t13 rfl]
  have e1 : h[c]? = some (.ins "Cursor" (cf w i)) := u.oc
  have e0 := peek (k := k + 1) u
  have e2 := next (k := k) u
  have e3 := is_name (k := k) (h := h) (s := pk ws i) (by have := pk_len u i; omega)
  rw [m] at e3
  simp [b13, evB, evS.eq_1, evS.eq_2, evS.eq_3, evS.eq_4, evS.eq_5, evS.eq_6, evS.eq_7, evS.eq_10, evS.eq_11, evS.eq_12, evS.eq_14, evS.eq_15, evS.eq_17, ev.eq_1, ev.eq_2, ev.eq_3, ev.eq_4, ev.eq_5, ev.eq_6, ev.eq_7, ev.eq_8, ev.eq_9, ev.eq_10, ev.eq_11, ev.eq_12, ev.eq_13, ev.eq_14, ev.eq_15, ev.eq_16, ev.eq_17, ev.eq_18, ev.eq_19, ev.eq_20, ev.eq_21, ev.eq_22, ev.eq_23, ev.eq_24, ev.eq_25, ev.eq_26, ev.eq_27, ev.eq_28, ev.eq_29, ev.eq_31, ev.eq_32, ev.eq_34, ev.eq_35, ev.eq_36, ev.eq_37, ev.eq_38, ev.eq_39, ev.eq_40, ev.eq_41, evA, evO, evC, evI, vt, tv, bd_ok, bs_ok, bq_nx, bq_rt, pu_ok, re_nx, re_rt, ma_bl, ma_int, ma_str, ma_non, ma_ty, ma_ref, ma_tup, ma_frl, ma_lst, fix_same, getS, Z.evE, Z.evT, Z.vv, tr_bl, b_len, b_isi, b_all, b_any, b_sum, b_str, b_intI, b_intB, b_tup, b_lst, c_eq, c_ne, c_in, c_ni, c_lt, c_gt, c_le, c_is, c_isn, c_isN, c_isnN, c_isI, c_isL, c_isR, o_add, o_sub, q_bl, q_int, q_str, q_NN, a_int, e1, e0, e2, e3, n_peek, n_next, fix_set]
theorem fin (u : Cur h c w ws i) (l : ws.length ≤ i) : C (k + 1) "Cursor.finish" [.ref c] h = some (.ok .non, h) := by
  rw [call_eq t15 rfl]
  have e1 : h[c]? = some (.ins "Cursor" (cf w i)) := u.oc
  have e2 : lenD h [.ref w] = some (.int ws.length) := by rw [lenD_ref u.ow, List.length_map]
  have q' : ¬ (i : Int) < ws.length := by omega
  simp [b15, evB, evS.eq_1, evS.eq_2, evS.eq_3, evS.eq_4, evS.eq_5, evS.eq_6, evS.eq_7, evS.eq_10, evS.eq_11, evS.eq_12, evS.eq_14, evS.eq_15, evS.eq_17, ev.eq_1, ev.eq_2, ev.eq_3, ev.eq_4, ev.eq_5, ev.eq_6, ev.eq_7, ev.eq_8, ev.eq_9, ev.eq_10, ev.eq_11, ev.eq_12, ev.eq_13, ev.eq_14, ev.eq_15, ev.eq_16, ev.eq_17, ev.eq_18, ev.eq_19, ev.eq_20, ev.eq_21, ev.eq_22, ev.eq_23, ev.eq_24, ev.eq_25, ev.eq_26, ev.eq_27, ev.eq_28, ev.eq_29, ev.eq_31, ev.eq_32, ev.eq_34, ev.eq_35, ev.eq_36, ev.eq_37, ev.eq_38, ev.eq_39, ev.eq_40, ev.eq_41, evA, evO, evC, evI, vt, tv, bd_ok, bs_ok, bq_nx, bq_rt, pu_ok, re_nx, re_rt, ma_bl, ma_int, ma_str, ma_non, ma_ty, ma_ref, ma_tup, ma_frl, ma_lst, fix_same, getS, Z.evE, Z.evT, Z.vv, tr_bl, b_len, b_isi, b_all, b_any, b_sum, b_str, b_intI, b_intB, b_tup, b_lst, c_eq, c_ne, c_in, c_ni, c_lt, c_gt, c_le, c_is, c_isn, c_isN, c_isnN, c_isI, c_isL, c_isR, o_add, o_sub, q_bl, q_int, q_str, q_NN, a_int, e1, e2, f_at, f_words, q']
end
end K3

namespace K3
open PySem L2 Z
theorem fold_le : ∀ (l acc : List Str), (l.foldl dd1 acc).length ≤ acc.length + l.length
  | [], acc => Nat.le_refl _
  | x :: l, acc => by
    refine Nat.le_trans (fold_le l (dd1 acc x)) ?_
    rw [dd1_len, List.length_cons]
    split <;> omega
theorem fold_nd : ∀ (l acc : List Str), acc.Nodup → ((l.foldl dd1 acc).length = acc.length + l.length ↔ (acc ++ l).Nodup)
  | [], acc, n => by simp [n]
  | x :: l, acc, n => by
    rw [List.foldl_cons]
    by_cases q : acc.any (· == x) = true
    · have e : dd1 acc x = acc := if_pos q
      have := fold_le l acc
      rw [e, List.length_cons]
      refine ⟨fun z => by omega, fun z => ?_⟩
      obtain ⟨y, hy, ey⟩ := List.any_eq_true.mp q
      have := eq_of_beq ey
      subst this
      exact absurd rfl ((List.nodup_append.mp z).2.2 y hy y (List.mem_cons_self ..))
    · have e : dd1 acc x = acc ++ [x] := if_neg q
      have nm : x ∉ acc := fun m => q (List.any_eq_true.mpr ⟨x, m, beq_self_eq_true x⟩)
      have n2 : (acc ++ [x]).Nodup := List.nodup_append.mpr ⟨n, by simp, fun a ha b hb z => nm (by rw [List.mem_singleton.mp hb] at z; exact z ▸ ha)⟩
      have ih := fold_nd l (acc ++ [x]) n2
      rw [e, List.length_cons]
      rw [List.length_append, List.append_assoc] at ih
      simp only [List.length_cons, List.length_nil, List.singleton_append] at ih
      rw [← ih]
      constructor <;> intro z <;> omega
theorem ded_nd (l : List Str) : (ded l).length = l.length ↔ l.Nodup := by
  have := fold_nd l [] List.nodup_nil
  simpa [ded] using this
theorem unlike {k n : Nat} {h : Hh} {ys : List Str} (e : h[n]? = some (.lst (ys.map D.str))) (l : ys.length ≤ 1000) : C (k + 1) "are_unlike" [.ref n] h = some (.ok (.bl (decide ys.Nodup)), h) := by
  rw [call_eq t25 rfl]
  have e1 : lsetD h (.ref n) = some (.int ((ded ys).length : Nat)) := by
    simp only [lsetD, sqD, lsD, e, strsD_map, if_pos l]
  have e2 : lenD h [.ref n] = some (.int ys.length) := by rw [lenD_ref e, List.length_map]
  have e3 : decide (((ded ys).length : Int) = ys.length) = decide ys.Nodup := by
    rw [decide_eq_decide, ← ded_nd]
    omega
  simp [b25, evB, evS.eq_1, evS.eq_2, evS.eq_3, evS.eq_4, evS.eq_5, evS.eq_6, evS.eq_7, evS.eq_10, evS.eq_11, evS.eq_12, evS.eq_14, evS.eq_15, evS.eq_17, ev.eq_1, ev.eq_2, ev.eq_3, ev.eq_4, ev.eq_5, ev.eq_6, ev.eq_7, ev.eq_8, ev.eq_9, ev.eq_10, ev.eq_11, ev.eq_12, ev.eq_13, ev.eq_14, ev.eq_15, ev.eq_16, ev.eq_17, ev.eq_18, ev.eq_19, ev.eq_20, ev.eq_21, ev.eq_22, ev.eq_23, ev.eq_24, ev.eq_25, ev.eq_26, ev.eq_27, ev.eq_28, ev.eq_29, ev.eq_31, ev.eq_32, ev.eq_34, ev.eq_35, ev.eq_36, ev.eq_37, ev.eq_38, ev.eq_39, ev.eq_40, ev.eq_41, evA, evO, evC, evI, vt, tv, bd_ok, bs_ok, bq_nx, bq_rt, pu_ok, re_nx, re_rt, ma_bl, ma_int, ma_str, ma_non, ma_ty, ma_ref, ma_tup, ma_frl, ma_lst, fix_same, getS, Z.evE, Z.evT, Z.vv, tr_bl, b_len, b_isi, b_all, b_any, b_sum, b_str, b_intI, b_intB, b_tup, b_lst, c_eq, c_ne, c_in, c_ni, c_lt, c_gt, c_le, c_is, c_isn, c_isN, c_isnN, c_isI, c_isL, c_isR, o_add, o_sub, q_bl, q_int, q_str, q_NN, a_int, e1, e2, e3]
/-- a NOUN stands there -/
def NounAt (ws : List Str) (i : Nat) (L : List Str) (j : Nat) : Prop := ∃ t, t ≤ 1 ∧ (t = 1 → pk ws i = "the") ∧ j = i + t + L.length ∧ (∀ m (hm : m < L.length), pk ws (i + t + m) = L[m]) ∧ 1 ≤ L.length ∧ L.length ≤ 4 ∧ (∀ x ∈ L, nameB x = true) ∧
  (∀ m, m < L.length → (L.take m).Nodup) ∧ (L.length = 4 ∨ ¬ L.Nodup ∨ nameB (pk ws j) = false)
section
variable {k : Nat} {h : Hh} {c w i : Nat} {ws : List Str}
theorem set_lt {x y : O} {g : Hh} (l : c < h.length) : (h.set c x ++ g).set c y = h.set c y ++ g := by
  rw [List.set_append_left _ _ (by rw [List.length_set]; exact l), List.set_set]
theorem last_get {x y : O} {g : Hh} : (h.set c x ++ y :: g)[h.length]? = some y := by
  have : h.length = (h.set c x).length := List.length_set.symm
  rw [List.getElem?_append_right (by omega), this, Nat.sub_self]
  rfl
theorem last_set {x y z : O} {g : Hh} : (h.set c x ++ y :: g).set h.length z = h.set c x ++ z :: g := by
  have : h.length = (h.set c x).length := List.length_set.symm
  rw [List.set_append_right _ _ (by omega), this, Nat.sub_self]
  rfl
def tst24 : E := (.and (.cmp .Lt (.bl1 .len (.var 1)) (.glob "MOST_NOUN_WORDS")) (.and (.call "are_unlike" (.cons false (.var 1) .nil)) (.call "is_name" (.cons false (.omth (.var 0) "Cursor" "peek" "Cursor.peek" .nil) .nil))))
def bod24 : SL := (.cons (.ex (.meth (.var 1) .append (.cons false (.omth (.var 0) "Cursor" "take_next" "Cursor.take_next" .nil) .nil)))
    .nil)
theorem t24v {L : List Str} {p : Nat} (u : Cur h c w ws i) (l4 : L.length ≤ 4) : (ev glob (C (k + 2)) tst24).t [some (.ref c), some (.ref h.length)] (h.set c (cu w p) ++ [.lst (L.map D.str)]) =
    some (.ok (decide (L.length < 4) && (decide L.Nodup && nameB (pk ws p))), h.set c (cu w p) ++ [.lst (L.map D.str)]) := by
  have u2 := u.up p [.lst (L.map D.str)]
  have e1 : (h.set c (cu w p) ++ [.lst (L.map D.str)])[c]? = some (.ins "Cursor" (cf w p)) := u2.oc
  have e2 : (h.set c (cu w p) ++ [.lst (L.map D.str)])[h.length]? = some (.lst (L.map D.str)) := last_get
  have e3 : lenD (h.set c (cu w p) ++ [.lst (L.map D.str)]) [.ref h.length] = some (.int L.length) := by rw [lenD_ref e2, List.length_map]
  have e4 := unlike (k := k + 1) e2 (by omega)
  have e5 := peek (k := k + 1) u2
  have e6 := is_name (k := k) (h := h.set c (cu w p) ++ [.lst (L.map D.str)]) (s := pk ws p) (by have := pk_len u p; omega)
  generalize h.set c (cu w p) ++ [.lst (L.map D.str)] = hh at *
  by_cases c1 : L.length < 4
  · have c1' : (L.length : Int) < 4 := by omega
    by_cases c2 : L.Nodup
    · simp [tst24, evB, evS.eq_1, evS.eq_2, evS.eq_3, evS.eq_4, evS.eq_5, evS.eq_6, evS.eq_7, evS.eq_10, evS.eq_11, evS.eq_12, evS.eq_14, evS.eq_15, evS.eq_17, ev.eq_1, ev.eq_2, ev.eq_3, ev.eq_4, ev.eq_5, ev.eq_6, ev.eq_7, ev.eq_8, ev.eq_9, ev.eq_10, ev.eq_11, ev.eq_12, ev.eq_13, ev.eq_14, ev.eq_15, ev.eq_16, ev.eq_17, ev.eq_18, ev.eq_19, ev.eq_20, ev.eq_21, ev.eq_22, ev.eq_23, ev.eq_24, ev.eq_25, ev.eq_26, ev.eq_27, ev.eq_28, ev.eq_29, ev.eq_31, ev.eq_32, ev.eq_34, ev.eq_35, ev.eq_36, ev.eq_37, ev.eq_38, ev.eq_39, ev.eq_40, ev.eq_41, evA, evO, evC, evI, vt, tv, bd_ok, bs_ok, bq_nx, bq_rt, pu_ok, re_nx, re_rt, ma_bl, ma_int, ma_str, ma_non, ma_ty, ma_ref, ma_tup, ma_frl, ma_lst, fix_same, getS, Z.evE, Z.evT, Z.vv, tr_bl, b_len, b_isi, b_all, b_any, b_sum, b_str, b_intI, b_intB, b_tup, b_lst, c_eq, c_ne, c_in, c_ni, c_lt, c_gt, c_le, c_is, c_isn, c_isN, c_isnN, c_isI, c_isL, c_isR, o_add, o_sub, q_bl, q_int, q_str, q_NN, a_int, e1, e3, e4, e5, e6, g_noun, n_peek, c1, c1', c2]
    · simp [tst24, evB, evS.eq_1, evS.eq_2, evS.eq_3, evS.eq_4, evS.eq_5, evS.eq_6, evS.eq_7, evS.eq_10, evS.eq_11, evS.eq_12, evS.eq_14, evS.eq_15, evS.eq_17, ev.eq_1, ev.eq_2, ev.eq_3, ev.eq_4, ev.eq_5, ev.eq_6, ev.eq_7, ev.eq_8, ev.eq_9, ev.eq_10, ev.eq_11, ev.eq_12, ev.eq_13, ev.eq_14, ev.eq_15, ev.eq_16, ev.eq_17, ev.eq_18, ev.eq_19, ev.eq_20, ev.eq_21, ev.eq_22, ev.eq_23, ev.eq_24, ev.eq_25, ev.eq_26, ev.eq_27, ev.eq_28, ev.eq_29, ev.eq_31, ev.eq_32, ev.eq_34, ev.eq_35, ev.eq_36, ev.eq_37, ev.eq_38, ev.eq_39, ev.eq_40, ev.eq_41, evA, evO, evC, evI, vt, tv, bd_ok, bs_ok, bq_nx, bq_rt, pu_ok, re_nx, re_rt, ma_bl, ma_int, ma_str, ma_non, ma_ty, ma_ref, ma_tup, ma_frl, ma_lst, fix_same, getS, Z.evE, Z.evT, Z.vv, tr_bl, b_len, b_isi, b_all, b_any, b_sum, b_str, b_intI, b_intB, b_tup, b_lst, c_eq, c_ne, c_in, c_ni, c_lt, c_gt, c_le, c_is, c_isn, c_isN, c_isnN, c_isI, c_isL, c_isR, o_add, o_sub, q_bl, q_int, q_str, q_NN, a_int, e1, e3, e4, g_noun, c1, c1', c2]
  · have c1' : ¬ (L.length : Int) < 4 := by omega
    simp [tst24, evB, evS.eq_1, evS.eq_2, evS.eq_3, evS.eq_4, evS.eq_5, evS.eq_6, evS.eq_7, evS.eq_10, evS.eq_11, evS.eq_12, evS.eq_14, evS.eq_15, evS.eq_17, ev.eq_1, ev.eq_2, ev.eq_3, ev.eq_4, ev.eq_5, ev.eq_6, ev.eq_7, ev.eq_8, ev.eq_9, ev.eq_10, ev.eq_11, ev.eq_12, ev.eq_13, ev.eq_14, ev.eq_15, ev.eq_16, ev.eq_17, ev.eq_18, ev.eq_19, ev.eq_20, ev.eq_21, ev.eq_22, ev.eq_23, ev.eq_24, ev.eq_25, ev.eq_26, ev.eq_27, ev.eq_28, ev.eq_29, ev.eq_31, ev.eq_32, ev.eq_34, ev.eq_35, ev.eq_36, ev.eq_37, ev.eq_38, ev.eq_39, ev.eq_40, ev.eq_41, evA, evO, evC, evI, vt, tv, bd_ok, bs_ok, bq_nx, bq_rt, pu_ok, re_nx, re_rt, ma_bl, ma_int, ma_str, ma_non, ma_ty, ma_ref, ma_tup, ma_frl, ma_lst, fix_same, getS, Z.evE, Z.evT, Z.vv, tr_bl, b_len, b_isi, b_all, b_any, b_sum, b_str, b_intI, b_intB, b_tup, b_lst, c_eq, c_ne, c_in, c_ni, c_lt, c_gt, c_le, c_is, c_isn, c_isN, c_isnN, c_isI, c_isL, c_isR, o_add, o_sub, q_bl, q_int, q_str, q_NN, a_int, e1, e3, g_noun, c1, c1']
theorem b24v {L : List Str} {p : Nat} (u : Cur h c w ws i) (l4 : L.length ≤ 4) : evB glob (C (k + 2)) bod24 [some (.ref c), some (.ref h.length)] (h.set c (cu w p) ++ [.lst (L.map D.str)]) =
    some (.nx [some (.ref c), some (.ref h.length)], h.set c (cu w (p + 1)) ++ [.lst ((L ++ [pk ws p]).map D.str)]) := by
  have u2 := u.up p [.lst (L.map D.str)]
  have e1 : (h.set c (cu w p) ++ [.lst (L.map D.str)])[c]? = some (.ins "Cursor" (cf w p)) := u2.oc
  have e2 : (h.set c (cu w p) ++ [.lst (L.map D.str)])[h.length]? = some (.lst (L.map D.str)) := last_get
  have e5 := next (k := k) u2
  rw [set_lt u.lt] at e5
  have e6 : fix (h.set c (cu w p) ++ [.lst (L.map D.str)]) (.str (pk ws p)) (h.set c (cu w (p + 1)) ++ [.lst (L.map D.str)]) = some (.ok (.str (pk ws p)), h.set c (cu w (p + 1)) ++ [.lst (L.map D.str)]) := fix_len (by simp)
  have e7 : mutD (h.set c (cu w (p + 1)) ++ [.lst (L.map D.str)]) h.length .append [.str (pk ws p)] = some (.non, h.set c (cu w (p + 1)) ++ [.lst ((L ++ [pk ws p]).map D.str)]) := by
    simp only [mutD, last_get]
    rw [if_pos (by rw [List.length_map]; exact Nat.lt_of_le_of_lt l4 (by decide)), last_set]
    simp
  generalize h.set c (cu w p) ++ [.lst (L.map D.str)] = hh at *
  simp [bod24, evB, evS.eq_1, evS.eq_2, evS.eq_3, evS.eq_4, evS.eq_5, evS.eq_6, evS.eq_7, evS.eq_10, evS.eq_11, evS.eq_12, evS.eq_14, evS.eq_15, evS.eq_17, ev.eq_1, ev.eq_2, ev.eq_3, ev.eq_4, ev.eq_5, ev.eq_6, ev.eq_7, ev.eq_8, ev.eq_9, ev.eq_10, ev.eq_11, ev.eq_12, ev.eq_13, ev.eq_14, ev.eq_15, ev.eq_16, ev.eq_17, ev.eq_18, ev.eq_19, ev.eq_20, ev.eq_21, ev.eq_22, ev.eq_23, ev.eq_24, ev.eq_25, ev.eq_26, ev.eq_27, ev.eq_28, ev.eq_29, ev.eq_31, ev.eq_32, ev.eq_34, ev.eq_35, ev.eq_36, ev.eq_37, ev.eq_38, ev.eq_39, ev.eq_40, ev.eq_41, evA, evO, evC, evI, vt, tv, bd_ok, bs_ok, bq_nx, bq_rt, pu_ok, re_nx, re_rt, ma_bl, ma_int, ma_str, ma_non, ma_ty, ma_ref, ma_tup, ma_frl, ma_lst, fix_same, getS, Z.evE, Z.evT, Z.vv, tr_bl, b_len, b_isi, b_all, b_any, b_sum, b_str, b_intI, b_intB, b_tup, b_lst, c_eq, c_ne, c_in, c_ni, c_lt, c_gt, c_le, c_is, c_isn, c_isN, c_isnN, c_isI, c_isL, c_isR, o_add, o_sub, q_bl, q_int, q_str, q_NN, a_int, e1, e2, e5, e6, e7, n_next]
theorem noun {L : List Str} {j : Nat} (u : Cur h c w ws i) (a : NounAt ws i L j) : C (k + 4) "read_noun" [.ref c] h = some (.ok (.tup (L.map D.str)), h.set c (cu w j) ++ [.lst (L.map D.str)]) := by
  obtain ⟨t, t1, th, rfl, at', l1, l4, nm, nd, stop⟩ := a
  have first : pk ws (i + t) = L[0] := at' 0 l1
  have n0 : nameB (pk ws (i + t)) = true := by rw [first]; exact nm _ (List.getElem_mem _)
  have nthe : nameB "the" = false := by decide +kernel
  have loop : ∀ r m N, m + r = L.length → 1 ≤ m → r + 1 ≤ N → whGo (ev glob (C (k + 3)) tst24).t (evB glob (C (k + 3)) bod24) N [some (.ref c), some (.ref h.length)] (h.set c (cu w (i + t + m)) ++ [.lst ((L.take m).map D.str)]) =
      some (.nx [some (.ref c), some (.ref h.length)], h.set c (cu w (i + t + L.length)) ++ [.lst (L.map D.str)]) := by
    intro r
    induction r with
    | zero =>
      intro m N hm _ hN
      obtain ⟨N, rfl⟩ : ∃ M, N = M + 1 := ⟨N - 1, by omega⟩
      have em : m = L.length := by omega
      subst em
      rw [List.take_length]
      refine wh_no ((t24v (k := k + 1) u l4).trans ?_)
      congr 3
      rcases stop with z | z | z
      · simp [z]
      · simp [z]
      · simp [z]
    | succ r ih =>
      intro m N hm h1 hN
      obtain ⟨N, rfl⟩ : ∃ M, N = M + 1 := ⟨N - 1, by omega⟩
      have lt : m < L.length := by omega
      have ltk : (L.take m).length = m := by rw [List.length_take]; omega
      have here := at' m lt
      have nh : nameB (pk ws (i + t + m)) = true := by rw [here]; exact nm _ (List.getElem_mem _)
      have e1 := t24v (k := k + 1) (L := L.take m) (p := i + t + m) u (by omega)
      rw [ltk, decide_eq_true (show m < 4 by omega), decide_eq_true (nd m lt), nh] at e1
      have e2 := b24v (k := k + 1) (L := L.take m) (p := i + t + m) u (by omega)
      rw [here, ← List.take_succ_eq_append_getElem lt] at e2
      rw [wh_go e1 e2]
      exact ih (m + 1) N (by omega) (by omega) (by omega)
  have lp := loop (L.length - 1) 1 1000000 (by omega) (Nat.le_refl _) (by omega)
  have tk1 : L.take 1 = [L[0]] := by rw [List.take_succ_eq_append_getElem l1, List.take_zero]; rfl
  rw [tk1] at lp
  have e1 : h[c]? = some (.ins "Cursor" (cf w i)) := u.oc
  rw [call_eq t24 rfl]
  have e9 : tupD (h.set c (cu w (i + t + L.length)) ++ [.lst (L.map D.str)]) [.ref h.length] = some (.tup (L.map D.str)) := by
    simp only [tupD, sqD, lsD, last_get, Option.map_some]
  have s1 : (1 : Nat) ≤ sizeLine := by decide
  have lw : ∀ S hh, evS glob (C (k + 3)) (.wh tst24 bod24) S hh = whGo (ev glob (C (k + 3)) tst24).t (evB glob (C (k + 3)) bod24) 1000000 S hh := fun S hh => by rw [evS.eq_9]
  have e3 := skip (k := k + 1) u "the"
  have hb : b24 = (.cons (.ex (.omth (.var 0) "Cursor" "skip" "Cursor.skip" (.cons false (.str "the") .nil))) (.cons (.set 1 (.lst (.cons false (.omth (.var 0) "Cursor" "take_name" "Cursor.take_name" .nil) .nil))) (.cons (.wh tst24 bod24) (.cons (.ret (.bl1 .tuple (.var 1))) .nil)))) := rfl
  by_cases ht : t = 1
  · subst ht
    have e4 := th rfl
    rw [if_pos e4, decide_eq_true e4] at e3
    have u2 := u.set (i + 1)
    have e5 : (h.set c (cu w (i + 1)))[c]? = some (.ins "Cursor" (cf w (i + 1))) := u2.oc
    have e6 := name (k := k) u2 n0
    rw [List.set_set, first] at e6
    have e7 : fix (h.set c (cu w (i + 1))) (.str L[0]) (h.set c (cu w (i + 1 + 1))) = some (.ok (.str L[0]), h.set c (cu w (i + 1 + 1))) := fix_len (by simp)
    rw [hb]
    simp [evB, evS.eq_1, evS.eq_2, evS.eq_3, evS.eq_4, evS.eq_5, evS.eq_6, evS.eq_7, evS.eq_10, evS.eq_11, evS.eq_12, evS.eq_14, evS.eq_15, evS.eq_17, ev.eq_1, ev.eq_2, ev.eq_3, ev.eq_4, ev.eq_5, ev.eq_6, ev.eq_7, ev.eq_8, ev.eq_9, ev.eq_10, ev.eq_11, ev.eq_12, ev.eq_13, ev.eq_14, ev.eq_15, ev.eq_16, ev.eq_17, ev.eq_18, ev.eq_19, ev.eq_20, ev.eq_21, ev.eq_22, ev.eq_23, ev.eq_24, ev.eq_25, ev.eq_26, ev.eq_27, ev.eq_28, ev.eq_29, ev.eq_31, ev.eq_32, ev.eq_34, ev.eq_35, ev.eq_36, ev.eq_37, ev.eq_38, ev.eq_39, ev.eq_40, ev.eq_41, evA, evO, evC, evI, vt, tv, bd_ok, bs_ok, bq_nx, bq_rt, pu_ok, re_nx, re_rt, ma_bl, ma_int, ma_str, ma_non, ma_ty, ma_ref, ma_tup, ma_frl, ma_lst, fix_same, getS, Z.evE, Z.evT, Z.vv, tr_bl, b_len, b_isi, b_all, b_any, b_sum, b_str, b_intI, b_intB, b_tup, b_lst, c_eq, c_ne, c_in, c_ni, c_lt, c_gt, c_le, c_is, c_isn, c_isN, c_isnN, c_isI, c_isL, c_isR, o_add, o_sub, q_bl, q_int, q_str, q_NN, a_int, e1, e3, e5, e6, e7, n_skip, n_name, fix_set, lw, s1]
    simp at lp
    rw [lp]
    simp [evB, evS.eq_1, evS.eq_2, evS.eq_3, evS.eq_4, evS.eq_5, evS.eq_6, evS.eq_7, evS.eq_10, evS.eq_11, evS.eq_12, evS.eq_14, evS.eq_15, evS.eq_17, ev.eq_1, ev.eq_2, ev.eq_3, ev.eq_4, ev.eq_5, ev.eq_6, ev.eq_7, ev.eq_8, ev.eq_9, ev.eq_10, ev.eq_11, ev.eq_12, ev.eq_13, ev.eq_14, ev.eq_15, ev.eq_16, ev.eq_17, ev.eq_18, ev.eq_19, ev.eq_20, ev.eq_21, ev.eq_22, ev.eq_23, ev.eq_24, ev.eq_25, ev.eq_26, ev.eq_27, ev.eq_28, ev.eq_29, ev.eq_31, ev.eq_32, ev.eq_34, ev.eq_35, ev.eq_36, ev.eq_37, ev.eq_38, ev.eq_39, ev.eq_40, ev.eq_41, evA, evO, evC, evI, vt, tv, bd_ok, bs_ok, bq_nx, bq_rt, pu_ok, re_nx, re_rt, ma_bl, ma_int, ma_str, ma_non, ma_ty, ma_ref, ma_tup, ma_frl, ma_lst, fix_same, getS, Z.evE, Z.evT, Z.vv, tr_bl, b_len, b_isi, b_all, b_any, b_sum, b_str, b_intI, b_intB, b_tup, b_lst, c_eq, c_ne, c_in, c_ni, c_lt, c_gt, c_le, c_is, c_isn, c_isN, c_isnN, c_isI, c_isL, c_isR, o_add, o_sub, q_bl, q_int, q_str, q_NN, a_int, e9]
  · have t0 : t = 0 := by omega
    subst t0
    simp only [Nat.add_zero] at first n0 lp e9 ⊢
    have e4 : ¬ pk ws i = "the" := fun z => by
      have : nameB (pk ws i) = true := n0
      rw [z, nthe] at this
      cases this
    rw [if_neg e4, decide_eq_false e4] at e3
    have e6 := name (k := k) u n0
    rw [first] at e6
    have e7 : fix h (.str L[0]) (h.set c (cu w (i + 1))) = some (.ok (.str L[0]), h.set c (cu w (i + 1))) := fix_len (by simp)
    rw [hb]
    simp [evB, evS.eq_1, evS.eq_2, evS.eq_3, evS.eq_4, evS.eq_5, evS.eq_6, evS.eq_7, evS.eq_10, evS.eq_11, evS.eq_12, evS.eq_14, evS.eq_15, evS.eq_17, ev.eq_1, ev.eq_2, ev.eq_3, ev.eq_4, ev.eq_5, ev.eq_6, ev.eq_7, ev.eq_8, ev.eq_9, ev.eq_10, ev.eq_11, ev.eq_12, ev.eq_13, ev.eq_14, ev.eq_15, ev.eq_16, ev.eq_17, ev.eq_18, ev.eq_19, ev.eq_20, ev.eq_21, ev.eq_22, ev.eq_23, ev.eq_24, ev.eq_25, ev.eq_26, ev.eq_27, ev.eq_28, ev.eq_29, ev.eq_31, ev.eq_32, ev.eq_34, ev.eq_35, ev.eq_36, ev.eq_37, ev.eq_38, ev.eq_39, ev.eq_40, ev.eq_41, evA, evO, evC, evI, vt, tv, bd_ok, bs_ok, bq_nx, bq_rt, pu_ok, re_nx, re_rt, ma_bl, ma_int, ma_str, ma_non, ma_ty, ma_ref, ma_tup, ma_frl, ma_lst, fix_same, getS, Z.evE, Z.evT, Z.vv, tr_bl, b_len, b_isi, b_all, b_any, b_sum, b_str, b_intI, b_intB, b_tup, b_lst, c_eq, c_ne, c_in, c_ni, c_lt, c_gt, c_le, c_is, c_isn, c_isN, c_isnN, c_isI, c_isL, c_isR, o_add, o_sub, q_bl, q_int, q_str, q_NN, a_int, e1, e3, e6, n_skip, n_name, fix_set, lw, s1]
    simp at lp
    rw [lp]
    simp [evB, evS.eq_1, evS.eq_2, evS.eq_3, evS.eq_4, evS.eq_5, evS.eq_6, evS.eq_7, evS.eq_10, evS.eq_11, evS.eq_12, evS.eq_14, evS.eq_15, evS.eq_17, ev.eq_1, ev.eq_2, ev.eq_3, ev.eq_4, ev.eq_5, ev.eq_6, ev.eq_7, ev.eq_8, ev.eq_9, ev.eq_10, ev.eq_11, ev.eq_12, ev.eq_13, ev.eq_14, ev.eq_15, ev.eq_16, ev.eq_17, ev.eq_18, ev.eq_19, ev.eq_20, ev.eq_21, ev.eq_22, ev.eq_23, ev.eq_24, ev.eq_25, ev.eq_26, ev.eq_27, ev.eq_28, ev.eq_29, ev.eq_31, ev.eq_32, ev.eq_34, ev.eq_35, ev.eq_36, ev.eq_37, ev.eq_38, ev.eq_39, ev.eq_40, ev.eq_41, evA, evO, evC, evI, vt, tv, bd_ok, bs_ok, bq_nx, bq_rt, pu_ok, re_nx, re_rt, ma_bl, ma_int, ma_str, ma_non, ma_ty, ma_ref, ma_tup, ma_frl, ma_lst, fix_same, getS, Z.evE, Z.evT, Z.vv, tr_bl, b_len, b_isi, b_all, b_any, b_sum, b_str, b_intI, b_intB, b_tup, b_lst, c_eq, c_ne, c_in, c_ni, c_lt, c_gt, c_le, c_is, c_isn, c_isN, c_isnN, c_isI, c_isL, c_isR, o_add, o_sub, q_bl, q_int, q_str, q_NN, a_int, e9]
end
end K3

namespace K3
open PySem L2 Z
/-- a heap grown from h, the cursor moved, a list at f -/
def Up (h : Hh) (c w p : Nat) (hh : Hh) (f : Nat) (xs : List D) : Prop := ∃ g, hh = h.set c (cu w p) ++ g ∧ h.length ≤ f ∧ hh[f]? = some (.lst xs)
section
variable {k : Nat} {h hh : Hh} {c w i p q f : Nat} {ws : List Str} {xs ys : List D}
theorem Up.ltf (a : Up h c w p hh f xs) : f < hh.length := by
  obtain ⟨_, _, _, e⟩ := a
  exact (List.getElem?_eq_some_iff.mp e).1
theorem Up.cur (a : Up h c w p hh f xs) (u : Cur h c w ws i) : Cur hh c w ws p := by
  obtain ⟨g, rfl, _, _⟩ := a
  exact u.up p g
theorem Up.move (a : Up h c w p hh f xs) (l : c < h.length) (q : Nat) : Up h c w q (hh.set c (cu w q)) f xs := by
  obtain ⟨g, rfl, lf, e⟩ := a
  refine ⟨g, set_lt l, lf, ?_⟩
  rw [List.getElem?_set_ne (by omega)]
  exact e
theorem Up.grow (a : Up h c w p hh f xs) (g : Hh) : Up h c w p (hh ++ g) f xs := by
  obtain ⟨g', rfl, lf, e⟩ := a
  exact ⟨g' ++ g, List.append_assoc .., lf, by rw [List.getElem?_append_left (List.getElem?_eq_some_iff.mp e).1]; exact e⟩
theorem Up.push (a : Up h c w p hh f xs) (ys : List D) : Up h c w p (hh.set f (.lst ys)) f ys := by
  have lt := a.ltf
  obtain ⟨g, rfl, lf, e⟩ := a
  refine ⟨g.set (f - h.length) (.lst ys), ?_, lf, List.getElem?_set_self lt⟩
  rw [List.set_append_right _ _ (by rw [List.length_set]; exact lf), List.length_set]
theorem Up.new (g : Hh) (xs : List D) : Up h c w p (h.set c (cu w p) ++ g ++ [.lst xs]) (h.set c (cu w p) ++ g).length xs := by
  refine ⟨g ++ [.lst xs], by rw [List.append_assoc], by simp, ?_⟩
  rw [List.getElem?_append_right (Nat.le_refl _), Nat.sub_self]
  rfl
theorem Up.back (a : Up h c w p hh f xs) : ∃ g, hh = h.set c (cu w p) ++ g := let ⟨g, e, _⟩ := a; ⟨g, e⟩
theorem Up.at (a : Up h c w p hh f xs) : hh[f]? = some (.lst xs) := let ⟨_, _, _, e⟩ := a; e
abbrev ec (x : Str) : E := .call x (.cons false (.var 0) .nil)
/-- f(cursor), of what is no list -/
theorem ev_ec {x : Str} {d : D} {g : Hh} {S : Sl} (s : getS S 0 = some (.ref c)) (e : C k x [.ref c] h = some (.ok d, h.set c (cu w q) ++ g)) (n : ∀ m, d ≠ .ref m) : ∃ g', (ev glob (C k) (ec x)).v S h = some (.ok d, h.set c (cu w q) ++ g') := by
  obtain ⟨g', e'⟩ := fix_more (h := h) (d := d) (h1 := h.set c (cu w q)) (g := g) List.length_set (fun m z => absurd z (n m))
  refine ⟨g', ?_⟩
  have s' : S[0]?.bind id = some (.ref c) := s
  simp [evB, evS.eq_1, evS.eq_2, evS.eq_3, evS.eq_4, evS.eq_5, evS.eq_6, evS.eq_7, evS.eq_10, evS.eq_11, evS.eq_12, evS.eq_14, evS.eq_15, evS.eq_17, ev.eq_1, ev.eq_2, ev.eq_3, ev.eq_4, ev.eq_5, ev.eq_6, ev.eq_7, ev.eq_8, ev.eq_9, ev.eq_10, ev.eq_11, ev.eq_12, ev.eq_13, ev.eq_14, ev.eq_15, ev.eq_16, ev.eq_17, ev.eq_18, ev.eq_19, ev.eq_20, ev.eq_21, ev.eq_22, ev.eq_23, ev.eq_24, ev.eq_25, ev.eq_26, ev.eq_27, ev.eq_28, ev.eq_29, ev.eq_31, ev.eq_32, ev.eq_34, ev.eq_35, ev.eq_36, ev.eq_37, ev.eq_38, ev.eq_39, ev.eq_40, ev.eq_41, evA, evO, evC, evI, vt, tv, bd_ok, bs_ok, bq_nx, bq_rt, pu_ok, re_nx, re_rt, ma_bl, ma_int, ma_str, ma_non, ma_ty, ma_ref, ma_tup, ma_frl, ma_lst, fix_same, getS, Z.evE, Z.evT, Z.vv, tr_bl, b_len, b_isi, b_all, b_any, b_sum, b_str, b_intI, b_intB, b_tup, b_lst, c_eq, c_ne, c_in, c_ni, c_lt, c_gt, c_le, c_is, c_isn, c_isN, c_isnN, c_isI, c_isL, c_isR, o_add, o_sub, q_bl, q_int, q_str, q_NN, a_int, s', e, e']
theorem apd {d : D} (e : hh[f]? = some (.lst xs)) (l : xs.length ≤ 1000) : mutD hh f .append [d] = some (.non, hh.set f (.lst (xs ++ [d]))) := by
  simp only [mutD, e]
  exact if_pos (Nat.lt_of_le_of_lt l (by decide))
end
def tn (L : List Str) : D := .tup (L.map D.str)
def RestAt (ws : List Str) : Nat → Nat → List (List Str) → Nat → Prop
  | p, n, [], j => p = j ∧ (n = 0 ∨ pk ws p ≠ "and")
  | p, n, L :: r, j => ∃ n' m, n = n' + 1 ∧ pk ws p = "and" ∧ NounAt ws (p + 1) L m ∧ RestAt ws m n' r j
/-- NOUNS stand there -/
def NounsAt (ws : List Str) (i : Nat) (Ls : List (List Str)) (j : Nat) : Prop := ∃ L r m, Ls = L :: r ∧ NounAt ws i L m ∧ RestAt ws m 2 r j
def tst23 : E := (.and (.cmp .Lt (.bl1 .len (.var 1)) (.glob "MOST_NOUNS")) (.omth (.var 0) "Cursor" "skip" "Cursor.skip" (.cons false (.str "and") .nil)))
def bod23 : SL := (.cons (.ex (.meth (.var 1) .append (.cons false (.call "read_noun" (.cons false (.var 0) .nil)) .nil)))
    .nil)
section
variable {k : Nat} {h hh : Hh} {c w i p q f : Nat} {ws : List Str} {xs ys : List D}
theorem t23n (u : Cur hh c w ws p) (e : hh[f]? = some (.lst xs)) (l : ¬ xs.length < 3) : (ev glob (C (k + 2)) tst23).t [some (.ref c), some (.ref f)] hh = some (.ok false, hh) := by
  have l' : ¬ (xs.length : Int) < 3 := by omega
  simp [tst23, evB, evS.eq_1, evS.eq_2, evS.eq_3, evS.eq_4, evS.eq_5, evS.eq_6, evS.eq_7, evS.eq_10, evS.eq_11, evS.eq_12, evS.eq_14, evS.eq_15, evS.eq_17, ev.eq_1, ev.eq_2, ev.eq_3, ev.eq_4, ev.eq_5, ev.eq_6, ev.eq_7, ev.eq_8, ev.eq_9, ev.eq_10, ev.eq_11, ev.eq_12, ev.eq_13, ev.eq_14, ev.eq_15, ev.eq_16, ev.eq_17, ev.eq_18, ev.eq_19, ev.eq_20, ev.eq_21, ev.eq_22, ev.eq_23, ev.eq_24, ev.eq_25, ev.eq_26, ev.eq_27, ev.eq_28, ev.eq_29, ev.eq_31, ev.eq_32, ev.eq_34, ev.eq_35, ev.eq_36, ev.eq_37, ev.eq_38, ev.eq_39, ev.eq_40, ev.eq_41, evA, evO, evC, evI, vt, tv, bd_ok, bs_ok, bq_nx, bq_rt, pu_ok, re_nx, re_rt, ma_bl, ma_int, ma_str, ma_non, ma_ty, ma_ref, ma_tup, ma_frl, ma_lst, fix_same, getS, Z.evE, Z.evT, Z.vv, tr_bl, b_len, b_isi, b_all, b_any, b_sum, b_str, b_intI, b_intB, b_tup, b_lst, c_eq, c_ne, c_in, c_ni, c_lt, c_gt, c_le, c_is, c_isn, c_isN, c_isnN, c_isI, c_isL, c_isR, o_add, o_sub, q_bl, q_int, q_str, q_NN, a_int, lenD_ref e, g_nouns, l']
theorem t23y (u : Cur hh c w ws p) (e : hh[f]? = some (.lst xs)) (l : xs.length < 3) : (ev glob (C (k + 2)) tst23).t [some (.ref c), some (.ref f)] hh = some (.ok (decide (pk ws p = "and")), if pk ws p = "and" then hh.set c (cu w (p + 1)) else hh) := by
  have l' : (xs.length : Int) < 3 := by omega
  have e1 : hh[c]? = some (.ins "Cursor" (cf w p)) := u.oc
  have e2 := skip (k := k) u "and"
  by_cases q : pk ws p = "and"
  · rw [if_pos q, decide_eq_true q] at e2 ⊢
    simp [tst23, evB, evS.eq_1, evS.eq_2, evS.eq_3, evS.eq_4, evS.eq_5, evS.eq_6, evS.eq_7, evS.eq_10, evS.eq_11, evS.eq_12, evS.eq_14, evS.eq_15, evS.eq_17, ev.eq_1, ev.eq_2, ev.eq_3, ev.eq_4, ev.eq_5, ev.eq_6, ev.eq_7, ev.eq_8, ev.eq_9, ev.eq_10, ev.eq_11, ev.eq_12, ev.eq_13, ev.eq_14, ev.eq_15, ev.eq_16, ev.eq_17, ev.eq_18, ev.eq_19, ev.eq_20, ev.eq_21, ev.eq_22, ev.eq_23, ev.eq_24, ev.eq_25, ev.eq_26, ev.eq_27, ev.eq_28, ev.eq_29, ev.eq_31, ev.eq_32, ev.eq_34, ev.eq_35, ev.eq_36, ev.eq_37, ev.eq_38, ev.eq_39, ev.eq_40, ev.eq_41, evA, evO, evC, evI, vt, tv, bd_ok, bs_ok, bq_nx, bq_rt, pu_ok, re_nx, re_rt, ma_bl, ma_int, ma_str, ma_non, ma_ty, ma_ref, ma_tup, ma_frl, ma_lst, fix_same, getS, Z.evE, Z.evT, Z.vv, tr_bl, b_len, b_isi, b_all, b_any, b_sum, b_str, b_intI, b_intB, b_tup, b_lst, c_eq, c_ne, c_in, c_ni, c_lt, c_gt, c_le, c_is, c_isn, c_isN, c_isnN, c_isI, c_isL, c_isR, o_add, o_sub, q_bl, q_int, q_str, q_NN, a_int, lenD_ref e, g_nouns, l', e1, e2, n_skip, fix_set]
  · rw [if_neg q, decide_eq_false q] at e2 ⊢
    simp [tst23, evB, evS.eq_1, evS.eq_2, evS.eq_3, evS.eq_4, evS.eq_5, evS.eq_6, evS.eq_7, evS.eq_10, evS.eq_11, evS.eq_12, evS.eq_14, evS.eq_15, evS.eq_17, ev.eq_1, ev.eq_2, ev.eq_3, ev.eq_4, ev.eq_5, ev.eq_6, ev.eq_7, ev.eq_8, ev.eq_9, ev.eq_10, ev.eq_11, ev.eq_12, ev.eq_13, ev.eq_14, ev.eq_15, ev.eq_16, ev.eq_17, ev.eq_18, ev.eq_19, ev.eq_20, ev.eq_21, ev.eq_22, ev.eq_23, ev.eq_24, ev.eq_25, ev.eq_26, ev.eq_27, ev.eq_28, ev.eq_29, ev.eq_31, ev.eq_32, ev.eq_34, ev.eq_35, ev.eq_36, ev.eq_37, ev.eq_38, ev.eq_39, ev.eq_40, ev.eq_41, evA, evO, evC, evI, vt, tv, bd_ok, bs_ok, bq_nx, bq_rt, pu_ok, re_nx, re_rt, ma_bl, ma_int, ma_str, ma_non, ma_ty, ma_ref, ma_tup, ma_frl, ma_lst, fix_same, getS, Z.evE, Z.evT, Z.vv, tr_bl, b_len, b_isi, b_all, b_any, b_sum, b_str, b_intI, b_intB, b_tup, b_lst, c_eq, c_ne, c_in, c_ni, c_lt, c_gt, c_le, c_is, c_isn, c_isN, c_isnN, c_isI, c_isL, c_isR, o_add, o_sub, q_bl, q_int, q_str, q_NN, a_int, lenD_ref e, g_nouns, l', e1, e2, n_skip]
theorem b23v {L : List Str} {j : Nat} (u : Cur hh c w ws p) (cf : c ≠ f) (e : hh[f]? = some (.lst xs)) (l : xs.length ≤ 1000) (a : NounAt ws p L j) : ∃ g, evB glob (C (k + 4)) bod23 [some (.ref c), some (.ref f)] hh =
    some (.nx [some (.ref c), some (.ref f)], (hh.set c (cu w j) ++ g).set f (.lst (xs ++ [tn L]))) := by
  obtain ⟨g, e1⟩ := ev_ec (S := [some (.ref c), some (.ref f)]) rfl (noun (k := k) u a) (fun m z => by cases z)
  have lt : f < hh.length := (List.getElem?_eq_some_iff.mp e).1
  have e2 : (hh.set c (cu w j) ++ g)[f]? = some (.lst xs) := by
    rw [List.getElem?_append_left (by rw [List.length_set]; exact lt), List.getElem?_set_ne cf]
    exact e
  have e3 := apd (d := .tup (L.map D.str)) e2 l
  refine ⟨g, ?_⟩
  generalize hh.set c (cu w j) ++ g = h2 at *
  unfold bod23
  rw [evB, evS.eq_1, evB]
  have e4 : evE glob (C (k + 4)) (.meth (.var 1) .append (.cons false (ec "read_noun") .nil)) [some (.ref c), some (.ref f)] hh = some (.ok .non, h2.set f (.lst (xs ++ [tn L]))) := by
    have e5 : evA glob (C (k + 4)) (.cons false (ec "read_noun") .nil) [some (.ref c), some (.ref f)] hh = some (.ok [.tup (L.map D.str)], h2) := by
      simp only [evA, Z.vv, e1, bd_ok, ma_tup]
    simp [evE, ev.eq_26, vt, Z.vv, ev.eq_1, getS, pu_ok, bd_ok, ma_ref, e, e5, e3, tn]
  show bq (bs (evE glob (C (k + 4)) (.meth (.var 1) .append (.cons false (ec "read_noun") .nil)) [some (.ref c), some (.ref f)] hh) [some (.ref c), some (.ref f)] fun _ h1 => some (.nx [some (.ref c), some (.ref f)], h1)) (fun S1 h1 => some (.nx S1, h1)) = _
  rw [e4]
  rfl
theorem loop23 (u : Cur h c w ws i) : ∀ (r : List (List Str)) (p n j N : Nat) (hh : Hh) (Fs : List (List Str)), RestAt ws p n r j → Up h c w p hh f (Fs.map tn) → Fs.length + n = 3 → r.length + 1 ≤ N → ∃ h', whGo (ev glob (C (k + 4)) tst23).t (evB glob (C (k + 4)) bod23) N [some (.ref c), some (.ref f)] hh =
    some (.nx [some (.ref c), some (.ref f)], h') ∧ Up h c w j h' f ((Fs ++ r).map tn)
  | [], p, n, j, N, hh, Fs, a, up, l, hN => by
    obtain ⟨rfl, st⟩ := a
    obtain ⟨N, rfl⟩ : ∃ M, N = M + 1 := ⟨N - 1, by omega⟩
    refine ⟨hh, ?_, by rw [List.append_nil]; exact up⟩
    by_cases c3 : Fs.length < 3
    · have na : pk ws p ≠ "and" := st.resolve_left (by omega)
      have := t23y (k := k + 2) (up.cur u) up.at (by rw [List.length_map]; exact c3)
      rw [if_neg na, decide_eq_false na] at this
      exact wh_no this
    · exact wh_no (t23n (k := k + 2) (up.cur u) up.at (by rw [List.length_map]; exact c3))
  | L :: r, p, n, j, N, hh, Fs, a, up, l, hN => by
    obtain ⟨n', m, rfl, an, nt, rest⟩ := a
    simp only [List.length_cons] at hN
    obtain ⟨N, rfl⟩ : ∃ M, N = M + 1 := ⟨N - 1, by omega⟩
    have e1 := t23y (k := k + 2) (up.cur u) up.at (by rw [List.length_map]; omega)
    rw [if_pos an, decide_eq_true an] at e1
    have up1 := up.move u.lt (p + 1)
    have ne : c ≠ f := by have := u.lt; obtain ⟨_, _, z, _⟩ := up; omega
    obtain ⟨g, e2⟩ := b23v (k := k) (up1.cur u) ne up1.at (by rw [List.length_map]; omega) nt
    have up2 := ((up1.move u.lt m).grow g).push (Fs.map tn ++ [tn L])
    rw [show Fs.map tn ++ [tn L] = (Fs ++ [L]).map tn by simp] at e2 up2
    obtain ⟨h', e3, up3⟩ := loop23 u r m n' j N _ (Fs ++ [L]) rest up2 (by rw [List.length_append]; simp; omega) (by omega)
    refine ⟨h', ?_, by rw [List.append_assoc] at up3; exact up3⟩
    rw [wh_go e1 e2]
    exact e3
theorem nouns {Ls : List (List Str)} {j : Nat} (u : Cur h c w ws i) (a : NounsAt ws i Ls j) : ∃ g, C (k + 5) "read_nouns" [.ref c] h = some (.ok (.tup (Ls.map tn)), h.set c (cu w j) ++ g) := by
  obtain ⟨L, r, m, rfl, an, rest⟩ := a
  obtain ⟨g, e1⟩ := ev_ec (S := [some (.ref c), none]) rfl (noun (k := k) u an) (fun m z => by cases z)
  have up := Up.new (h := h) (c := c) (w := w) (p := m) g [tn L]
  have rl : ∀ (r : List (List Str)) (p n j : Nat), RestAt ws p n r j → r.length ≤ n := fun r => by
    induction r with
    | nil => exact fun _ _ _ _ => Nat.zero_le _
    | cons L r ih => rintro p n j ⟨n', m, rfl, _, _, z⟩; have := ih _ _ _ z; rw [List.length_cons]; omega
  have := rl _ _ _ _ rest
  obtain ⟨h', e2, up2⟩ := loop23 (k := k) u r m 2 j 1000000 _ [L] rest up rfl (by omega)
  obtain ⟨g2, e3⟩ := up2.back
  refine ⟨g2, ?_⟩
  rw [← e3]
  have e4 : tupD h' [.ref (h.set c (cu w m) ++ g).length] = some (.tup ((L :: r).map tn)) := by
    have := up2.at
    simp only [tupD, sqD, lsD, this, Option.map_some]
    rfl
  rw [call_eq t23 rfl]
  have hb : b23 = (.cons (.set 1 (.lst (.cons false (ec "read_noun") .nil))) (.cons (.wh tst23 bod23) (.cons (.ret (.bl1 .tuple (.var 1))) .nil))) := rfl
  have s1 : (1 : Nat) ≤ sizeLine := by decide
  have e5 : evA glob (C (k + 4)) (.cons false (ec "read_noun") .nil) [some (.ref c), none] h = some (.ok [tn L], h.set c (cu w m) ++ g) := by
    simp only [evA, Z.vv, e1, bd_ok, ma_tup, tn]
  rw [hb]
  simp only [List.map, List.replicate, List.append, evB, evS.eq_2, evS.eq_9, evS.eq_5]
  generalize h.set c (cu w m) ++ g = h2 at *
  have e6 : Z.vv (evE glob (C (k + 4)) (.lst (.cons false (ec "read_noun") .nil))) [some (.ref c), none] h = some (.ok (.ref h2.length), h2 ++ [.lst [tn L]]) := by
    simp [Z.vv, evE, ev.eq_17, vt, e5, bd_ok, s1, ma_lst]
  show retOf (bq (bs (Z.vv (evE glob (C (k + 4)) (.lst (.cons false (ec "read_noun") .nil))) [some (.ref c), none] h) [some (.ref c), none] fun d h1 => some (.nx (([some (.ref c), none] : Sl).set 1 (some d)), h1)) _) = _
  rw [e6]
  simp only [bs_ok, bq_nx, List.set]
  have e2' : whGo (evT glob (C (k + 4)) tst23) (evB glob (C (k + 4)) bod23) 1000000 [some (.ref c), some (.ref h2.length)] (h2 ++ [.lst [tn L]]) = some (.nx [some (.ref c), some (.ref h2.length)], h') := e2
  rw [e2']
  simp [bq_nx, evB, evS.eq_1, evS.eq_2, evS.eq_3, evS.eq_4, evS.eq_5, evS.eq_6, evS.eq_7, evS.eq_10, evS.eq_11, evS.eq_12, evS.eq_14, evS.eq_15, evS.eq_17, ev.eq_1, ev.eq_2, ev.eq_3, ev.eq_4, ev.eq_5, ev.eq_6, ev.eq_7, ev.eq_8, ev.eq_9, ev.eq_10, ev.eq_11, ev.eq_12, ev.eq_13, ev.eq_14, ev.eq_15, ev.eq_16, ev.eq_17, ev.eq_18, ev.eq_19, ev.eq_20, ev.eq_21, ev.eq_22, ev.eq_23, ev.eq_24, ev.eq_25, ev.eq_26, ev.eq_27, ev.eq_28, ev.eq_29, ev.eq_31, ev.eq_32, ev.eq_34, ev.eq_35, ev.eq_36, ev.eq_37, ev.eq_38, ev.eq_39, ev.eq_40, ev.eq_41, evA, evO, evC, evI, vt, tv, bd_ok, bs_ok, bq_nx, bq_rt, pu_ok, re_nx, re_rt, ma_bl, ma_int, ma_str, ma_non, ma_ty, ma_ref, ma_tup, ma_frl, ma_lst, fix_same, getS, Z.evE, Z.evT, Z.vv, tr_bl, b_len, b_isi, b_all, b_any, b_sum, b_str, b_intI, b_intB, b_tup, b_lst, c_eq, c_ne, c_in, c_ni, c_lt, c_gt, c_le, c_is, c_isn, c_isN, c_isnN, c_isI, c_isL, c_isR, o_add, o_sub, q_bl, q_int, q_str, q_NN, a_int, e4]
end
end K3

namespace K3
open PySem L2 Z
inductive PhraseAt (ws : List Str) (i : Nat) : D → Nat → Prop
  | pron (m : pk ws i = "it" ∨ pk ws i = "them") : PhraseAt ws i (.tup [.str (pk ws i)]) (i + 1)
  | all (e : pk ws i = "all") (n : pk ws (i + 1) ≠ "but") : PhraseAt ws i (.tup [.str "all", .tup []]) (i + 1)
  | but {Ls : List (List Str)} {j : Nat} (e : pk ws i = "all") (b : pk ws (i + 1) = "but") (a : NounsAt ws (i + 2) Ls j) : PhraseAt ws i (.tup [.str "all", .tup (Ls.map tn)]) j
  | some {Ls : List (List Str)} {j : Nat} (n1 : pk ws i ≠ "it") (n2 : pk ws i ≠ "them") (n3 : pk ws i ≠ "all") (a : NounsAt ws i Ls j) : PhraseAt ws i (.tup [.str "some", .tup (Ls.map tn)]) j
inductive HolderAt (ws : List Str) (i : Nat) : D → Nat → Prop
  | it (e : pk ws i = "it") : HolderAt ws i (.tup [.str "it"]) (i + 1)
  | one {L : List Str} {j : Nat} (n : pk ws i ≠ "it") (a : NounAt ws i L j) : HolderAt ws i (.tup [.str "one", tn L]) j
section
variable {k : Nat} {h hh : Hh} {c w i p q f : Nat} {ws : List Str} {xs ys : List D}
theorem set_app {x y : O} {g g' : Hh} (l : c < h.length) : (h.set c x ++ g).set c y ++ g' = h.set c y ++ (g ++ g') := by rw [set_lt l, List.append_assoc]
theorem evt_of {e : E} {S : Sl} {d : D} {b : Bool} {h2 : Hh} {Φ : CallF} (v : (ev glob Φ e).t S h = bd ((ev glob Φ e).v S h) fun x h1 => pu (truD h1 x) h1) : True := trivial
theorem it_them {x : Str} : inD h (.str x) (.tup [.str "it", .str "them"]) = some (decide (x = "it" ∨ x = "them")) := by
  have := inD_strs (h := h) (x := x) (d := .tup [.str "it", .str "them"]) (l := ["it", "them"]) rfl
  simpa using this
theorem s2 : (2 : Nat) ≤ sizeLine := by decide
theorem s1 : (1 : Nat) ≤ sizeLine := by decide
theorem s0 : (0 : Nat) ≤ sizeLine := by decide
theorem phrase {d : D} {j : Nat} (u : Cur h c w ws i) (a : PhraseAt ws i d j) : ∃ g, C (k + 6) "read_phrase" [.ref c] h = some (.ok d, h.set c (cu w j) ++ g) := by
  have e1 : h[c]? = some (.ins "Cursor" (cf w i)) := u.oc
  have e0 := peek (k := k + 4) u
  rw [call_eq t21 rfl]
  cases a with
  | pron m =>
    have e2 := next (k := k + 3) u
    refine ⟨[], ?_⟩
    rw [List.append_nil]
    simp [b21, evB, evS.eq_1, evS.eq_2, evS.eq_3, evS.eq_4, evS.eq_5, evS.eq_6, evS.eq_7, evS.eq_10, evS.eq_11, evS.eq_12, evS.eq_14, evS.eq_15, evS.eq_17, ev.eq_1, ev.eq_2, ev.eq_3, ev.eq_4, ev.eq_5, ev.eq_6, ev.eq_7, ev.eq_8, ev.eq_9, ev.eq_10, ev.eq_11, ev.eq_12, ev.eq_13, ev.eq_14, ev.eq_15, ev.eq_16, ev.eq_17, ev.eq_18, ev.eq_19, ev.eq_20, ev.eq_21, ev.eq_22, ev.eq_23, ev.eq_24, ev.eq_25, ev.eq_26, ev.eq_27, ev.eq_28, ev.eq_29, ev.eq_31, ev.eq_32, ev.eq_34, ev.eq_35, ev.eq_36, ev.eq_37, ev.eq_38, ev.eq_39, ev.eq_40, ev.eq_41, evA, evO, evC, evI, vt, tv, bd_ok, bs_ok, bq_nx, bq_rt, pu_ok, re_nx, re_rt, ma_bl, ma_int, ma_str, ma_non, ma_ty, ma_ref, ma_tup, ma_frl, ma_lst, fix_same, getS, Z.evE, Z.evT, Z.vv, tr_bl, b_len, b_isi, b_all, b_any, b_sum, b_str, b_intI, b_intB, b_tup, b_lst, c_eq, c_ne, c_in, c_ni, c_lt, c_gt, c_le, c_is, c_isn, c_isN, c_isnN, c_isI, c_isL, c_isR, o_add, o_sub, q_bl, q_int, q_str, q_NN, a_int, e1, e0, e2, it_them, m, n_peek, n_next, fix_set, s2, s1]
  | all e n =>
    have e2 := skip (k := k + 3) u "all"
    rw [if_pos e, decide_eq_true e] at e2
    have u2 := u.set (i + 1)
    have e3 := skip (k := k + 3) u2 "but"
    rw [if_neg n, decide_eq_false n] at e3
    have e4 : (h.set c (cu w (i + 1)))[c]? = some (.ins "Cursor" (cf w (i + 1))) := u2.oc
    have m : ¬ (pk ws i = "it" ∨ pk ws i = "them") := by rw [e]; decide +kernel
    refine ⟨[], ?_⟩
    rw [List.append_nil]
    simp [b21, evB, evS.eq_1, evS.eq_2, evS.eq_3, evS.eq_4, evS.eq_5, evS.eq_6, evS.eq_7, evS.eq_10, evS.eq_11, evS.eq_12, evS.eq_14, evS.eq_15, evS.eq_17, ev.eq_1, ev.eq_2, ev.eq_3, ev.eq_4, ev.eq_5, ev.eq_6, ev.eq_7, ev.eq_8, ev.eq_9, ev.eq_10, ev.eq_11, ev.eq_12, ev.eq_13, ev.eq_14, ev.eq_15, ev.eq_16, ev.eq_17, ev.eq_18, ev.eq_19, ev.eq_20, ev.eq_21, ev.eq_22, ev.eq_23, ev.eq_24, ev.eq_25, ev.eq_26, ev.eq_27, ev.eq_28, ev.eq_29, ev.eq_31, ev.eq_32, ev.eq_34, ev.eq_35, ev.eq_36, ev.eq_37, ev.eq_38, ev.eq_39, ev.eq_40, ev.eq_41, evA, evO, evC, evI, vt, tv, bd_ok, bs_ok, bq_nx, bq_rt, pu_ok, re_nx, re_rt, ma_bl, ma_int, ma_str, ma_non, ma_ty, ma_ref, ma_tup, ma_frl, ma_lst, fix_same, getS, Z.evE, Z.evT, Z.vv, tr_bl, b_len, b_isi, b_all, b_any, b_sum, b_str, b_intI, b_intB, b_tup, b_lst, c_eq, c_ne, c_in, c_ni, c_lt, c_gt, c_le, c_is, c_isn, c_isN, c_isnN, c_isI, c_isL, c_isR, o_add, o_sub, q_bl, q_int, q_str, q_NN, a_int, e1, e0, e2, e3, e4, it_them, m, n_peek, n_next, n_skip, fix_set, s2, s1, s0]
  | but e b a =>
    rename_i Ls
    have e2 := skip (k := k + 3) u "all"
    rw [if_pos e, decide_eq_true e] at e2
    have u2 := u.set (i + 1)
    have e3 := skip (k := k + 3) u2 "but"
    rw [if_pos b, decide_eq_true b, List.set_set] at e3
    have e4 : (h.set c (cu w (i + 1)))[c]? = some (.ins "Cursor" (cf w (i + 1))) := u2.oc
    have m : ¬ (pk ws i = "it" ∨ pk ws i = "them") := by rw [e]; decide +kernel
    have u3 := u.set (i + 1 + 1)
    obtain ⟨g, e5⟩ := nouns (k := k) u3 a
    rw [List.set_set] at e5
    have e6 : fix (h.set c (cu w (i + 1))) (.bl true) (h.set c (cu w (i + 1 + 1))) = some (.ok (.bl true), h.set c (cu w (i + 1 + 1))) := fix_len (by simp)
    obtain ⟨g', e7⟩ := fix_more (h := h.set c (cu w (i + 1 + 1))) (d := .tup (Ls.map tn)) (h1 := h.set c (cu w j)) (g := g) (by simp) (fun m z => by cases z)
    refine ⟨g', ?_⟩
    simp [b21, evB, evS.eq_1, evS.eq_2, evS.eq_3, evS.eq_4, evS.eq_5, evS.eq_6, evS.eq_7, evS.eq_10, evS.eq_11, evS.eq_12, evS.eq_14, evS.eq_15, evS.eq_17, ev.eq_1, ev.eq_2, ev.eq_3, ev.eq_4, ev.eq_5, ev.eq_6, ev.eq_7, ev.eq_8, ev.eq_9, ev.eq_10, ev.eq_11, ev.eq_12, ev.eq_13, ev.eq_14, ev.eq_15, ev.eq_16, ev.eq_17, ev.eq_18, ev.eq_19, ev.eq_20, ev.eq_21, ev.eq_22, ev.eq_23, ev.eq_24, ev.eq_25, ev.eq_26, ev.eq_27, ev.eq_28, ev.eq_29, ev.eq_31, ev.eq_32, ev.eq_34, ev.eq_35, ev.eq_36, ev.eq_37, ev.eq_38, ev.eq_39, ev.eq_40, ev.eq_41, evA, evO, evC, evI, vt, tv, bd_ok, bs_ok, bq_nx, bq_rt, pu_ok, re_nx, re_rt, ma_bl, ma_int, ma_str, ma_non, ma_ty, ma_ref, ma_tup, ma_frl, ma_lst, fix_same, getS, Z.evE, Z.evT, Z.vv, tr_bl, b_len, b_isi, b_all, b_any, b_sum, b_str, b_intI, b_intB, b_tup, b_lst, c_eq, c_ne, c_in, c_ni, c_lt, c_gt, c_le, c_is, c_isn, c_isN, c_isnN, c_isI, c_isL, c_isR, o_add, o_sub, q_bl, q_int, q_str, q_NN, a_int, e1, e0, e2, e3, e4, e5, e6, e7, it_them, m, n_peek, n_next, n_skip, fix_set, s2, s1, s0]
  | some n1 n2 n3 a =>
    rename_i Ls
    have e2 := skip (k := k + 3) u "all"
    rw [if_neg n3, decide_eq_false n3] at e2
    obtain ⟨g, e5⟩ := nouns (k := k) u a
    obtain ⟨g', e7⟩ := fix_more (h := h) (d := .tup (Ls.map tn)) (h1 := h.set c (cu w j)) (g := g) (by simp) (fun m z => by cases z)
    refine ⟨g', ?_⟩
    simp [b21, evB, evS.eq_1, evS.eq_2, evS.eq_3, evS.eq_4, evS.eq_5, evS.eq_6, evS.eq_7, evS.eq_10, evS.eq_11, evS.eq_12, evS.eq_14, evS.eq_15, evS.eq_17, ev.eq_1, ev.eq_2, ev.eq_3, ev.eq_4, ev.eq_5, ev.eq_6, ev.eq_7, ev.eq_8, ev.eq_9, ev.eq_10, ev.eq_11, ev.eq_12, ev.eq_13, ev.eq_14, ev.eq_15, ev.eq_16, ev.eq_17, ev.eq_18, ev.eq_19, ev.eq_20, ev.eq_21, ev.eq_22, ev.eq_23, ev.eq_24, ev.eq_25, ev.eq_26, ev.eq_27, ev.eq_28, ev.eq_29, ev.eq_31, ev.eq_32, ev.eq_34, ev.eq_35, ev.eq_36, ev.eq_37, ev.eq_38, ev.eq_39, ev.eq_40, ev.eq_41, evA, evO, evC, evI, vt, tv, bd_ok, bs_ok, bq_nx, bq_rt, pu_ok, re_nx, re_rt, ma_bl, ma_int, ma_str, ma_non, ma_ty, ma_ref, ma_tup, ma_frl, ma_lst, fix_same, getS, Z.evE, Z.evT, Z.vv, tr_bl, b_len, b_isi, b_all, b_any, b_sum, b_str, b_intI, b_intB, b_tup, b_lst, c_eq, c_ne, c_in, c_ni, c_lt, c_gt, c_le, c_is, c_isn, c_isN, c_isnN, c_isI, c_isL, c_isR, o_add, o_sub, q_bl, q_int, q_str, q_NN, a_int, e1, e0, e2, e5, e7, it_them, n1, n2, n_peek, n_next, n_skip, fix_set, s2, s1, s0]
theorem holder {d : D} {j : Nat} (u : Cur h c w ws i) (a : HolderAt ws i d j) : ∃ g, C (k + 5) "read_holder" [.ref c] h = some (.ok d, h.set c (cu w j) ++ g) := by
  have e1 : h[c]? = some (.ins "Cursor" (cf w i)) := u.oc
  rw [call_eq t22 rfl]
  have e2 := skip (k := k + 2) u "it"
  cases a with
  | it e =>
    rw [if_pos e, decide_eq_true e] at e2
    refine ⟨[], ?_⟩
    rw [List.append_nil]
    simp [b22, evB, evS.eq_1, evS.eq_2, evS.eq_3, evS.eq_4, evS.eq_5, evS.eq_6, evS.eq_7, evS.eq_10, evS.eq_11, evS.eq_12, evS.eq_14, evS.eq_15, evS.eq_17, ev.eq_1, ev.eq_2, ev.eq_3, ev.eq_4, ev.eq_5, ev.eq_6, ev.eq_7, ev.eq_8, ev.eq_9, ev.eq_10, ev.eq_11, ev.eq_12, ev.eq_13, ev.eq_14, ev.eq_15, ev.eq_16, ev.eq_17, ev.eq_18, ev.eq_19, ev.eq_20, ev.eq_21, ev.eq_22, ev.eq_23, ev.eq_24, ev.eq_25, ev.eq_26, ev.eq_27, ev.eq_28, ev.eq_29, ev.eq_31, ev.eq_32, ev.eq_34, ev.eq_35, ev.eq_36, ev.eq_37, ev.eq_38, ev.eq_39, ev.eq_40, ev.eq_41, evA, evO, evC, evI, vt, tv, bd_ok, bs_ok, bq_nx, bq_rt, pu_ok, re_nx, re_rt, ma_bl, ma_int, ma_str, ma_non, ma_ty, ma_ref, ma_tup, ma_frl, ma_lst, fix_same, getS, Z.evE, Z.evT, Z.vv, tr_bl, b_len, b_isi, b_all, b_any, b_sum, b_str, b_intI, b_intB, b_tup, b_lst, c_eq, c_ne, c_in, c_ni, c_lt, c_gt, c_le, c_is, c_isn, c_isN, c_isnN, c_isI, c_isL, c_isR, o_add, o_sub, q_bl, q_int, q_str, q_NN, a_int, e1, e2, n_skip, fix_set, s1]
  | one n a =>
    rename_i L
    rw [if_neg n, decide_eq_false n] at e2
    have e5 := noun (k := k) u a
    obtain ⟨g', e7⟩ := fix_more (h := h) (d := .tup (L.map D.str)) (h1 := h.set c (cu w j)) (g := [.lst (L.map D.str)]) (by simp) (fun m z => by cases z)
    refine ⟨g', ?_⟩
    simp [b22, evB, evS.eq_1, evS.eq_2, evS.eq_3, evS.eq_4, evS.eq_5, evS.eq_6, evS.eq_7, evS.eq_10, evS.eq_11, evS.eq_12, evS.eq_14, evS.eq_15, evS.eq_17, ev.eq_1, ev.eq_2, ev.eq_3, ev.eq_4, ev.eq_5, ev.eq_6, ev.eq_7, ev.eq_8, ev.eq_9, ev.eq_10, ev.eq_11, ev.eq_12, ev.eq_13, ev.eq_14, ev.eq_15, ev.eq_16, ev.eq_17, ev.eq_18, ev.eq_19, ev.eq_20, ev.eq_21, ev.eq_22, ev.eq_23, ev.eq_24, ev.eq_25, ev.eq_26, ev.eq_27, ev.eq_28, ev.eq_29, ev.eq_31, ev.eq_32, ev.eq_34, ev.eq_35, ev.eq_36, ev.eq_37, ev.eq_38, ev.eq_39, ev.eq_40, ev.eq_41, evA, evO, evC, evI, vt, tv, bd_ok, bs_ok, bq_nx, bq_rt, pu_ok, re_nx, re_rt, ma_bl, ma_int, ma_str, ma_non, ma_ty, ma_ref, ma_tup, ma_frl, ma_lst, fix_same, getS, Z.evE, Z.evT, Z.vv, tr_bl, b_len, b_isi, b_all, b_any, b_sum, b_str, b_intI, b_intB, b_tup, b_lst, c_eq, c_ne, c_in, c_ni, c_lt, c_gt, c_le, c_is, c_isn, c_isN, c_isnN, c_isI, c_isL, c_isR, o_add, o_sub, q_bl, q_int, q_str, q_NN, a_int, e1, e2, e5, e7, n_skip, fix_set, s2, tn]
end
abbrev clf (a b l d : D) : List (Str × D) := [("verb", a), ("what", b), ("link", l), ("holder", d)]
abbrev cl (a b l d : D) : O := .ins "Clause" (clf a b l d)
section
variable {k : Nat} {h hh : Hh} {c w i p q f : Nat} {ws : List Str} {xs ys : List D} {x a b l d : D}
theorem put1 : putD "verb" x [] = ([("verb", x)] : List (Str × D)) := rfl
theorem put2 : putD "what" x ([("verb", a)] : List (Str × D)) = ([("verb", a), ("what", x)] : List (Str × D)) := by rw [putD, if_neg (by decide +kernel)]; rfl
theorem put3 : putD "link" x ([("verb", a), ("what", b)] : List (Str × D)) = ([("verb", a), ("what", b), ("link", x)] : List (Str × D)) := by rw [putD, if_neg (by decide +kernel), putD, if_neg (by decide +kernel)]; rfl
theorem put4 : putD "holder" x ([("verb", a), ("what", b), ("link", l)] : List (Str × D)) = clf a b l x := by rw [putD, if_neg (by decide +kernel), putD, if_neg (by decide +kernel), putD, if_neg (by decide +kernel)]; rfl
theorem end_get {o : O} : (h ++ [o])[h.length]? = some o := by rw [List.getElem?_append_right (Nat.le_refl _), Nat.sub_self]; rfl
theorem end_set {o o' : O} : (h ++ [o]).set h.length o' = h ++ [o'] := by rw [List.set_append_right _ _ (Nat.le_refl _), Nat.sub_self]; rfl
theorem init_cl (na : ∀ xs, a ≠ .lst xs) (nb : ∀ xs, b ≠ .lst xs) (nl : ∀ xs, l ≠ .lst xs) (nd : ∀ xs, d ≠ .lst xs) : C (k + 1) "Clause.__init__" [.ref h.length, a, b, l, d] (h ++ [.ins "Clause" []]) = some (.ok .non, h ++ [cl a b l d]) := by
  rw [call_eq t16 rfl]
  simp [b16, evB, evS.eq_1, evS.eq_2, evS.eq_3, evS.eq_4, evS.eq_5, evS.eq_6, evS.eq_7, evS.eq_10, evS.eq_11, evS.eq_12, evS.eq_14, evS.eq_15, evS.eq_17, ev.eq_1, ev.eq_2, ev.eq_3, ev.eq_4, ev.eq_5, ev.eq_6, ev.eq_7, ev.eq_8, ev.eq_9, ev.eq_10, ev.eq_11, ev.eq_12, ev.eq_13, ev.eq_14, ev.eq_15, ev.eq_16, ev.eq_17, ev.eq_18, ev.eq_19, ev.eq_20, ev.eq_21, ev.eq_22, ev.eq_23, ev.eq_24, ev.eq_25, ev.eq_26, ev.eq_27, ev.eq_28, ev.eq_29, ev.eq_31, ev.eq_32, ev.eq_34, ev.eq_35, ev.eq_36, ev.eq_37, ev.eq_38, ev.eq_39, ev.eq_40, ev.eq_41, evA, evO, evC, evI, vt, tv, bd_ok, bs_ok, bq_nx, bq_rt, pu_ok, re_nx, re_rt, ma_bl, ma_int, ma_str, ma_non, ma_ty, ma_ref, ma_tup, ma_frl, ma_lst, fix_same, getS, Z.evE, Z.evT, Z.vv, tr_bl, b_len, b_isi, b_all, b_any, b_sum, b_str, b_intI, b_intB, b_tup, b_lst, c_eq, c_ne, c_in, c_ni, c_lt, c_gt, c_le, c_is, c_isn, c_isN, c_isnN, c_isI, c_isL, c_isR, o_add, o_sub, q_bl, q_int, q_str, q_NN, a_int, mat_ok na, mat_ok nb, mat_ok nl, mat_ok nd, end_get, end_set, put1, put2, put3, put4]
theorem ev_cl {S : Sl} {es : EL} {h1 : Hh} (e : evA glob (C (k + 1)) es S h = some (.ok [a, b, l, d], h1)) (na : ∀ xs, a ≠ .lst xs) (nb : ∀ xs, b ≠ .lst xs) (nl : ∀ xs, l ≠ .lst xs) (nd : ∀ xs, d ≠ .lst xs) :
    (ev glob (C (k + 1)) (.mk "Clause" "Clause.__init__" es)).v S h = some (.ok (.ref h1.length), h1 ++ [cl a b l d]) := by
  rw [ev.eq_36]
  simp only [vt, e, bd_ok, init_cl na nb nl nd]
end
end K3

namespace K3
open PySem L2 Z
/-- a CLAUSE stands there: what it is told as -/
inductive ClauseAt (ws : List Str) (i : Nat) : D → D → D → D → Nat → Prop
  | lone (m : pk ws i ∈ lLon) : ClauseAt ws i (.str (pk ws i)) (.str "") (.str "") .non (i + 1)
  | dir (m : pk ws i ∈ lDir) : ClauseAt ws i (.str "go") (.str (pk ws i)) (.str "") .non (i + 1)
  | go (e : pk ws i = "go") (m : pk ws (i + 1) ∈ lDir) : ClauseAt ws i (.str "go") (.str (pk ws (i + 1))) (.str "") .non (i + 2)
  | verb {d : D} {j : Nat} (m : pk ws i ∈ (["take", "drop", "open", "shut", "wear", "doff"] : List Str)) (a : PhraseAt ws (i + 1) d j) : ClauseAt ws i (.str (pk ws i)) d (.str "") .non j
  | put {d hd : D} {m j : Nat} (e : pk ws i = "put") (a : PhraseAt ws (i + 1) d m) (n : pk ws m = "in" ∨ pk ws m = "on") (b : HolderAt ws (m + 1) hd j) : ClauseAt ws i (.str "put") d (.str (pk ws m)) hd j
theorem PhraseAt.tup {ws : List Str} {i j : Nat} {d : D} (a : PhraseAt ws i d j) : ∃ xs, d = .tup xs := by cases a <;> exact ⟨_, rfl⟩
theorem HolderAt.tup {ws : List Str} {i j : Nat} {d : D} (a : HolderAt ws i d j) : ∃ xs, d = .tup xs := by cases a <;> exact ⟨_, rfl⟩
section
variable {k : Nat} {h hh : Hh} {c w i p q f : Nat} {ws : List Str} {xs ys : List D}
theorem evA1 {Φ : CallF} {e : E} {S : Sl} {h h1 : Hh} {d : D} (t : (ev glob Φ e).v S h = some (.ok d, h1)) (n : ∀ xs, d ≠ .lst xs) : evA glob Φ (.cons false e .nil) S h = some (.ok [d], h1) := by
  simp only [evA, Z.vv, t, bd_ok, mat_ok n]
def oneE : E := (.omth (.var 0) "Cursor" "take_one_of" "Cursor.take_one_of" (.cons false (.tup (.cons true (.glob "COMMANDS") (.cons true (.glob "DIRECTIONS") .nil))) .nil))
theorem one20 {S : Sl} (u : Cur h c w ws i) (s : getS S 0 = some (.ref c)) (m : pk ws i ∈ lCom ++ lDir) : (ev glob (C (k + 3)) oneE).v S h = some (.ok (.str (pk ws i)), h.set c (cu w (i + 1))) := by
  have e1 : h[c]? = some (.ins "Cursor" (cf w i)) := u.oc
  have e2 := one_of (k := k) u m
  rw [List.map_append] at e2
  have l1 : (lCom.map D.str ++ lDir.map D.str).length ≤ sizeLine := by decide
  have e3 : evA glob (C (k + 3)) (.cons false (.tup (.cons true (.glob "COMMANDS") (.cons true (.glob "DIRECTIONS") .nil))) .nil) S h = some (.ok [.tup (lCom.map D.str ++ lDir.map D.str)], h) := by
    have : evA glob (C (k + 3)) (.cons true (.glob "COMMANDS") (.cons true (.glob "DIRECTIONS") .nil)) S h = some (.ok (lCom.map D.str ++ lDir.map D.str), h) := by
      simp only [evA, ev.eq_6, vt, g_com, g_dir, pu_ok, bd_ok, sqD, List.append_nil]
    refine evA1 ?_ (fun _ z => by cases z)
    rw [ev.eq_16]
    simp only [vt, this, bd_ok, if_pos l1]
  have s' : (ev glob (C (k + 3)) (.var 0)).v S h = some (.ok (.ref c), h) := by simp only [ev.eq_1, vt, s, pu_ok]
  rw [oneE, ev.eq_35]
  simp only [vt, s', bd_ok, e1]
  simp only [n_one, and_self, if_true, e3, bd_ok, e2]
  exact fix_set
theorem in_dir {x : Str} : inD h (.str x) (.tup (lDir.map D.str)) = some (decide (x ∈ lDir)) := inD_strs rfl
theorem in_lon {x : Str} : inD h (.str x) (.tup (lLon.map D.str)) = some (decide (x ∈ lLon)) := inD_strs rfl
theorem nls {x : Str} : ∀ xs, D.str x ≠ .lst xs := fun _ z => by cases z
theorem nln : ∀ xs, D.non ≠ .lst xs := fun _ z => by cases z
theorem nlt {ys : List D} : ∀ xs, D.tup ys ≠ .lst xs := fun _ z => by cases z
def mkE (es : EL) : E := .mk "Clause" "Clause.__init__" es
def l1E : EL := (.cons false (.str "go") (.cons false (.var 1) (.cons false (.str "") (.cons false .non .nil))))
def l2E : EL := (.cons false (.var 1) (.cons false (.omth (.var 0) "Cursor" "take_one_of" "Cursor.take_one_of" (.cons false (.glob "DIRECTIONS") .nil)) (.cons false (.str "") (.cons false .non .nil))))
def l3E : EL := (.cons false (.var 1) (.cons false (.str "") (.cons false (.str "") (.cons false .non .nil))))
def l4E : EL := (.cons false (.var 1) (.cons false (.var 2) (.cons false (.str "") (.cons false .non .nil))))
def l5E : EL := (.cons false (.var 1) (.cons false (.var 2) (.cons false (.var 3) (.cons false (ec "read_holder") .nil))))
def c1E : E := (.cmp .In (.var 1) (.glob "DIRECTIONS"))
def c2E : E := (.cmp .Eq (.var 1) (.str "go"))
def c3E : E := (.cmp .In (.var 1) (.glob "LONE_VERBS"))
def c4E : E := (.cmp .NotEq (.var 1) (.str "put"))
def o3E : E := (.omth (.var 0) "Cursor" "take_one_of" "Cursor.take_one_of" (.cons false (.tup (.cons false (.str "in") (.cons false (.str "on") .nil))) .nil))
def rst4 : SL := (.cons (.ife c4E (.cons (.ret (mkE l4E)) .nil) .nil) (.cons (.set 3 o3E) (.cons (.ret (mkE l5E)) .nil)))
theorem b20_eq : b20 = (.cons (.set 1 oneE) (.cons (.ife c1E (.cons (.ret (mkE l1E)) .nil) .nil) (.cons (.ife c2E (.cons (.ret (mkE l2E)) .nil) .nil) (.cons (.ife c3E (.cons (.ret (mkE l3E)) .nil) .nil) (.cons (.set 2 (ec "read_phrase")) rst4))))) := rfl
theorem if_y {Φ : CallF} {e : E} {a b l : SL} {S : Sl} {h h1 : Hh} (t : (ev glob Φ e).t S h = some (.ok true, h1)) : evB glob Φ (.cons (.ife e a b) l) S h = bq (evB glob Φ a S h1) fun S1 h2 => evB glob Φ l S1 h2 := by
  rw [evB, evS.eq_7]
  simp only [evT, t, bs_ok, if_true]
theorem if_n {Φ : CallF} {e : E} {a l : SL} {S : Sl} {h h1 : Hh} (t : (ev glob Φ e).t S h = some (.ok false, h1)) : evB glob Φ (.cons (.ife e a .nil) l) S h = evB glob Φ l S h1 := by
  rw [evB, evS.eq_7]
  simp only [evT, t, bs_ok, Bool.false_eq_true, if_false, evB, bq_nx]
theorem set_v {Φ : CallF} {e : E} {l : SL} {S : Sl} {h h1 : Hh} {d : D} {i : Nat} (t : (ev glob Φ e).v S h = some (.ok d, h1)) (n : ∀ xs, d ≠ .lst xs) : evB glob Φ (.cons (.set i e) l) S h = evB glob Φ l (S.set i (some d)) h1 := by
  rw [evB, evS.eq_2]
  simp only [evE, Z.vv, t, bd_ok, mat_ok n, bs_ok, bq_nx]
theorem ret_v {Φ : CallF} {e : E} {l : SL} {S : Sl} {h h1 : Hh} {d : D} (t : (ev glob Φ e).v S h = some (.ok d, h1)) : evB glob Φ (.cons (.ret e) l) S h = some (.rt d, h1) := by
  rw [evB, evS.eq_5]
  simp only [evE, t, bs_ok, bq_rt]
/-- a Clause stands in what was made -/
def MadeAt (h h' : Hh) (n : Nat) (o : O) : Prop := h.length ≤ n ∧ h'[n]? = some o
theorem clause {a b l d : D} {j : Nat} (u : Cur h c w ws i) (z : ClauseAt ws i a b l d j) : ∃ n g, C (k + 7) "read_clause" [.ref c] h = some (.ok (.ref n), h.set c (cu w j) ++ g) ∧ h.length ≤ n ∧ (h.set c (cu w j) ++ g)[n]? = some (cl a b l d) := by
  rw [call_eq t20 rfl]
  show ∃ n g, retOf (evB glob (C (k + 6)) b20 [some (.ref c), none, none, none] h) = _ ∧ _
  have u1 := u.set (i + 1)
  have com : pk ws i ∈ lCom ++ lDir := by
    rw [List.mem_append]
    cases z with
    | lone m => exact .inl ((by decide +kernel : ∀ x ∈ lLon, x ∈ lCom) _ m)
    | dir m => exact .inr m
    | go e m => exact .inl (by rw [e]; decide +kernel)
    | verb m _ => exact .inl ((by decide +kernel : ∀ x ∈ (["take", "drop", "open", "shut", "wear", "doff"] : List Str), x ∈ lCom) _ m)
    | put e _ _ _ => exact .inl (by rw [e]; decide +kernel)
  have f1 := one20 (k := k + 3) (S := [some (.ref c), none, none, none]) u rfl com
  rw [b20_eq, set_v f1 nls]
  simp only [List.set]
  generalize eh : h.set c (cu w (i + 1)) = h1 at *
  have lh : h1.length = h.length := by rw [← eh, List.length_set]
  have T1 : ∀ S x y, (ev glob (C (k + 6)) c1E).t (S :: some (.str (pk ws i)) :: x :: y :: []) h1 = some (.ok (decide (pk ws i ∈ lDir)), h1) := fun S x y => by simp [c1E, evB, evS.eq_1, evS.eq_2, evS.eq_3, evS.eq_4, evS.eq_5, evS.eq_6, evS.eq_7, evS.eq_10, evS.eq_11, evS.eq_12, evS.eq_14, evS.eq_15, evS.eq_17, ev.eq_1, ev.eq_2, ev.eq_3, ev.eq_4, ev.eq_5, ev.eq_6, ev.eq_7, ev.eq_8, ev.eq_9, ev.eq_10, ev.eq_11, ev.eq_12, ev.eq_13, ev.eq_14, ev.eq_15, ev.eq_16, ev.eq_17, ev.eq_18, ev.eq_19, ev.eq_20, ev.eq_21, ev.eq_22, ev.eq_23, ev.eq_24, ev.eq_25, ev.eq_26, ev.eq_27, ev.eq_28, ev.eq_29, ev.eq_31, ev.eq_32, ev.eq_34, ev.eq_35, ev.eq_36, ev.eq_37, ev.eq_38, ev.eq_39, ev.eq_40, ev.eq_41, evA, evO, evC, evI, vt, tv, bd_ok, bs_ok, bq_nx, bq_rt, pu_ok, re_nx, re_rt, ma_bl, ma_int, ma_str, ma_non, ma_ty, ma_ref, ma_tup, ma_frl, ma_lst, fix_same, getS, Z.evE, Z.evT, Z.vv, tr_bl, b_len, b_isi, b_all, b_any, b_sum, b_str, b_intI, b_intB, b_tup, b_lst, c_eq, c_ne, c_in, c_ni, c_lt, c_gt, c_le, c_is, c_isn, c_isN, c_isnN, c_isI, c_isL, c_isR, o_add, o_sub, q_bl, q_int, q_str, q_NN, a_int, g_dir, in_dir]
  have T2 : ∀ S x y, (ev glob (C (k + 6)) c2E).t (S :: some (.str (pk ws i)) :: x :: y :: []) h1 = some (.ok (decide (pk ws i = "go")), h1) := fun S x y => by simp [c2E, evB, evS.eq_1, evS.eq_2, evS.eq_3, evS.eq_4, evS.eq_5, evS.eq_6, evS.eq_7, evS.eq_10, evS.eq_11, evS.eq_12, evS.eq_14, evS.eq_15, evS.eq_17, ev.eq_1, ev.eq_2, ev.eq_3, ev.eq_4, ev.eq_5, ev.eq_6, ev.eq_7, ev.eq_8, ev.eq_9, ev.eq_10, ev.eq_11, ev.eq_12, ev.eq_13, ev.eq_14, ev.eq_15, ev.eq_16, ev.eq_17, ev.eq_18, ev.eq_19, ev.eq_20, ev.eq_21, ev.eq_22, ev.eq_23, ev.eq_24, ev.eq_25, ev.eq_26, ev.eq_27, ev.eq_28, ev.eq_29, ev.eq_31, ev.eq_32, ev.eq_34, ev.eq_35, ev.eq_36, ev.eq_37, ev.eq_38, ev.eq_39, ev.eq_40, ev.eq_41, evA, evO, evC, evI, vt, tv, bd_ok, bs_ok, bq_nx, bq_rt, pu_ok, re_nx, re_rt, ma_bl, ma_int, ma_str, ma_non, ma_ty, ma_ref, ma_tup, ma_frl, ma_lst, fix_same, getS, Z.evE, Z.evT, Z.vv, tr_bl, b_len, b_isi, b_all, b_any, b_sum, b_str, b_intI, b_intB, b_tup, b_lst, c_eq, c_ne, c_in, c_ni, c_lt, c_gt, c_le, c_is, c_isn, c_isN, c_isnN, c_isI, c_isL, c_isR, o_add, o_sub, q_bl, q_int, q_str, q_NN, a_int]
  have T3 : ∀ S x y, (ev glob (C (k + 6)) c3E).t (S :: some (.str (pk ws i)) :: x :: y :: []) h1 = some (.ok (decide (pk ws i ∈ lLon)), h1) := fun S x y => by simp [c3E, evB, evS.eq_1, evS.eq_2, evS.eq_3, evS.eq_4, evS.eq_5, evS.eq_6, evS.eq_7, evS.eq_10, evS.eq_11, evS.eq_12, evS.eq_14, evS.eq_15, evS.eq_17, ev.eq_1, ev.eq_2, ev.eq_3, ev.eq_4, ev.eq_5, ev.eq_6, ev.eq_7, ev.eq_8, ev.eq_9, ev.eq_10, ev.eq_11, ev.eq_12, ev.eq_13, ev.eq_14, ev.eq_15, ev.eq_16, ev.eq_17, ev.eq_18, ev.eq_19, ev.eq_20, ev.eq_21, ev.eq_22, ev.eq_23, ev.eq_24, ev.eq_25, ev.eq_26, ev.eq_27, ev.eq_28, ev.eq_29, ev.eq_31, ev.eq_32, ev.eq_34, ev.eq_35, ev.eq_36, ev.eq_37, ev.eq_38, ev.eq_39, ev.eq_40, ev.eq_41, evA, evO, evC, evI, vt, tv, bd_ok, bs_ok, bq_nx, bq_rt, pu_ok, re_nx, re_rt, ma_bl, ma_int, ma_str, ma_non, ma_ty, ma_ref, ma_tup, ma_frl, ma_lst, fix_same, getS, Z.evE, Z.evT, Z.vv, tr_bl, b_len, b_isi, b_all, b_any, b_sum, b_str, b_intI, b_intB, b_tup, b_lst, c_eq, c_ne, c_in, c_ni, c_lt, c_gt, c_le, c_is, c_isn, c_isN, c_isnN, c_isI, c_isL, c_isR, o_add, o_sub, q_bl, q_int, q_str, q_NN, a_int, g_lon, in_lon]
  have T4 : ∀ h2 S x y, (ev glob (C (k + 6)) c4E).t (S :: some (.str (pk ws i)) :: x :: y :: []) h2 = some (.ok (!decide (pk ws i = "put")), h2) := fun h2 S x y => by simp [c4E, evB, evS.eq_1, evS.eq_2, evS.eq_3, evS.eq_4, evS.eq_5, evS.eq_6, evS.eq_7, evS.eq_10, evS.eq_11, evS.eq_12, evS.eq_14, evS.eq_15, evS.eq_17, ev.eq_1, ev.eq_2, ev.eq_3, ev.eq_4, ev.eq_5, ev.eq_6, ev.eq_7, ev.eq_8, ev.eq_9, ev.eq_10, ev.eq_11, ev.eq_12, ev.eq_13, ev.eq_14, ev.eq_15, ev.eq_16, ev.eq_17, ev.eq_18, ev.eq_19, ev.eq_20, ev.eq_21, ev.eq_22, ev.eq_23, ev.eq_24, ev.eq_25, ev.eq_26, ev.eq_27, ev.eq_28, ev.eq_29, ev.eq_31, ev.eq_32, ev.eq_34, ev.eq_35, ev.eq_36, ev.eq_37, ev.eq_38, ev.eq_39, ev.eq_40, ev.eq_41, evA, evO, evC, evI, vt, tv, bd_ok, bs_ok, bq_nx, bq_rt, pu_ok, re_nx, re_rt, ma_bl, ma_int, ma_str, ma_non, ma_ty, ma_ref, ma_tup, ma_frl, ma_lst, fix_same, getS, Z.evE, Z.evT, Z.vv, tr_bl, b_len, b_isi, b_all, b_any, b_sum, b_str, b_intI, b_intB, b_tup, b_lst, c_eq, c_ne, c_in, c_ni, c_lt, c_gt, c_le, c_is, c_isn, c_isN, c_isnN, c_isI, c_isL, c_isR, o_add, o_sub, q_bl, q_int, q_str, q_NN, a_int]
  have done : ∀ {es : EL} {S : Sl} {a b l d : D} {hh h2 : Hh} {g : Hh} {r : SL} {Sx : Sl}, evA glob (C (k + 6)) es S hh = some (.ok [a, b, l, d], h2) → h2 = h.set c (cu w j) ++ g → (∀ xs, a ≠ .lst xs) → (∀ xs, b ≠ .lst xs) → (∀ xs, l ≠ .lst xs) → (∀ xs, d ≠ .lst xs) →
      ∃ n g, retOf (evB glob (C (k + 6)) (.cons (.ret (mkE es)) .nil) S hh) = some (.ok (.ref n), h.set c (cu w j) ++ g) ∧ h.length ≤ n ∧ (h.set c (cu w j) ++ g)[n]? = some (cl a b l d) := fun {es S a b l d hh h2 g r Sx} e e2 n1 n2 n3 n4 => by
    have m : (ev glob (C (k + 6)) (mkE es)).v S hh = _ := ev_cl (k := k + 5) (S := S) e n1 n2 n3 n4
    subst e2
    refine ⟨(h.set c (cu w j) ++ g).length, g ++ [cl a b l d], ?_, by simp, ?_⟩
    · rw [ret_v m, re_rt, List.append_assoc]
    · rw [← List.append_assoc]
      exact end_get
  have bqr : ∀ {es : EL} {S : Sl} {hh : Hh} {q : Sl → Hh → BM} {n : Nat} {h9 : Hh}, retOf (evB glob (C (k + 6)) (.cons (.ret (mkE es)) .nil) S hh) = some (.ok (.ref n), h9) → retOf (bq (evB glob (C (k + 6)) (.cons (.ret (mkE es)) .nil) S hh) q) = some (.ok (.ref n), h9) := fun {es S hh q n h9} e => by
    simp only [evB, evS.eq_5] at e ⊢
    revert e
    generalize evE glob (C (k + 6)) (mkE es) S hh = r
    intro e
    match r, e with
    | some (.ok d, h5), e => exact e
    | some (.ex C fs, h5), e => exact e
    | none, e => exact e
  cases z with
  | lone m =>
    have q1 : pk ws i ∉ lDir := (by decide +kernel : ∀ x ∈ lLon, x ∉ lDir) _ m
    have q2 : pk ws i ≠ "go" := (by decide +kernel : ∀ x ∈ lLon, x ≠ ("go" : Str)) _ m
    rw [if_n ((T1 ..).trans (by rw [decide_eq_false q1])), if_n ((T2 ..).trans (by rw [decide_eq_false q2])), if_y ((T3 ..).trans (by rw [decide_eq_true m]))]
    obtain ⟨n, g, r1, r2⟩ := done (es := l3E) (S := [some (.ref c), some (.str (pk ws i)), none, none]) (hh := h1) (h2 := h1) (g := []) (r := .nil) (Sx := []) (a := .str (pk ws i)) (b := .str "") (l := .str "") (d := .non) (by simp [l3E, evB, evS.eq_1, evS.eq_2, evS.eq_3, evS.eq_4, evS.eq_5, evS.eq_6, evS.eq_7, evS.eq_10, evS.eq_11, evS.eq_12, evS.eq_14, evS.eq_15, evS.eq_17, ev.eq_1, ev.eq_2, ev.eq_3, ev.eq_4, ev.eq_5, ev.eq_6, ev.eq_7, ev.eq_8, ev.eq_9, ev.eq_10, ev.eq_11, ev.eq_12, ev.eq_13, ev.eq_14, ev.eq_15, ev.eq_16, ev.eq_17, ev.eq_18, ev.eq_19, ev.eq_20, ev.eq_21, ev.eq_22, ev.eq_23, ev.eq_24, ev.eq_25, ev.eq_26, ev.eq_27, ev.eq_28, ev.eq_29, ev.eq_31, ev.eq_32, ev.eq_34, ev.eq_35, ev.eq_36, ev.eq_37, ev.eq_38, ev.eq_39, ev.eq_40, ev.eq_41, evA, evO, evC, evI, vt, tv, bd_ok, bs_ok, bq_nx, bq_rt, pu_ok, re_nx, re_rt, ma_bl, ma_int, ma_str, ma_non, ma_ty, ma_ref, ma_tup, ma_frl, ma_lst, fix_same, getS, Z.evE, Z.evT, Z.vv, tr_bl, b_len, b_isi, b_all, b_any, b_sum, b_str, b_intI, b_intB, b_tup, b_lst, c_eq, c_ne, c_in, c_ni, c_lt, c_gt, c_le, c_is, c_isn, c_isN, c_isnN, c_isI, c_isL, c_isR, o_add, o_sub, q_bl, q_int, q_str, q_NN, a_int]) (by rw [List.append_nil, eh]) nls nls nls nln
    exact ⟨n, g, bqr r1, r2⟩
  | dir m =>
    rw [if_y ((T1 ..).trans (by rw [decide_eq_true m]))]
    obtain ⟨n, g, r1, r2⟩ := done (es := l1E) (S := [some (.ref c), some (.str (pk ws i)), none, none]) (hh := h1) (h2 := h1) (g := []) (r := .nil) (Sx := []) (a := .str "go") (b := .str (pk ws i)) (l := .str "") (d := .non) (by simp [l1E, evB, evS.eq_1, evS.eq_2, evS.eq_3, evS.eq_4, evS.eq_5, evS.eq_6, evS.eq_7, evS.eq_10, evS.eq_11, evS.eq_12, evS.eq_14, evS.eq_15, evS.eq_17, ev.eq_1, ev.eq_2, ev.eq_3, ev.eq_4, ev.eq_5, ev.eq_6, ev.eq_7, ev.eq_8, ev.eq_9, ev.eq_10, ev.eq_11, ev.eq_12, ev.eq_13, ev.eq_14, ev.eq_15, ev.eq_16, ev.eq_17, ev.eq_18, ev.eq_19, ev.eq_20, ev.eq_21, ev.eq_22, ev.eq_23, ev.eq_24, ev.eq_25, ev.eq_26, ev.eq_27, ev.eq_28, ev.eq_29, ev.eq_31, ev.eq_32, ev.eq_34, ev.eq_35, ev.eq_36, ev.eq_37, ev.eq_38, ev.eq_39, ev.eq_40, ev.eq_41, evA, evO, evC, evI, vt, tv, bd_ok, bs_ok, bq_nx, bq_rt, pu_ok, re_nx, re_rt, ma_bl, ma_int, ma_str, ma_non, ma_ty, ma_ref, ma_tup, ma_frl, ma_lst, fix_same, getS, Z.evE, Z.evT, Z.vv, tr_bl, b_len, b_isi, b_all, b_any, b_sum, b_str, b_intI, b_intB, b_tup, b_lst, c_eq, c_ne, c_in, c_ni, c_lt, c_gt, c_le, c_is, c_isn, c_isN, c_isnN, c_isI, c_isL, c_isR, o_add, o_sub, q_bl, q_int, q_str, q_NN, a_int]) (by rw [List.append_nil, eh]) nls nls nls nln
    exact ⟨n, g, bqr r1, r2⟩
  | go e m =>
    have q1 : pk ws i ∉ lDir := by rw [e]; decide +kernel
    rw [if_n ((T1 ..).trans (by rw [decide_eq_false q1])), if_y ((T2 ..).trans (by rw [decide_eq_true e]))]
    have e1 : h1[c]? = some (.ins "Cursor" (cf w (i + 1))) := u1.oc
    have e2 := one_of (k := k + 3) u1 m
    have e4 : fix h1 (.str (pk ws (i + 1))) (h1.set c (cu w (i + 1 + 1))) = some (.ok (.str (pk ws (i + 1))), h1.set c (cu w (i + 1 + 1))) := fix_set
    obtain ⟨n, g, r1, r2⟩ := done (es := l2E) (S := [some (.ref c), some (.str (pk ws i)), none, none]) (hh := h1) (h2 := h1.set c (cu w (i + 2))) (g := []) (r := .nil) (Sx := []) (a := .str (pk ws i)) (b := .str (pk ws (i + 1))) (l := .str "") (d := .non) (by
      simp [l2E, evB, evS.eq_1, evS.eq_2, evS.eq_3, evS.eq_4, evS.eq_5, evS.eq_6, evS.eq_7, evS.eq_10, evS.eq_11, evS.eq_12, evS.eq_14, evS.eq_15, evS.eq_17, ev.eq_1, ev.eq_2, ev.eq_3, ev.eq_4, ev.eq_5, ev.eq_6, ev.eq_7, ev.eq_8, ev.eq_9, ev.eq_10, ev.eq_11, ev.eq_12, ev.eq_13, ev.eq_14, ev.eq_15, ev.eq_16, ev.eq_17, ev.eq_18, ev.eq_19, ev.eq_20, ev.eq_21, ev.eq_22, ev.eq_23, ev.eq_24, ev.eq_25, ev.eq_26, ev.eq_27, ev.eq_28, ev.eq_29, ev.eq_31, ev.eq_32, ev.eq_34, ev.eq_35, ev.eq_36, ev.eq_37, ev.eq_38, ev.eq_39, ev.eq_40, ev.eq_41, evA, evO, evC, evI, vt, tv, bd_ok, bs_ok, bq_nx, bq_rt, pu_ok, re_nx, re_rt, ma_bl, ma_int, ma_str, ma_non, ma_ty, ma_ref, ma_tup, ma_frl, ma_lst, fix_same, getS, Z.evE, Z.evT, Z.vv, tr_bl, b_len, b_isi, b_all, b_any, b_sum, b_str, b_intI, b_intB, b_tup, b_lst, c_eq, c_ne, c_in, c_ni, c_lt, c_gt, c_le, c_is, c_isn, c_isN, c_isnN, c_isI, c_isL, c_isR, o_add, o_sub, q_bl, q_int, q_str, q_NN, a_int, g_dir, e1, e2, e4, n_one]) (by rw [List.append_nil, ← eh, List.set_set]) nls nls nls nln
    rw [e] at r2
    exact ⟨n, g, bqr r1, r2⟩
  | verb m a =>
    have q1 : pk ws i ∉ lDir := (by decide +kernel : ∀ x ∈ (["take", "drop", "open", "shut", "wear", "doff"] : List Str), x ∉ lDir) _ m
    have q2 : pk ws i ≠ "go" := (by decide +kernel : ∀ x ∈ (["take", "drop", "open", "shut", "wear", "doff"] : List Str), x ≠ ("go" : Str)) _ m
    have q3 : pk ws i ∉ lLon := (by decide +kernel : ∀ x ∈ (["take", "drop", "open", "shut", "wear", "doff"] : List Str), x ∉ lLon) _ m
    have q4 : pk ws i ≠ "put" := (by decide +kernel : ∀ x ∈ (["take", "drop", "open", "shut", "wear", "doff"] : List Str), x ≠ ("put" : Str)) _ m
    obtain ⟨ys, rfl⟩ := a.tup
    obtain ⟨g0, e5⟩ := phrase (k := k) u1 a
    obtain ⟨g1, e6⟩ := ev_ec (S := [some (.ref c), some (.str (pk ws i)), none, none]) rfl e5 (fun _ z => by cases z)
    rw [if_n ((T1 ..).trans (by rw [decide_eq_false q1])), if_n ((T2 ..).trans (by rw [decide_eq_false q2])), if_n ((T3 ..).trans (by rw [decide_eq_false q3])), set_v e6 nlt]
    simp only [List.set]
    rw [rst4, if_y ((T4 ..).trans (by rw [decide_eq_false q4]; rfl))]
    obtain ⟨n, g, r1, r2⟩ := done (es := l4E) (S := [some (.ref c), some (.str (pk ws i)), some (.tup ys), none]) (hh := h1.set c (cu w j) ++ g1) (h2 := h1.set c (cu w j) ++ g1) (g := g1) (r := .nil) (Sx := []) (a := .str (pk ws i)) (b := .tup ys) (l := .str "") (d := .non) (by simp [l4E, evB, evS.eq_1, evS.eq_2, evS.eq_3, evS.eq_4, evS.eq_5, evS.eq_6, evS.eq_7, evS.eq_10, evS.eq_11, evS.eq_12, evS.eq_14, evS.eq_15, evS.eq_17, ev.eq_1, ev.eq_2, ev.eq_3, ev.eq_4, ev.eq_5, ev.eq_6, ev.eq_7, ev.eq_8, ev.eq_9, ev.eq_10, ev.eq_11, ev.eq_12, ev.eq_13, ev.eq_14, ev.eq_15, ev.eq_16, ev.eq_17, ev.eq_18, ev.eq_19, ev.eq_20, ev.eq_21, ev.eq_22, ev.eq_23, ev.eq_24, ev.eq_25, ev.eq_26, ev.eq_27, ev.eq_28, ev.eq_29, ev.eq_31, ev.eq_32, ev.eq_34, ev.eq_35, ev.eq_36, ev.eq_37, ev.eq_38, ev.eq_39, ev.eq_40, ev.eq_41, evA, evO, evC, evI, vt, tv, bd_ok, bs_ok, bq_nx, bq_rt, pu_ok, re_nx, re_rt, ma_bl, ma_int, ma_str, ma_non, ma_ty, ma_ref, ma_tup, ma_frl, ma_lst, fix_same, getS, Z.evE, Z.evT, Z.vv, tr_bl, b_len, b_isi, b_all, b_any, b_sum, b_str, b_intI, b_intB, b_tup, b_lst, c_eq, c_ne, c_in, c_ni, c_lt, c_gt, c_le, c_is, c_isn, c_isN, c_isnN, c_isI, c_isL, c_isR, o_add, o_sub, q_bl, q_int, q_str, q_NN, a_int]) (by rw [← eh, List.set_set]) nls nlt nls nln
    exact ⟨n, g, bqr r1, r2⟩
  | put e a n b =>
    rename_i m
    have q1 : pk ws i ∉ lDir := by rw [e]; decide +kernel
    have q2 : pk ws i ≠ "go" := by rw [e]; decide +kernel
    have q3 : pk ws i ∉ lLon := by rw [e]; decide +kernel
    obtain ⟨ys, rfl⟩ := a.tup
    obtain ⟨zs, rfl⟩ := b.tup
    obtain ⟨g0, e5⟩ := phrase (k := k) u1 a
    obtain ⟨g1, e6⟩ := ev_ec (S := [some (.ref c), some (.str (pk ws i)), none, none]) rfl e5 (fun _ z => by cases z)
    rw [if_n ((T1 ..).trans (by rw [decide_eq_false q1])), if_n ((T2 ..).trans (by rw [decide_eq_false q2])), if_n ((T3 ..).trans (by rw [decide_eq_false q3])), set_v e6 nlt]
    simp only [List.set]
    have u2 := u1.up m g1
    have m2 : pk ws m ∈ (["in", "on"] : List Str) := by simpa using n
    have e7 : (h1.set c (cu w m) ++ g1)[c]? = some (.ins "Cursor" (cf w m)) := u2.oc
    have e8 := one_of (k := k + 3) u2 m2
    have e9 : fix (h1.set c (cu w m) ++ g1) (.str (pk ws m)) ((h1.set c (cu w m) ++ g1).set c (cu w (m + 1))) = some (.ok (.str (pk ws m)), (h1.set c (cu w m) ++ g1).set c (cu w (m + 1))) := fix_set
    have f3 : (ev glob (C (k + 6)) o3E).v [some (.ref c), some (.str (pk ws i)), some (.tup ys), none] (h1.set c (cu w m) ++ g1) = some (.ok (.str (pk ws m)), (h1.set c (cu w m) ++ g1).set c (cu w (m + 1))) := by
      simp [o3E, evB, evS.eq_1, evS.eq_2, evS.eq_3, evS.eq_4, evS.eq_5, evS.eq_6, evS.eq_7, evS.eq_10, evS.eq_11, evS.eq_12, evS.eq_14, evS.eq_15, evS.eq_17, ev.eq_1, ev.eq_2, ev.eq_3, ev.eq_4, ev.eq_5, ev.eq_6, ev.eq_7, ev.eq_8, ev.eq_9, ev.eq_10, ev.eq_11, ev.eq_12, ev.eq_13, ev.eq_14, ev.eq_15, ev.eq_16, ev.eq_17, ev.eq_18, ev.eq_19, ev.eq_20, ev.eq_21, ev.eq_22, ev.eq_23, ev.eq_24, ev.eq_25, ev.eq_26, ev.eq_27, ev.eq_28, ev.eq_29, ev.eq_31, ev.eq_32, ev.eq_34, ev.eq_35, ev.eq_36, ev.eq_37, ev.eq_38, ev.eq_39, ev.eq_40, ev.eq_41, evA, evO, evC, evI, vt, tv, bd_ok, bs_ok, bq_nx, bq_rt, pu_ok, re_nx, re_rt, ma_bl, ma_int, ma_str, ma_non, ma_ty, ma_ref, ma_tup, ma_frl, ma_lst, fix_same, getS, Z.evE, Z.evT, Z.vv, tr_bl, b_len, b_isi, b_all, b_any, b_sum, b_str, b_intI, b_intB, b_tup, b_lst, c_eq, c_ne, c_in, c_ni, c_lt, c_gt, c_le, c_is, c_isn, c_isN, c_isnN, c_isI, c_isL, c_isR, o_add, o_sub, q_bl, q_int, q_str, q_NN, a_int, e7, e9, n_one, s2]
      simp at e8
      simp [e8, e9]
    rw [rst4, if_n ((T4 ..).trans (by rw [decide_eq_true e]; rfl)), set_v f3 nls]
    simp only [List.set]
    have u3 := u2.set (m + 1)
    obtain ⟨g2, f4⟩ := holder (k := k + 1) u3 b
    obtain ⟨g3, f5⟩ := ev_ec (S := [some (.ref c), some (.str (pk ws i)), some (.tup ys), some (.str (pk ws m))]) rfl f4 (fun _ z => by cases z)
    obtain ⟨n, g, r1, r2⟩ := done (es := l5E) (S := [some (.ref c), some (.str (pk ws i)), some (.tup ys), some (.str (pk ws m))]) (hh := (h1.set c (cu w m) ++ g1).set c (cu w (m + 1))) (h2 := ((h1.set c (cu w m) ++ g1).set c (cu w (m + 1))).set c (cu w j) ++ g3) (g := g1 ++ g3) (r := .nil) (Sx := []) (a := .str (pk ws i)) (b := .tup ys) (l := .str (pk ws m)) (d := .tup zs) (by
      have f6 : (ev glob (C (k + 6)) (.call "read_holder" (.cons false (.var 0) .nil))).v [some (.ref c), some (.str (pk ws i)), some (.tup ys), some (.str (pk ws m))] ((h1.set c (cu w m) ++ g1).set c (cu w (m + 1))) = _ := f5
      simp only [l5E, evA, Z.vv, ev.eq_1, vt, getS, List.getElem?_cons_zero, List.getElem?_cons_succ, Option.bind_some, id, pu_ok, bd_ok, ma_str, ma_tup, f6]) (by
      rw [List.set_set, set_lt (by rw [lh]; exact u.lt), List.append_assoc, ← eh, List.set_set]) nls nlt nls nlt
    rw [e] at r2
    exact ⟨n, g, r1, r2⟩
end
end K3

namespace K3
open PySem L2 Z
structure Q4 where
  a : D
  b : D
  l : D
  d : D
def Q4.o (q : Q4) : O := cl q.a q.b q.l q.d
def Q4.t (q : Q4) : D := .tup [q.a, q.b, q.l, q.d]
def CAt (ws : List Str) (i : Nat) (q : Q4) (j : Nat) : Prop := ClauseAt ws i q.a q.b q.l q.d j
def Obs (hh : Hh) (lo : Nat) : List D → List Q4 → Prop
  | [], [] => True
  | .ref n :: xs, q :: qs => lo ≤ n ∧ hh[n]? = some q.o ∧ Obs hh lo xs qs
  | _, _ => False
theorem Obs.mono {hh h' : Hh} {lo : Nat} : ∀ {xs : List D} {qs : List Q4}, Obs hh lo xs qs → (∀ n q, lo ≤ n → hh[n]? = some (Q4.o q) → h'[n]? = some (Q4.o q)) → Obs h' lo xs qs
  | [], [], _, _ => trivial
  | .ref n :: xs, q :: qs, ⟨a, b, r⟩, k => ⟨a, k n q a b, r.mono k⟩
theorem Obs.snoc {hh : Hh} {lo n : Nat} {q : Q4} (l : lo ≤ n) (e : hh[n]? = some q.o) : ∀ {xs : List D} {qs : List Q4}, Obs hh lo xs qs → Obs hh lo (xs ++ [.ref n]) (qs ++ [q])
  | [], [], _ => ⟨l, e, trivial⟩
  | .ref m :: xs, p :: qs, ⟨a, b, r⟩ => ⟨a, b, r.snoc l e⟩
theorem Obs.len {hh : Hh} {lo : Nat} : ∀ {xs : List D} {qs : List Q4}, Obs hh lo xs qs → xs.length = qs.length
  | [], [], _ => rfl
  | .ref n :: xs, q :: qs, ⟨_, _, r⟩ => by rw [List.length_cons, List.length_cons, r.len]
theorem Obs.lo {hh : Hh} {lo l2 : Nat} (z : l2 ≤ lo) : ∀ {xs : List D} {qs : List Q4}, Obs hh lo xs qs → Obs hh l2 xs qs
  | [], [], _ => trivial
  | .ref n :: xs, q :: qs, ⟨a, b, r⟩ => ⟨Nat.le_trans z a, b, r.lo z⟩
def RestC (ws : List Str) : Nat → Nat → List Q4 → Nat → Prop
  | p, n, [], j => p = j ∧ (n = 0 ∨ pk ws p ≠ "then")
  | p, n, q :: r, j => ∃ n' m, n = n' + 1 ∧ pk ws p = "then" ∧ CAt ws (p + 1) q m ∧ RestC ws m n' r j
def ClausesAt (ws : List Str) (i : Nat) (qs : List Q4) (j : Nat) : Prop := ∃ q r m, qs = q :: r ∧ CAt ws i q m ∧ RestC ws m 7 r j
def tst19 : E := (.and (.cmp .Lt (.bl1 .len (.var 1)) (.glob "MOST_CLAUSES")) (.omth (.var 0) "Cursor" "skip" "Cursor.skip" (.cons false (.str "then") .nil)))
def bod19 : SL := (.cons (.ex (.meth (.var 1) .append (.cons false (ec "read_clause") .nil)))
    .nil)
section
variable {k : Nat} {h hh : Hh} {c w i p q f : Nat} {ws : List Str} {xs ys : List D}
theorem fix_ins {n : Nat} {h2 : Hh} {B : Str} {fs : List (Str × D)} (l : h.length ≤ n) (e : h2[n]? = some (.ins B fs)) : fix h (.ref n) h2 = some (.ok (.ref n), h2) := by
  unfold fix
  simp only
  rw [if_neg (by omega), e]
theorem fix_refs {n : Nat} {h2 : Hh} {m : Nat} {xs : List D} (l : h.length ≤ n) (e : h2[n]? = some (.lst (.ref m :: xs))) (lm : h.length ≤ m) : fix h (.ref n) h2 = some (.ok (.ref n), h2) := by
  unfold fix
  simp only
  rw [if_neg (by omega), e]
  dsimp only
  rw [if_neg]
  rintro ⟨_, z⟩
  simp only [clL, clD, Bool.and_eq_true, decide_eq_true_eq] at z
  omega
theorem t19n (u : Cur hh c w ws p) (e : hh[f]? = some (.lst xs)) (l : ¬ xs.length < 8) : (ev glob (C (k + 2)) tst19).t [some (.ref c), some (.ref f)] hh = some (.ok false, hh) := by
  have l' : ¬ (xs.length : Int) < 8 := by omega
  simp [tst19, evB, evS.eq_1, evS.eq_2, evS.eq_3, evS.eq_4, evS.eq_5, evS.eq_6, evS.eq_7, evS.eq_10, evS.eq_11, evS.eq_12, evS.eq_14, evS.eq_15, evS.eq_17, ev.eq_1, ev.eq_2, ev.eq_3, ev.eq_4, ev.eq_5, ev.eq_6, ev.eq_7, ev.eq_8, ev.eq_9, ev.eq_10, ev.eq_11, ev.eq_12, ev.eq_13, ev.eq_14, ev.eq_15, ev.eq_16, ev.eq_17, ev.eq_18, ev.eq_19, ev.eq_20, ev.eq_21, ev.eq_22, ev.eq_23, ev.eq_24, ev.eq_25, ev.eq_26, ev.eq_27, ev.eq_28, ev.eq_29, ev.eq_31, ev.eq_32, ev.eq_34, ev.eq_35, ev.eq_36, ev.eq_37, ev.eq_38, ev.eq_39, ev.eq_40, ev.eq_41, evA, evO, evC, evI, vt, tv, bd_ok, bs_ok, bq_nx, bq_rt, pu_ok, re_nx, re_rt, ma_bl, ma_int, ma_str, ma_non, ma_ty, ma_ref, ma_tup, ma_frl, ma_lst, fix_same, getS, Z.evE, Z.evT, Z.vv, tr_bl, b_len, b_isi, b_all, b_any, b_sum, b_str, b_intI, b_intB, b_tup, b_lst, c_eq, c_ne, c_in, c_ni, c_lt, c_gt, c_le, c_is, c_isn, c_isN, c_isnN, c_isI, c_isL, c_isR, o_add, o_sub, q_bl, q_int, q_str, q_NN, a_int, lenD_ref e, g_clauses, l']
theorem t19y (u : Cur hh c w ws p) (e : hh[f]? = some (.lst xs)) (l : xs.length < 8) : (ev glob (C (k + 2)) tst19).t [some (.ref c), some (.ref f)] hh = some (.ok (decide (pk ws p = "then")), if pk ws p = "then" then hh.set c (cu w (p + 1)) else hh) := by
  have l' : (xs.length : Int) < 8 := by omega
  have e1 : hh[c]? = some (.ins "Cursor" (cf w p)) := u.oc
  have e2 := skip (k := k) u "then"
  by_cases q : pk ws p = "then"
  · rw [if_pos q, decide_eq_true q] at e2 ⊢
    simp [tst19, evB, evS.eq_1, evS.eq_2, evS.eq_3, evS.eq_4, evS.eq_5, evS.eq_6, evS.eq_7, evS.eq_10, evS.eq_11, evS.eq_12, evS.eq_14, evS.eq_15, evS.eq_17, ev.eq_1, ev.eq_2, ev.eq_3, ev.eq_4, ev.eq_5, ev.eq_6, ev.eq_7, ev.eq_8, ev.eq_9, ev.eq_10, ev.eq_11, ev.eq_12, ev.eq_13, ev.eq_14, ev.eq_15, ev.eq_16, ev.eq_17, ev.eq_18, ev.eq_19, ev.eq_20, ev.eq_21, ev.eq_22, ev.eq_23, ev.eq_24, ev.eq_25, ev.eq_26, ev.eq_27, ev.eq_28, ev.eq_29, ev.eq_31, ev.eq_32, ev.eq_34, ev.eq_35, ev.eq_36, ev.eq_37, ev.eq_38, ev.eq_39, ev.eq_40, ev.eq_41, evA, evO, evC, evI, vt, tv, bd_ok, bs_ok, bq_nx, bq_rt, pu_ok, re_nx, re_rt, ma_bl, ma_int, ma_str, ma_non, ma_ty, ma_ref, ma_tup, ma_frl, ma_lst, fix_same, getS, Z.evE, Z.evT, Z.vv, tr_bl, b_len, b_isi, b_all, b_any, b_sum, b_str, b_intI, b_intB, b_tup, b_lst, c_eq, c_ne, c_in, c_ni, c_lt, c_gt, c_le, c_is, c_isn, c_isN, c_isnN, c_isI, c_isL, c_isR, o_add, o_sub, q_bl, q_int, q_str, q_NN, a_int, lenD_ref e, g_clauses, l', e1, e2, n_skip, fix_set]
  · rw [if_neg q, decide_eq_false q] at e2 ⊢
    simp [tst19, evB, evS.eq_1, evS.eq_2, evS.eq_3, evS.eq_4, evS.eq_5, evS.eq_6, evS.eq_7, evS.eq_10, evS.eq_11, evS.eq_12, evS.eq_14, evS.eq_15, evS.eq_17, ev.eq_1, ev.eq_2, ev.eq_3, ev.eq_4, ev.eq_5, ev.eq_6, ev.eq_7, ev.eq_8, ev.eq_9, ev.eq_10, ev.eq_11, ev.eq_12, ev.eq_13, ev.eq_14, ev.eq_15, ev.eq_16, ev.eq_17, ev.eq_18, ev.eq_19, ev.eq_20, ev.eq_21, ev.eq_22, ev.eq_23, ev.eq_24, ev.eq_25, ev.eq_26, ev.eq_27, ev.eq_28, ev.eq_29, ev.eq_31, ev.eq_32, ev.eq_34, ev.eq_35, ev.eq_36, ev.eq_37, ev.eq_38, ev.eq_39, ev.eq_40, ev.eq_41, evA, evO, evC, evI, vt, tv, bd_ok, bs_ok, bq_nx, bq_rt, pu_ok, re_nx, re_rt, ma_bl, ma_int, ma_str, ma_non, ma_ty, ma_ref, ma_tup, ma_frl, ma_lst, fix_same, getS, Z.evE, Z.evT, Z.vv, tr_bl, b_len, b_isi, b_all, b_any, b_sum, b_str, b_intI, b_intB, b_tup, b_lst, c_eq, c_ne, c_in, c_ni, c_lt, c_gt, c_le, c_is, c_isn, c_isN, c_isnN, c_isI, c_isL, c_isR, o_add, o_sub, q_bl, q_int, q_str, q_NN, a_int, lenD_ref e, g_clauses, l', e1, e2, n_skip]
/-- read_clause(cursor) -/
theorem ev_rc {S : Sl} {q : Q4} {j : Nat} (s : getS S 0 = some (.ref c)) (u : Cur h c w ws i) (a : CAt ws i q j) : ∃ n g, (ev glob (C (k + 7)) (ec "read_clause")).v S h = some (.ok (.ref n), h.set c (cu w j) ++ g) ∧ h.length ≤ n ∧ (h.set c (cu w j) ++ g)[n]? = some q.o := by
  obtain ⟨n, g, e1, e2, e3⟩ := clause (k := k) u a
  refine ⟨n, g, ?_, e2, e3⟩
  have e4 : fix h (.ref n) (h.set c (cu w j) ++ g) = _ := fix_ins e2 e3
  have s' : S[0]?.bind id = some (.ref c) := s
  simp [evB, evS.eq_1, evS.eq_2, evS.eq_3, evS.eq_4, evS.eq_5, evS.eq_6, evS.eq_7, evS.eq_10, evS.eq_11, evS.eq_12, evS.eq_14, evS.eq_15, evS.eq_17, ev.eq_1, ev.eq_2, ev.eq_3, ev.eq_4, ev.eq_5, ev.eq_6, ev.eq_7, ev.eq_8, ev.eq_9, ev.eq_10, ev.eq_11, ev.eq_12, ev.eq_13, ev.eq_14, ev.eq_15, ev.eq_16, ev.eq_17, ev.eq_18, ev.eq_19, ev.eq_20, ev.eq_21, ev.eq_22, ev.eq_23, ev.eq_24, ev.eq_25, ev.eq_26, ev.eq_27, ev.eq_28, ev.eq_29, ev.eq_31, ev.eq_32, ev.eq_34, ev.eq_35, ev.eq_36, ev.eq_37, ev.eq_38, ev.eq_39, ev.eq_40, ev.eq_41, evA, evO, evC, evI, vt, tv, bd_ok, bs_ok, bq_nx, bq_rt, pu_ok, re_nx, re_rt, ma_bl, ma_int, ma_str, ma_non, ma_ty, ma_ref, ma_tup, ma_frl, ma_lst, fix_same, getS, Z.evE, Z.evT, Z.vv, tr_bl, b_len, b_isi, b_all, b_any, b_sum, b_str, b_intI, b_intB, b_tup, b_lst, c_eq, c_ne, c_in, c_ni, c_lt, c_gt, c_le, c_is, c_isn, c_isN, c_isnN, c_isI, c_isL, c_isR, o_add, o_sub, q_bl, q_int, q_str, q_NN, a_int, s', e1, e4]
theorem b19v {qx : Q4} {j : Nat} (u : Cur hh c w ws p) (ne : c ≠ f) (e : hh[f]? = some (.lst xs)) (l : xs.length ≤ 1000) (a : CAt ws p qx j) : ∃ n g, evB glob (C (k + 7)) bod19 [some (.ref c), some (.ref f)] hh =
    some (.nx [some (.ref c), some (.ref f)], (hh.set c (cu w j) ++ g).set f (.lst (xs ++ [.ref n]))) ∧ hh.length ≤ n ∧ (hh.set c (cu w j) ++ g)[n]? = some qx.o := by
  obtain ⟨n, g, e1, e8, e9⟩ := ev_rc (k := k) (S := [some (.ref c), some (.ref f)]) rfl u a
  have lt : f < hh.length := (List.getElem?_eq_some_iff.mp e).1
  have e2 : (hh.set c (cu w j) ++ g)[f]? = some (.lst xs) := by
    rw [List.getElem?_append_left (by rw [List.length_set]; exact lt), List.getElem?_set_ne ne]
    exact e
  have e3 := apd (d := .ref n) e2 l
  refine ⟨n, g, ?_, e8, e9⟩
  generalize hh.set c (cu w j) ++ g = h2 at *
  have e4 : evE glob (C (k + 7)) (.meth (.var 1) .append (.cons false (ec "read_clause") .nil)) [some (.ref c), some (.ref f)] hh = some (.ok .non, h2.set f (.lst (xs ++ [.ref n]))) := by
    have e5 : evA glob (C (k + 7)) (.cons false (ec "read_clause") .nil) [some (.ref c), some (.ref f)] hh = some (.ok [.ref n], h2) := evA1 e1 (fun _ z => by cases z)
    simp [evE, ev.eq_26, vt, Z.vv, ev.eq_1, getS, pu_ok, bd_ok, ma_ref, e, e5, e3]
  unfold bod19
  simp only [evB, evS.eq_1, e4, bs_ok, bq_nx]
theorem loop19 (u : Cur h c w ws i) : ∀ (r : List Q4) (p n j N : Nat) (hh : Hh) (xs : List D) (qs : List Q4), RestC ws p n r j → Up h c w p hh f xs → Obs hh h.length xs qs → qs.length + n = 8 → r.length + 1 ≤ N → ∃ h' ys, whGo (ev glob (C (k + 7)) tst19).t (evB glob (C (k + 7)) bod19) N [some (.ref c), some (.ref f)] hh =
    some (.nx [some (.ref c), some (.ref f)], h') ∧ Up h c w j h' f ys ∧ Obs h' h.length ys (qs ++ r)
  | [], p, n, j, N, hh, xs, qs, a, up, ob, l, hN => by
    obtain ⟨rfl, st⟩ := a
    obtain ⟨N, rfl⟩ : ∃ M, N = M + 1 := ⟨N - 1, by omega⟩
    refine ⟨hh, xs, ?_, up, by rw [List.append_nil]; exact ob⟩
    have ol := ob.len
    by_cases c3 : qs.length < 8
    · have na : pk ws p ≠ "then" := st.resolve_left (by omega)
      have := t19y (k := k + 5) (up.cur u) up.at (by omega)
      rw [if_neg na, decide_eq_false na] at this
      exact wh_no this
    · exact wh_no (t19n (k := k + 5) (up.cur u) up.at (by omega))
  | q :: r, p, n, j, N, hh, xs, qs, a, up, ob, l, hN => by
    obtain ⟨n', m, rfl, an, nt, rest⟩ := a
    simp only [List.length_cons] at hN
    obtain ⟨N, rfl⟩ : ∃ M, N = M + 1 := ⟨N - 1, by omega⟩
    have ol := ob.len
    have e1 := t19y (k := k + 5) (up.cur u) up.at (by omega)
    rw [if_pos an, decide_eq_true an] at e1
    have up1 := up.move u.lt (p + 1)
    have lf : h.length ≤ f := by obtain ⟨_, _, z, _⟩ := up; exact z
    have lh : h.length ≤ hh.length := by obtain ⟨g, rfl, _, _⟩ := up; simp
    have ne : c ≠ f := by have := u.lt; omega
    obtain ⟨x, g, e2, e8, e9⟩ := b19v (k := k) (up1.cur u) ne up1.at (by omega) nt
    have up2 := ((up1.move u.lt m).grow g)
    have up3 := up2.push (xs ++ [.ref x])
    have xf : x ≠ f := fun z => by rw [z, up2.at] at e9; cases e9
    rw [List.length_set] at e8
    have ob2 : Obs (((hh.set c (cu w (p + 1))).set c (cu w m) ++ g).set f (.lst (xs ++ [.ref x]))) h.length xs qs := ob.mono fun n q' ln en => by
      have nf : n ≠ f := fun z => by rw [z, up.at] at en; cases en
      have nl : n < hh.length := (List.getElem?_eq_some_iff.mp en).1
      rw [List.getElem?_set_ne (Ne.symm nf), List.getElem?_append_left (by simp; exact nl), List.getElem?_set_ne (by have := u.lt; omega), List.getElem?_set_ne (by have := u.lt; omega)]
      exact en
    have ob3 := ob2.snoc (q := q) (show h.length ≤ x by omega) (by rw [List.getElem?_set_ne (Ne.symm xf)]; exact e9)
    obtain ⟨h', ys, e3, up4, ob4⟩ := loop19 u r m n' j N _ _ (qs ++ [q]) rest up3 ob3 (by rw [List.length_append]; simp; omega) (by omega)
    refine ⟨h', ys, ?_, up4, by rw [List.append_assoc] at ob4; exact ob4⟩
    rw [wh_go e1 e2]
    exact e3
theorem clauses {qs : List Q4} {j : Nat} (u : Cur h c w ws i) (a : ClausesAt ws i qs j) (lj : ws.length ≤ j) : ∃ n g xs, C (k + 8) "read_clauses" [.ref c] h = some (.ok (.ref n), h.set c (cu w j) ++ g) ∧ h.length ≤ n ∧ (h.set c (cu w j) ++ g)[n]? = some (.lst xs) ∧ Obs (h.set c (cu w j) ++ g) h.length xs qs := by
  obtain ⟨q, r, m, rfl, an, rest⟩ := a
  obtain ⟨x, g, e1, e8, e9⟩ := ev_rc (k := k) (S := [some (.ref c), none]) rfl u an
  have up := Up.new (h := h) (c := c) (w := w) (p := m) g [.ref x]
  have ob : Obs (h.set c (cu w m) ++ g ++ [.lst [.ref x]]) h.length [.ref x] [q] := ⟨e8, by rw [List.getElem?_append_left (List.getElem?_eq_some_iff.mp e9).1]; exact e9, trivial⟩
  have rl : ∀ (r : List Q4) (p n j : Nat), RestC ws p n r j → r.length ≤ n := fun r => by
    induction r with
    | nil => exact fun _ _ _ _ => Nat.zero_le _
    | cons L r ih => rintro p n j ⟨n', m, rfl, _, _, z⟩; have := ih _ _ _ z; rw [List.length_cons]; omega
  have := rl _ _ _ _ rest
  obtain ⟨h', ys, e2, up2, ob2⟩ := loop19 (k := k) u r m 7 j 1000000 _ _ [q] rest up ob rfl (by omega)
  obtain ⟨g2, e3⟩ := up2.back
  refine ⟨(h.set c (cu w m) ++ g).length, g2, ys, ?_, by simp, by rw [← e3]; exact up2.at, by rw [← e3]; exact ob2⟩
  rw [← e3]
  have e4 := fin (k := k + 6) (up2.cur u) lj
  rw [call_eq t19 rfl]
  have hb : b19 = (.cons (.set 1 (.lst (.cons false (ec "read_clause") .nil))) (.cons (.wh tst19 bod19) (.cons (.ex (.omth (.var 0) "Cursor" "finish" "Cursor.finish" .nil)) (.cons (.ret (.var 1)) .nil)))) := rfl
  have e5 : evA glob (C (k + 7)) (.cons false (ec "read_clause") .nil) [some (.ref c), none] h = some (.ok [.ref x], h.set c (cu w m) ++ g) := evA1 e1 (fun _ z => by cases z)
  rw [hb]
  generalize h.set c (cu w m) ++ g = h2 at *
  have e6 : Z.vv (evE glob (C (k + 7)) (.lst (.cons false (ec "read_clause") .nil))) [some (.ref c), none] h = some (.ok (.ref h2.length), h2 ++ [.lst [.ref x]]) := by
    simp [Z.vv, evE, ev.eq_17, vt, e5, bd_ok, s1, ma_lst]
  show retOf (bq (bs (Z.vv (evE glob (C (k + 7)) (.lst (.cons false (ec "read_clause") .nil))) [some (.ref c), none] h) [some (.ref c), none] fun d h1 => some (.nx (([some (.ref c), none] : Sl).set 1 (some d)), h1)) _) = _
  rw [e6]
  simp only [bs_ok, bq_nx, List.set]
  have e2' : evS glob (C (k + 7)) (.wh tst19 bod19) [some (.ref c), some (.ref h2.length)] (h2 ++ [.lst [.ref x]]) = some (.nx [some (.ref c), some (.ref h2.length)], h') := by
    rw [evS.eq_9]
    exact e2
  have e7 : h'[c]? = some (.ins "Cursor" (cf w j)) := (up2.cur u).oc
  simp [evB, evS.eq_1, evS.eq_2, evS.eq_3, evS.eq_4, evS.eq_5, evS.eq_6, evS.eq_7, evS.eq_10, evS.eq_11, evS.eq_12, evS.eq_14, evS.eq_15, evS.eq_17, ev.eq_1, ev.eq_2, ev.eq_3, ev.eq_4, ev.eq_5, ev.eq_6, ev.eq_7, ev.eq_8, ev.eq_9, ev.eq_10, ev.eq_11, ev.eq_12, ev.eq_13, ev.eq_14, ev.eq_15, ev.eq_16, ev.eq_17, ev.eq_18, ev.eq_19, ev.eq_20, ev.eq_21, ev.eq_22, ev.eq_23, ev.eq_24, ev.eq_25, ev.eq_26, ev.eq_27, ev.eq_28, ev.eq_29, ev.eq_31, ev.eq_32, ev.eq_34, ev.eq_35, ev.eq_36, ev.eq_37, ev.eq_38, ev.eq_39, ev.eq_40, ev.eq_41, evA, evO, evC, evI, vt, tv, bd_ok, bs_ok, bq_nx, bq_rt, pu_ok, re_nx, re_rt, ma_bl, ma_int, ma_str, ma_non, ma_ty, ma_ref, ma_tup, ma_frl, ma_lst, fix_same, getS, Z.evE, Z.evT, Z.vv, tr_bl, b_len, b_isi, b_all, b_any, b_sum, b_str, b_intI, b_intB, b_tup, b_lst, c_eq, c_ne, c_in, c_ni, c_lt, c_gt, c_le, c_is, c_isn, c_isN, c_isnN, c_isI, c_isL, c_isR, o_add, o_sub, q_bl, q_int, q_str, q_NN, a_int, e2', e7, e4, n_fin]
/-! ### clauses_of -/
theorem putc1 {x : D} : putD "_row" x [] = ([("_row", x)] : List (Str × D)) := rfl
theorem putc2 {x : D} : putD "_words" x ([("_row", .int 1)] : List (Str × D)) = ([("_row", .int 1), ("_words", x)] : List (Str × D)) := by rw [putD, if_neg (by decide +kernel)]; rfl
theorem putc3 {w : Nat} : putD "_at" (.int 0) ([("_row", .int 1), ("_words", .ref w)] : List (Str × D)) = cf w 0 := by rw [putD, if_neg (by decide +kernel), putD, if_neg (by decide +kernel)]; rfl
theorem init_cu {n : Nat} (e : h[n]? = some (.lst xs)) : C (k + 1) "Cursor.__init__" [.ref h.length, .int 1, .ref n] (h ++ [.ins "Cursor" []]) = some (.ok .non, h ++ [cu (h.length + 1) 0, .lst xs]) := by
  have lt : n < h.length := (List.getElem?_eq_some_iff.mp e).1
  have g1 : ∀ o : O, (h ++ [o])[n]? = some (.lst xs) := fun o => by rw [List.getElem?_append_left lt]; exact e
  have l1 : ∀ o : O, listD (h ++ [o]) [.ref n] = some (.lst xs) := fun o => by simp only [listD, sqD, lsD, g1, Option.map_some]
  have g2 : ∀ o o' : O, (h ++ [o, o'])[h.length]? = some o := fun o o' => by rw [List.getElem?_append_right (Nat.le_refl _), Nat.sub_self]; rfl
  have g3 : ∀ o o' o2 : O, (h ++ [o, o']).set h.length o2 = h ++ [o2, o'] := fun o o' o2 => by rw [List.set_append_right _ _ (Nat.le_refl _), Nat.sub_self]; rfl
  rw [call_eq t5 rfl]
  simp [b5, evB, evS.eq_1, evS.eq_2, evS.eq_3, evS.eq_4, evS.eq_5, evS.eq_6, evS.eq_7, evS.eq_10, evS.eq_11, evS.eq_12, evS.eq_14, evS.eq_15, evS.eq_17, ev.eq_1, ev.eq_2, ev.eq_3, ev.eq_4, ev.eq_5, ev.eq_6, ev.eq_7, ev.eq_8, ev.eq_9, ev.eq_10, ev.eq_11, ev.eq_12, ev.eq_13, ev.eq_14, ev.eq_15, ev.eq_16, ev.eq_17, ev.eq_18, ev.eq_19, ev.eq_20, ev.eq_21, ev.eq_22, ev.eq_23, ev.eq_24, ev.eq_25, ev.eq_26, ev.eq_27, ev.eq_28, ev.eq_29, ev.eq_31, ev.eq_32, ev.eq_34, ev.eq_35, ev.eq_36, ev.eq_37, ev.eq_38, ev.eq_39, ev.eq_40, ev.eq_41, evA, evO, evC, evI, vt, tv, bd_ok, bs_ok, bq_nx, bq_rt, pu_ok, re_nx, re_rt, ma_bl, ma_int, ma_str, ma_non, ma_ty, ma_ref, ma_tup, ma_frl, ma_lst, fix_same, getS, Z.evE, Z.evT, Z.vv, tr_bl, b_len, b_isi, b_all, b_any, b_sum, b_str, b_intI, b_intB, b_tup, b_lst, c_eq, c_ne, c_in, c_ni, c_lt, c_gt, c_le, c_is, c_isn, c_isN, c_isnN, c_isI, c_isL, c_isR, o_add, o_sub, q_bl, q_int, q_str, q_NN, a_int, end_get, end_set, putc1, putc2, putc3, l1, g2, g3, List.append_assoc]
/-- a line of words that can be said -/
structure Line (ws : List Str) (qs : List Q4) : Prop where
  ne : ws ≠ []
  ok : ∀ w ∈ ws, 32 ∉ w.cps.toList ∧ w ≠ Str.empty ∧ w.length ≤ 8
  most : ws.length ≤ 40
  wb : ∀ w ∈ ws, wordB w = true
  at_ : ClausesAt ws 0 qs ws.length
theorem sum8 : ∀ ws : List Str, (∀ w ∈ ws, w.length ≤ 8) → (ws.map (·.length)).sum ≤ 8 * ws.length
  | [], _ => Nat.le_refl _
  | w :: ws, h => by
    have h1 := sum8 ws (fun x m => h x (List.mem_cons_of_mem _ m))
    have h2 := h w (List.mem_cons_self ..)
    rw [List.map_cons, List.sum_cons, List.length_cons]
    omega
theorem line_len {ws : List Str} {qs : List Q4} (L : Line ws qs) : (Txt.join sp ws).length ≤ 400 := by
  have h1 := sum8 ws fun w m => (L.ok w m).2.2
  have h2 := join_len sp ws
  have l1 : sp.length = 1 := by decide +kernel
  have h3 := L.most
  rw [l1] at h2
  omega
theorem clauses_of {ws : List Str} {qs : List Q4} (L : Line ws qs) : ∃ n g xs, C (k + 9) "clauses_of" [.str (Txt.join sp ws)] h = some (.ok (.ref n), h ++ g) ∧ h.length ≤ n ∧ (h ++ g)[n]? = some (.lst xs) ∧ Obs (h ++ g) h.length xs qs := by
  have jl := line_len L
  obtain ⟨h2, n, g, e1, rfl, ln, en⟩ := words_of (k := k + 7) (h := h) L.ne (fun w m => ⟨(L.ok w m).1, (L.ok w m).2.1⟩) (by omega) (by have := L.most; omega)
  obtain ⟨m, g1, e2, lm, em⟩ := mat_lst (h := h) (h1 := h) (g := g) rfl ln en
  have eM := init_cu (k := k + 7) em
  generalize eH : h ++ g1 = H at *
  have lH : h.length ≤ H.length := by rw [← eH]; simp
  let H2 : Hh := H ++ [cu (H.length + 1) 0, .lst (ws.map D.str)]
  have u : Cur H2 H.length (H.length + 1) ws 0 := ⟨by show (H ++ _)[_]? = _; rw [List.getElem?_append_right (Nat.le_refl _), Nat.sub_self]; rfl, by show (H ++ _)[_]? = _; rw [List.getElem?_append_right (by omega), Nat.add_sub_cancel_left]; rfl, by omega, by have := L.most; omega, fun x m => (L.ok x m).2.2⟩
  obtain ⟨N, G, xs, e3, lN, eN, ob⟩ := clauses (k := k) u L.at_ (Nat.le_refl _)
  have l2 : H2.length = H.length + 2 := by show (H ++ _).length = _; simp
  have eS : H2.set H.length (cu (H.length + 1) ws.length) = H ++ [cu (H.length + 1) ws.length, .lst (ws.map D.str)] := by
    show (H ++ _).set _ _ = _
    rw [List.set_append_right _ _ (Nat.le_refl _), Nat.sub_self]
    rfl
  rw [eS] at e3 eN ob
  have le : lenD H [.ref m] = some (.int ws.length) := by rw [lenD_ref em, List.length_map]
  have l40 : ¬ (40 : Int) < ws.length := by have := L.most; omega
  refine ⟨N, g1 ++ ([cu (H.length + 1) ws.length, .lst (ws.map D.str)] ++ G), xs, ?_, by omega, ?_, ?_⟩
  · rw [← List.append_assoc, eH, ← List.append_assoc]
    have e4 : fix H (.ref N) (H ++ [cu (H.length + 1) ws.length, .lst (ws.map D.str)] ++ G) = some (.ok (.ref N), H ++ [cu (H.length + 1) ws.length, .lst (ws.map D.str)] ++ G) := by
      obtain ⟨q, r, _, rfl, _, _⟩ := L.at_
      match xs, ob with
      | .ref y :: xs, ob => exact fix_refs (by omega) eN (by have := ob.1; omega)
    generalize H ++ [cu (H.length + 1) ws.length, .lst (ws.map D.str)] ++ G = H3 at *
    rw [call_eq t18 rfl]
    have s1' : Z.vv (evE glob (C (k + 8)) (.call "words_of" (.cons false (.var 0) .nil))) [some (.str (Txt.join sp ws)), none, none] h = some (.ok (.ref m), H) := by
      simp only [Z.vv, evE, ev.eq_21, vt, evA, ev.eq_1, getS, List.getElem?_cons_zero, Option.bind_some, id, pu_ok, bd_ok, ma_str]
      rw [e1]
      exact e2
    have hc : evE glob (C (k + 8)) (.call "read_clauses" (.cons false (.mk "Cursor" "Cursor.__init__" (.cons false (.int 1) (.cons false (.var 1) .nil))) .nil)) [some (.str (Txt.join sp ws)), some (.ref m), none] H = some (.ok (.ref N), H3) := by
      have a1 : evA glob (C (k + 8)) (.cons false (.int 1) (.cons false (.var 1) .nil)) [some (.str (Txt.join sp ws)), some (.ref m), none] H = some (.ok [.int 1, .ref m], H) := by simp [evB, evS.eq_1, evS.eq_2, evS.eq_3, evS.eq_4, evS.eq_5, evS.eq_6, evS.eq_7, evS.eq_10, evS.eq_11, evS.eq_12, evS.eq_14, evS.eq_15, evS.eq_17, ev.eq_1, ev.eq_2, ev.eq_3, ev.eq_4, ev.eq_5, ev.eq_6, ev.eq_7, ev.eq_8, ev.eq_9, ev.eq_10, ev.eq_11, ev.eq_12, ev.eq_13, ev.eq_14, ev.eq_15, ev.eq_16, ev.eq_17, ev.eq_18, ev.eq_19, ev.eq_20, ev.eq_21, ev.eq_22, ev.eq_23, ev.eq_24, ev.eq_25, ev.eq_26, ev.eq_27, ev.eq_28, ev.eq_29, ev.eq_31, ev.eq_32, ev.eq_34, ev.eq_35, ev.eq_36, ev.eq_37, ev.eq_38, ev.eq_39, ev.eq_40, ev.eq_41, evA, evO, evC, evI, vt, tv, bd_ok, bs_ok, bq_nx, bq_rt, pu_ok, re_nx, re_rt, ma_bl, ma_int, ma_str, ma_non, ma_ty, ma_ref, ma_tup, ma_frl, ma_lst, fix_same, getS, Z.evE, Z.evT, Z.vv, tr_bl, b_len, b_isi, b_all, b_any, b_sum, b_str, b_intI, b_intB, b_tup, b_lst, c_eq, c_ne, c_in, c_ni, c_lt, c_gt, c_le, c_is, c_isn, c_isN, c_isnN, c_isI, c_isL, c_isR, o_add, o_sub, q_bl, q_int, q_str, q_NN, a_int]
      have a2 : (ev glob (C (k + 8)) (.mk "Cursor" "Cursor.__init__" (.cons false (.int 1) (.cons false (.var 1) .nil)))).v [some (.str (Txt.join sp ws)), some (.ref m), none] H = some (.ok (.ref H.length), H2) := by
        rw [ev.eq_36]
        simp only [vt, a1, bd_ok, eM]
        rfl
      have a3 := evA1 a2 (fun _ z => by cases z)
      rw [evE, ev.eq_21]
      simp only [vt, a3, bd_ok, e3, e4]
    show retOf (bq (bs (Z.vv (evE glob (C (k + 8)) (.call "words_of" (.cons false (.var 0) .nil))) [some (.str (Txt.join sp ws)), none, none] h) [some (.str (Txt.join sp ws)), none, none] fun d h1 => some (.nx (([some (.str (Txt.join sp ws)), none, none] : Sl).set 1 (some d)), h1)) _) = _
    rw [s1']
    simp only [bs_ok, bq_nx, List.set]
    have hif : ∀ a b : SL, evS glob (C (k + 8)) (.ife (.or (.cmp .Is (.var 1) .non) (.or (.cmp .Gt (.bl1 .len (.var 1)) (.glob "MOST_WORDS")) (.not (.bl1 .all (.lc (.call "is_word" (.cons false (.var 2) .nil)) (.nm 2) (.sq (.var 1)) .no [2]))))) a .nil) [some (.str (Txt.join sp ws)), some (.ref m), none] H = some (.nx [some (.str (Txt.join sp ws)), some (.ref m), none], H) := fun a b => by
      have w1 : (ev glob (C (k + 8)) (.lc (.call "is_word" (.cons false (.var 2) .nil)) (.nm 2) (.sq (.var 1)) .no [2])).v [some (.str (Txt.join sp ws)), some (.ref m), none] H = some (.ok (.lst (ws.map fun _ => D.bl true)), H) := by
        refine lc_all (f := D.str) (g := fun _ => D.bl true) (ei_ref (i_v rfl) em) ⟨em, trivial⟩ (by have := L.most; omega) (fun _ _ z => by cases z) fun x mx => ⟨_, rfl, ?_⟩
        have c1 := is_word (k := k + 7) (h := H) (s := x) (by have := (L.ok x mx).2.2; omega)
        rw [L.wb x mx] at c1
        exact i_cll (iAc (i_v rfl) (fun _ z => by cases z) iAn) c1 (fix_len rfl)
      have w2 : bltD H .all [.lst (ws.map fun _ => D.bl true)] = some (.bl true) := by
        show (blsD (ws.map fun _ => D.bl true)).map (fun ns => D.bl (ns.all id)) = _
        rw [blsD_map (fun _ => true)]
        simp
      have t1 : (ev glob (C (k + 8)) (.or (.cmp .Is (.var 1) .non) (.or (.cmp .Gt (.bl1 .len (.var 1)) (.glob "MOST_WORDS")) (.not (.bl1 .all (.lc (.call "is_word" (.cons false (.var 2) .nil)) (.nm 2) (.sq (.var 1)) .no [2])))))).t [some (.str (Txt.join sp ws)), some (.ref m), none] H = some (.ok false, H) :=
        t_or (t_cmp (i_v rfl) i_n c_isR) (t_or (t_cmp (i_bl1 (i_v rfl) le) (i_g g_words) (by show some (D.bl (decide ((40 : Int) < ws.length))) = _; rw [decide_eq_false l40])) (t_not (k := true) (t_bl1 (i_bl1 w1 w2))))
      have := s_if0 (A := a) (l := .nil) t1
      rw [evS.eq_7]
      show bs ((ev glob (C (k + 8)) _).t _ H) _ _ = _
      rw [t1]
      show evB glob (C (k + 8)) .nil _ H = _
      rw [evB]
    simp only [evB, hif _ .nil, bq_nx, evS.eq_17, evS.eq_5, hc, bs_ok, bq_rt, re_rt]
  · rw [← List.append_assoc, eH, ← List.append_assoc]
    exact eN
  · rw [← List.append_assoc, eH, ← List.append_assoc]
    exact ob.lo (by omega)
end
end K3

namespace K3
open PySem L2 Z
theorem fix_app {h o : Hh} {d : D} (c : clD h.length d = true) (nr : ∀ n, d ≠ .ref n) : fix h d (h ++ o) = some (.ok d, h) := by
  have e : okH h (h ++ o) := .inl (List.take_left' rfl)
  unfold fix
  split
  · exact absurd rfl (nr _)
  · rw [if_pos ⟨e, c⟩, List.take_left' rfl]
theorem fix_not {h h2 : Hh} {d : D} (c : clD h.length d = false) (nr : ∀ n, d ≠ .ref n) : fix h d h2 = some (.ok d, h2) := by
  unfold fix
  split
  · exact absurd rfl (nr _)
  · rw [if_neg (fun z => by rw [c] at z; exact absurd z.2 (by decide))]
theorem o_pow {h : Hh} : ∃ p : Int, 0 < p ∧ p.natAbs < 2 ^ 200 ∧ binD h .Pow (.int 10) (.int 30) = some (.int p) := ⟨10 ^ 30, by decide +kernel, by decide +kernel, by
  show (if (0 : Int) ≤ 30 ∧ (30 : Int) ≤ 1000000 ∧ (10 : Int).natAbs < 2 ^ 64 then some (D.int ((10 : Int) ^ (30 : Int).toNat)) else none) = _
  rw [if_pos (by decide)]
  rfl⟩
theorem mixed {k : Nat} {h : Hh} {a b : Int} (b0 : 0 ≤ b) (b1 : b ≤ 1000000) : ∃ v : Int, 0 ≤ v ∧ v < 998244353 ∧ C (k + 1) "_law_mixed" [.int a, .int b] h = some (.ok (.int v), h) := by
  obtain ⟨p, p0, p1, ep⟩ := o_pow (h := h)
  have a0 : 0 ≤ a % p := Int.emod_nonneg _ (by omega)
  have a1 : a % p < p := Int.emod_lt_of_pos _ p0
  have big : (2 : Nat) ^ 200 + 8000000000 < 2 ^ 250 := by decide +kernel
  have n1 : (a % p + 7919 * b + 13).natAbs < 2 ^ 250 := by
    have : (a % p + 7919 * b + 13).natAbs ≤ p.natAbs + 7919000013 := by omega
    omega
  generalize eN : a % p + 7919 * b + 13 = N at *
  have r0 : 0 ≤ N * N % 1000000007 * 48271 % 998244353 := Int.emod_nonneg _ (by decide)
  have r1 : N * N % 1000000007 * 48271 % 998244353 < 998244353 := Int.emod_lt_of_pos _ (by decide)
  refine ⟨N * N % 1000000007 * 48271 % 998244353 / 11, by omega, by omega, ?_⟩
  rw [call_eq t26 rfl]
  have m1 : binD h .Mult (.int 7919) (.int b) = some (.int (7919 * b)) := o_mulL (by decide)
  have m2 : binD h .Mult (.int N) (.int N) = some (.int (N * N)) := o_mulW n1 n1
  have m3 : binD h .Mult (.int (N * N % 1000000007)) (.int 48271) = some (.int (N * N % 1000000007 * 48271)) := o_mul (by decide)
  simp [b26, evB, evS.eq_1, evS.eq_2, evS.eq_3, evS.eq_4, evS.eq_5, evS.eq_6, evS.eq_7, evS.eq_10, evS.eq_11, evS.eq_12, evS.eq_14, evS.eq_15, evS.eq_17, ev.eq_1, ev.eq_2, ev.eq_3, ev.eq_4, ev.eq_5, ev.eq_6, ev.eq_7, ev.eq_8, ev.eq_9, ev.eq_10, ev.eq_11, ev.eq_12, ev.eq_13, ev.eq_14, ev.eq_15, ev.eq_16, ev.eq_17, ev.eq_18, ev.eq_19, ev.eq_20, ev.eq_21, ev.eq_22, ev.eq_23, ev.eq_24, ev.eq_25, ev.eq_26, ev.eq_27, ev.eq_28, ev.eq_29, ev.eq_31, ev.eq_32, ev.eq_34, ev.eq_35, ev.eq_36, ev.eq_37, ev.eq_38, ev.eq_39, ev.eq_40, ev.eq_41, evA, evO, evC, evI, vt, tv, bd_ok, bs_ok, bq_nx, bq_rt, pu_ok, re_nx, re_rt, ma_bl, ma_int, ma_str, ma_non, ma_ty, ma_ref, ma_tup, ma_frl, ma_lst, fix_same, getS, Z.evE, Z.evT, Z.vv, tr_bl, b_len, b_isi, b_all, b_any, b_sum, b_str, b_intI, b_intB, b_tup, b_lst, c_eq, c_ne, c_in, c_ni, c_lt, c_gt, c_le, c_is, c_isn, c_isN, c_isnN, c_isI, c_isL, c_isR, o_add, o_sub, q_bl, q_int, q_str, q_NN, a_int, ep, o_mod, o_div, m1, m2, m3, p0, eN]
def voc : List Str := ["lamp", "box", "key", "cup", "red", "old", "big", "sword", "quill", "x", "lantern", "abcdefgh"]
theorem ix_lst {h : Hh} {l : List Str} {i : Int} (i0 : 0 ≤ i) (i1 : i < l.length) : ∃ s ∈ l, ixD h (.lst (l.map D.str)) (.int i) = some (.str s) ∧ ∀ n, h[n]? = some (.lst (l.map D.str)) → ixD h (.ref n) (.int i) = some (.str s) := by
  have q : i.toNat < l.length := by omega
  have e : atI (l.map D.str) i = some (.str l[i.toNat]) := by
    unfold atI ixN
    rw [if_pos i0, if_pos (by rw [List.length_map]; exact i1)]
    show (l.map D.str)[i.toNat]? = _
    rw [List.getElem?_map, List.getElem?_eq_getElem q]
    rfl
  refine ⟨l[i.toNat], List.getElem_mem q, e, fun n en => ?_⟩
  show (match sqD h (.ref n) with | some xs => atI xs i | none => none) = _
  simp only [sqD, lsD, en]
  exact e
theorem word {k : Nat} {h : Hh} {x : Int} : ∃ w ∈ voc, ∀ S es, evA glob (C (k + 1)) es S h = some (.ok [.int x], h) → (ev glob (C (k + 1)) (.call "_law_word" es)).v S h = some (.ok (.str w), h) := by
  obtain ⟨w, hw, e1, e2⟩ := ix_lst (h := h ++ [.lst (voc.map D.str)]) (l := voc) (i := x % 12) (Int.emod_nonneg _ (by decide)) (Int.emod_lt_of_pos _ (by decide))
  refine ⟨w, hw, fun S es ea => ?_⟩
  have e3 := e2 h.length end_get
  have c1 : C (k + 1) "_law_word" [.int x] h = some (.ok (.str w), h ++ [.lst (voc.map D.str)]) := by
    rw [call_eq t29 rfl]
    simp only [voc, List.map] at e3
    have s12 : (12 : Nat) ≤ sizeLine := by decide
    simp [b29, evB, evS.eq_1, evS.eq_2, evS.eq_3, evS.eq_4, evS.eq_5, evS.eq_6, evS.eq_7, evS.eq_10, evS.eq_11, evS.eq_12, evS.eq_14, evS.eq_15, evS.eq_17, ev.eq_1, ev.eq_2, ev.eq_3, ev.eq_4, ev.eq_5, ev.eq_6, ev.eq_7, ev.eq_8, ev.eq_9, ev.eq_10, ev.eq_11, ev.eq_12, ev.eq_13, ev.eq_14, ev.eq_15, ev.eq_16, ev.eq_17, ev.eq_18, ev.eq_19, ev.eq_20, ev.eq_21, ev.eq_22, ev.eq_23, ev.eq_24, ev.eq_25, ev.eq_26, ev.eq_27, ev.eq_28, ev.eq_29, ev.eq_31, ev.eq_32, ev.eq_34, ev.eq_35, ev.eq_36, ev.eq_37, ev.eq_38, ev.eq_39, ev.eq_40, ev.eq_41, evA, evO, evC, evI, vt, tv, bd_ok, bs_ok, bq_nx, bq_rt, pu_ok, re_nx, re_rt, ma_bl, ma_int, ma_str, ma_non, ma_ty, ma_ref, ma_tup, ma_frl, ma_lst, fix_same, getS, Z.evE, Z.evT, Z.vv, tr_bl, b_len, b_isi, b_all, b_any, b_sum, b_str, b_intI, b_intB, b_tup, b_lst, c_eq, c_ne, c_in, c_ni, c_lt, c_gt, c_le, c_is, c_isn, c_isN, c_isnN, c_isI, c_isL, c_isR, o_add, o_sub, q_bl, q_int, q_str, q_NN, a_int, o_mod, e3, s12, voc]
  rw [ev.eq_21]
  simp only [vt, ea, bd_ok, c1]
  exact fix_app rfl (fun n z => by cases z)
/-! ### what is said, word by word -/
def Seg (ws : List Str) (i : Nat) (l : List Str) : Prop := ∀ m (hm : m < l.length), pk ws (i + m) = l[m]
theorem Seg.left {ws : List Str} {i : Nat} {a b : List Str} (s : Seg ws i (a ++ b)) : Seg ws i a := fun m hm => by
  rw [s m (by rw [List.length_append]; omega), List.getElem_append_left hm]
theorem Seg.right {ws : List Str} {i : Nat} {a b : List Str} (s : Seg ws i (a ++ b)) : Seg ws (i + a.length) b := fun m hm => by
  rw [Nat.add_assoc, s (a.length + m) (by rw [List.length_append]; omega), List.getElem_append_right (Nat.le_add_right _ _)]
  simp
theorem Seg.head {ws : List Str} {i : Nat} {x : Str} {l : List Str} (s : Seg ws i (x :: l)) : pk ws i = x := s 0 (Nat.zero_lt_succ _)
theorem Seg.tail {ws : List Str} {i : Nat} {x : Str} {l : List Str} (s : Seg ws i (x :: l)) : Seg ws (i + 1) l := Seg.right (a := [x]) s
theorem Seg.self (l : List Str) : Seg l 0 l := fun m hm => by
  rw [Nat.zero_add, pk, List.getElem?_eq_getElem hm]
  rfl
def VW : List Str := voc ++ (["the", "and", "it", "them", "all", "but", "look", "list", "wait", "undo", "down", "east", "north", "south", "up", "west", "go", "take", "drop", "open", "shut", "wear", "doff", "put", "in", "on", "then"] : List Str)
theorem vw_ok : ∀ x ∈ VW, 32 ∉ x.cps.toList ∧ x ≠ Str.empty ∧ x.length ≤ 8 := by decide +kernel
theorem vw_wb : ∀ x ∈ VW, wordB x = true := by decide +kernel
theorem voc_name : ∀ x ∈ voc, nameB x = true := by decide +kernel
theorem voc_vw : ∀ x ∈ voc, x ∈ VW := fun x m => List.mem_append_left _ m
/-- what may stand behind a phrase -/
def Fol (x : Str) : Prop := nameB x = false ∧ x ≠ "and" ∧ x ≠ "but"
structure NounG (said L : List Str) : Prop where
  at_ : ∀ ws i, Seg ws i said → nameB (pk ws (i + said.length)) = false → NounAt ws i L (i + said.length)
  vw : ∀ x ∈ said, x ∈ VW
  le : said.length ≤ 5
  l4 : L.length ≤ 4
  vL : ∀ x ∈ L, x ∈ voc
  h0 : ∀ ws i, Seg ws i said → pk ws i = "the" ∨ pk ws i ∈ voc
theorem nounG {L : List Str} (t : Nat) (t1 : t ≤ 1) (l1 : 1 ≤ L.length) (l4 : L.length ≤ 4) (vL : ∀ x ∈ L, x ∈ voc) (nd : ∀ m, m < L.length → (L.take m).Nodup) : NounG (List.replicate t ("the" : Str) ++ L) L where
  at_ := fun ws i s f => by
    have ll : (List.replicate t ("the" : Str) ++ L).length = t + L.length := by simp
    rw [ll] at f ⊢
    have s1 := s.left
    have s2 := s.right
    rw [List.length_replicate] at s2
    refine ⟨t, t1, fun z => ?_, by omega, fun m hm => s2 m hm, l1, l4, fun x m => voc_name x (vL x m), nd, .inr (.inr ?_)⟩
    · subst z
      exact s1 0 (by simp)
    · exact f
  vw := fun x m => by
    rcases List.mem_append.mp m with z | z
    · rw [(List.mem_replicate.mp z).2]; decide +kernel
    · exact voc_vw x (vL x z)
  le := by simp; omega
  l4 := l4
  vL := vL
  h0 := fun ws i s => by
    by_cases z : t = 0
    · subst z
      have : pk ws i = L[0] := s 0 (by rw [List.length_append, List.length_replicate]; omega)
      exact .inr (this ▸ vL _ (List.getElem_mem _))
    · have : t = 1 := by omega
      subst this
      exact .inl (s 0 (by simp))
/-! ### one form after the other -/
section
variable {Φ : CallF} {S : Sl} {h h1 h2 h3 : Hh} {x y d : D} {ds : List D} {a b e : E} {es : EL}
theorem ev_bin {op : Operator} (ea : (ev glob Φ a).v S h = some (.ok x, h1)) (eb : (ev glob Φ b).v S h1 = some (.ok y, h2)) (e : binD h2 op x y = some d) : (ev glob Φ (.bin op a b)).v S h = some (.ok d, h2) := by
  rw [ev.eq_8]
  show bd ((ev glob Φ a).v S h) _ = _
  rw [ea]
  show bd ((ev glob Φ b).v S h1) _ = _
  rw [eb]
  show pu (binD h2 op x y) h2 = _
  rw [e]
  rfl
theorem ev_ix (ea : (ev glob Φ a).v S h = some (.ok x, h1)) (eb : (ev glob Φ b).v S h1 = some (.ok y, h2)) (e : ixD h2 x y = some d) : (ev glob Φ (.ix a b)).v S h = some (.ok d, h2) := by
  rw [ev.eq_28]
  show bd ((ev glob Φ a).v S h) _ = _
  rw [ea]
  show bd ((ev glob Φ b).v S h1) _ = _
  rw [eb]
  show pu (ixD h2 x y) h2 = _
  rw [e]
  rfl
theorem ev_cll {f : Str} (ea : evA glob Φ es S h = some (.ok ds, h1)) (ec : Φ f ds h1 = some (.ok d, h2)) (ef : fix h d h2 = some (.ok x, h3)) : (ev glob Φ (.call f es)).v S h = some (.ok x, h3) := by
  rw [ev.eq_21]
  show bd (evA glob Φ es S h) _ = _
  rw [ea]
  show bd (Φ f ds h1) _ = _
  rw [ec]
  exact ef
theorem ev_lst (ea : evA glob Φ es S h = some (.ok ds, h1)) (l : ds.length ≤ sizeLine) : (ev glob Φ (.lst es)).v S h = some (.ok (.lst ds), h1) := by
  rw [ev.eq_17]
  show bd (evA glob Φ es S h) _ = _
  rw [ea]
  exact if_pos l
theorem ev_tup (ea : evA glob Φ es S h = some (.ok ds, h1)) (l : ds.length ≤ sizeLine) : (ev glob Φ (.tup es)).v S h = some (.ok (.tup ds), h1) := by
  rw [ev.eq_16]
  show bd (evA glob Φ es S h) _ = _
  rw [ea]
  exact if_pos l
theorem evAn : evA glob Φ .nil S h = some (.ok [], h) := by rw [evA.eq_1]
theorem evAc (ea : (ev glob Φ e).v S h = some (.ok x, h1)) (n : ∀ xs, x ≠ .lst xs) (er : evA glob Φ es S h1 = some (.ok ds, h2)) : evA glob Φ (.cons false e es) S h = some (.ok (x :: ds), h2) := by
  rw [evA.eq_2]
  show bd (bd ((ev glob Φ e).v S h) mat) _ = _
  rw [ea]
  show bd (mat x h1) _ = _
  rw [mat_ok n]
  show bd (evA glob Φ es S h1) _ = _
  rw [er]
  rfl
/-- .. a new list, held -/
theorem evAl {xs : List D} (ea : (ev glob Φ e).v S h = some (.ok (.lst xs), h1)) (er : evA glob Φ es S (h1 ++ [.lst xs]) = some (.ok ds, h2)) : evA glob Φ (.cons false e es) S h = some (.ok (.ref h1.length :: ds), h2) := by
  rw [evA.eq_2]
  show bd (bd ((ev glob Φ e).v S h) mat) _ = _
  rw [ea]
  show bd (mat (.lst xs) h1) _ = _
  rw [ma_lst]
  show bd (evA glob Φ es S (h1 ++ [.lst xs])) _ = _
  rw [er]
  rfl
theorem ev_v {i : Nat} (s : getS S i = some x) : (ev glob Φ (.var i)).v S h = some (.ok x, h) := by
  rw [ev.eq_1]
  show pu (getS S i) h = _
  rw [s]
  rfl
theorem ev_s {x : Str} : (ev glob Φ (.str x)).v S h = some (.ok (.str x), h) := by rw [ev.eq_3]; rfl
theorem ev_i {x : Int} : (ev glob Φ (.int x)).v S h = some (.ok (.int x), h) := by rw [ev.eq_2]; rfl
theorem ev_n : (ev glob Φ .non).v S h = some (.ok .non, h) := by rw [ev.eq_5]; rfl
theorem set_l {xs : List D} {l : SL} {i : Nat} (t : (ev glob Φ e).v S h = some (.ok (.lst xs), h1)) : evB glob Φ (.cons (.set i e) l) S h = evB glob Φ l (S.set i (some (.ref h1.length))) (h1 ++ [.lst xs]) := by
  rw [evB, evS.eq_2]
  show bq (bs (bd ((ev glob Φ e).v S h) mat) S _) _ = _
  rw [t]
  rfl
theorem ex_v {l : SL} (t : (ev glob Φ e).v S h = some (.ok d, h1)) : evB glob Φ (.cons (.ex e) l) S h = evB glob Φ l S h1 := by
  rw [evB, evS.eq_1]
  show bq (bs ((ev glob Φ e).v S h) S _) _ = _
  rw [t]
  rfl
theorem st_v {s : Z.S} {l : SL} {S1 : Sl} (t : evS glob Φ s S h = some (.nx S1, h1)) : evB glob Φ (.cons s l) S h = evB glob Φ l S1 h1 := by
  rw [evB]
  show bq (evS glob Φ s S h) _ = _
  rw [t]
  rfl
/-- a, b = e -/
theorem asg2 {l : SL} {i j : Nat} (t : (ev glob Φ e).v S h = some (.ok (.tup [x, y]), h1)) : evB glob Φ (.cons (.asg (.cons (.nm i) (.cons (.nm j) .nil)) e) l) S h = evB glob Φ l ((S.set i (some x)).set j (some y)) h1 := by
  rw [evB, evS.eq_3]
  show bq (bs (bd ((ev glob Φ e).v S h) mat) S _) _ = _
  rw [t]
  rfl
end
section
variable {k : Nat} {h : Hh}
def bod30 : SL := (.cons (.set 3 (.call "_law_word" (.cons false (.bin .FloorDiv (.var 0) (.bin .Add (.int 12) (.bin .Mult (.int 5) (.var 2)))) .nil)))
    (.cons (.ife (.cmp .NotIn (.var 3) (.var 1)) (.cons (.ex (.meth (.var 1) .append (.cons false (.var 3) .nil)))
    .nil) .nil)
    .nil))
theorem nd_take {l : List Str} (n : l.Nodup) (m : Nat) : (l.take m).Nodup := List.Nodup.sublist (List.take_sublist m l) n
theorem turn30 {x j : Int} {l : List Str} {b : Option D} (j0 : 0 ≤ j) (j1 : j < 100) (vl : ∀ w ∈ l, w ∈ voc) (nd : l.Nodup) (ll : l.length ≤ 100) : ∃ (l' : List Str) (w : Str), (∀ w ∈ l', w ∈ voc) ∧ l'.Nodup ∧ l'.length ≤ l.length + 1 ∧ l.length ≤ l'.length ∧
    evB glob (C (k + 1)) bod30 [some (.int x), some (.ref h.length), some (.int j), b] (h ++ [.lst (l.map D.str)]) = some (.nx [some (.int x), some (.ref h.length), some (.int j), some (.str w)], h ++ [.lst (l'.map D.str)]) := by
  obtain ⟨w, hw, ew⟩ := word (k := k) (h := h ++ [.lst (l.map D.str)]) (x := x / (12 + 5 * j))
  have m1 : binD (h ++ [.lst (l.map D.str)]) .Mult (.int 5) (.int j) = some (.int (5 * j)) := o_mulL (by decide)
  have e1 := ew [some (.int x), some (.ref h.length), some (.int j), b] (.cons false (.bin .FloorDiv (.var 0) (.bin .Add (.int 12) (.bin .Mult (.int 5) (.var 2)))) .nil) (by
    have c1 : 0 < 12 + 5 * j ∧ 12 + 5 * j < 1073741824 := by omega
    simp [evB, evS.eq_1, evS.eq_2, evS.eq_3, evS.eq_4, evS.eq_5, evS.eq_6, evS.eq_7, evS.eq_10, evS.eq_11, evS.eq_12, evS.eq_14, evS.eq_15, evS.eq_17, ev.eq_1, ev.eq_2, ev.eq_3, ev.eq_4, ev.eq_5, ev.eq_6, ev.eq_7, ev.eq_8, ev.eq_9, ev.eq_10, ev.eq_11, ev.eq_12, ev.eq_13, ev.eq_14, ev.eq_15, ev.eq_16, ev.eq_17, ev.eq_18, ev.eq_19, ev.eq_20, ev.eq_21, ev.eq_22, ev.eq_23, ev.eq_24, ev.eq_25, ev.eq_26, ev.eq_27, ev.eq_28, ev.eq_29, ev.eq_31, ev.eq_32, ev.eq_34, ev.eq_35, ev.eq_36, ev.eq_37, ev.eq_38, ev.eq_39, ev.eq_40, ev.eq_41, evA, evO, evC, evI, vt, tv, bd_ok, bs_ok, bq_nx, bq_rt, pu_ok, re_nx, re_rt, ma_bl, ma_int, ma_str, ma_non, ma_ty, ma_ref, ma_tup, ma_frl, ma_lst, fix_same, getS, Z.evE, Z.evT, Z.vv, tr_bl, b_len, b_isi, b_all, b_any, b_sum, b_str, b_intI, b_intB, b_tup, b_lst, c_eq, c_ne, c_in, c_ni, c_lt, c_gt, c_le, c_is, c_isn, c_isN, c_isnN, c_isI, c_isL, c_isR, o_add, o_sub, q_bl, q_int, q_str, q_NN, a_int, m1, o_div, c1])
  have e2 : inD (h ++ [.lst (l.map D.str)]) (.str w) (.ref h.length) = some (decide (w ∈ l)) := inD_strs (by simp only [sqD, lsD, end_get])
  have e3 := apd (d := .str w) (end_get (h := h) (o := .lst (l.map D.str))) (by rw [List.length_map]; omega)
  rw [end_set] at e3
  have eb : ∀ q, evB glob (C (k + 1)) bod30 [some (.int x), some (.ref h.length), some (.int j), b] (h ++ [.lst (l.map D.str)]) = q ↔ evB glob (C (k + 1)) (.cons (.ife (.cmp .NotIn (.var 3) (.var 1)) (.cons (.ex (.meth (.var 1) .append (.cons false (.var 3) .nil))) .nil) .nil) .nil) [some (.int x), some (.ref h.length), some (.int j), some (.str w)] (h ++ [.lst (l.map D.str)]) = q := fun q => by
    rw [bod30, set_v e1 nls]
    rfl
  by_cases c : w ∈ l
  · refine ⟨l, w, vl, nd, by omega, Nat.le_refl _, (eb _).mpr ?_⟩
    simp [evB, evS.eq_1, evS.eq_2, evS.eq_3, evS.eq_4, evS.eq_5, evS.eq_6, evS.eq_7, evS.eq_10, evS.eq_11, evS.eq_12, evS.eq_14, evS.eq_15, evS.eq_17, ev.eq_1, ev.eq_2, ev.eq_3, ev.eq_4, ev.eq_5, ev.eq_6, ev.eq_7, ev.eq_8, ev.eq_9, ev.eq_10, ev.eq_11, ev.eq_12, ev.eq_13, ev.eq_14, ev.eq_15, ev.eq_16, ev.eq_17, ev.eq_18, ev.eq_19, ev.eq_20, ev.eq_21, ev.eq_22, ev.eq_23, ev.eq_24, ev.eq_25, ev.eq_26, ev.eq_27, ev.eq_28, ev.eq_29, ev.eq_31, ev.eq_32, ev.eq_34, ev.eq_35, ev.eq_36, ev.eq_37, ev.eq_38, ev.eq_39, ev.eq_40, ev.eq_41, evA, evO, evC, evI, vt, tv, bd_ok, bs_ok, bq_nx, bq_rt, pu_ok, re_nx, re_rt, ma_bl, ma_int, ma_str, ma_non, ma_ty, ma_ref, ma_tup, ma_frl, ma_lst, fix_same, getS, Z.evE, Z.evT, Z.vv, tr_bl, b_len, b_isi, b_all, b_any, b_sum, b_str, b_intI, b_intB, b_tup, b_lst, c_eq, c_ne, c_in, c_ni, c_lt, c_gt, c_le, c_is, c_isn, c_isN, c_isnN, c_isI, c_isL, c_isR, o_add, o_sub, q_bl, q_int, q_str, q_NN, a_int, e2, c]
  · refine ⟨l ++ [w], w, fun y m => ?_, List.nodup_append.mpr ⟨nd, by simp, fun a ha b hb z => c (by rw [List.mem_singleton.mp hb] at z; exact z ▸ ha)⟩, by simp, by simp, (eb _).mpr ?_⟩
    · rcases List.mem_append.mp m with z | z
      · exact vl y z
      · rw [List.mem_singleton.mp z]; exact hw
    · simp [evB, evS.eq_1, evS.eq_2, evS.eq_3, evS.eq_4, evS.eq_5, evS.eq_6, evS.eq_7, evS.eq_10, evS.eq_11, evS.eq_12, evS.eq_14, evS.eq_15, evS.eq_17, ev.eq_1, ev.eq_2, ev.eq_3, ev.eq_4, ev.eq_5, ev.eq_6, ev.eq_7, ev.eq_8, ev.eq_9, ev.eq_10, ev.eq_11, ev.eq_12, ev.eq_13, ev.eq_14, ev.eq_15, ev.eq_16, ev.eq_17, ev.eq_18, ev.eq_19, ev.eq_20, ev.eq_21, ev.eq_22, ev.eq_23, ev.eq_24, ev.eq_25, ev.eq_26, ev.eq_27, ev.eq_28, ev.eq_29, ev.eq_31, ev.eq_32, ev.eq_34, ev.eq_35, ev.eq_36, ev.eq_37, ev.eq_38, ev.eq_39, ev.eq_40, ev.eq_41, evA, evO, evC, evI, vt, tv, bd_ok, bs_ok, bq_nx, bq_rt, pu_ok, re_nx, re_rt, ma_bl, ma_int, ma_str, ma_non, ma_ty, ma_ref, ma_tup, ma_frl, ma_lst, fix_same, getS, Z.evE, Z.evT, Z.vv, tr_bl, b_len, b_isi, b_all, b_any, b_sum, b_str, b_intI, b_intB, b_tup, b_lst, c_eq, c_ne, c_in, c_ni, c_lt, c_gt, c_le, c_is, c_isn, c_isN, c_isnN, c_isI, c_isL, c_isR, o_add, o_sub, q_bl, q_int, q_str, q_NN, a_int, e2, c, e3, end_get]
/-- what a maker of the law's gives: a list of what is said, and what is told -/
def Gives (h : Hh) (r : M D) (said : List Str) (d : D) : Prop := ∃ n g, r = some (.ok (.tup [.ref n, d]), h ++ g) ∧ h.length ≤ n ∧ (h ++ g)[n]? = some (.lst (said.map D.str))
def rest30 : SL := (.cons (.ife (.and (.cmp .Eq (.bin .Mod (.bin .FloorDiv (.var 0) (.int 96)) (.int 5)) (.int 1)) (.cmp .Lt (.bl1 .len (.var 1)) (.int 4))) (.cons (.ex (.meth (.var 1) .append (.cons false (.ix (.var 1) (.int 0)) .nil)))
    .nil) .nil)
    (.cons (.ret (.tup (.cons false (.bin .Add (.bin .Mult (.lst (.cons false (.str "the") .nil)) (.bl1 .int (.bin .Mod (.bin .FloorDiv (.var 0) (.int 480)) (.int 2)))) (.var 1)) (.cons false (.bl1 .tuple (.var 1)) .nil))))
    .nil))
theorem rep1 {x : Str} : ∀ t : Nat, (List.replicate t [D.str x]).flatten = (List.replicate t x).map D.str
  | 0 => rfl
  | t + 1 => by rw [List.replicate_succ, List.replicate_succ, List.flatten_cons, rep1 t]; rfl
theorem ret30 {x : Int} {L : List Str} {a b : Option D} {l : SL} (l4 : L.length ≤ 4) : ∃ t, t ≤ 1 ∧ evB glob (C k) (.cons (.ret (.tup (.cons false (.bin .Add (.bin .Mult (.lst (.cons false (.str "the") .nil)) (.bl1 .int (.bin .Mod (.bin .FloorDiv (.var 0) (.int 480)) (.int 2)))) (.var 1)) (.cons false (.bl1 .tuple (.var 1)) .nil)))) .nil) [some (.int x), some (.ref h.length), a, b] (h ++ [.lst (L.map D.str)]) =
    some (.rt (.tup [.ref (h.length + 1), tn L]), h ++ [.lst (L.map D.str), .lst ((List.replicate t ("the" : Str) ++ L).map D.str)]) := by
  have z0 : 0 ≤ x / 480 % 2 := Int.emod_nonneg _ (by decide)
  have z1 : x / 480 % 2 < 2 := Int.emod_lt_of_pos _ (by decide)
  obtain ⟨t, et⟩ : ∃ t : Nat, x / 480 % 2 = (t : Int) := ⟨(x / 480 % 2).toNat, by omega⟩
  refine ⟨t, by omega, ?_⟩
  have e1 : binD (h ++ [.lst (L.map D.str)]) .Mult (.lst [.str "the"]) (.int (t : Nat)) = some (.lst ((List.replicate t ("the" : Str)).map D.str)) := by
    rw [o_rep (xs := [.str "the"]) rfl (by simp; omega) (by omega), rep1]
  have e2 : binD (h ++ [.lst (L.map D.str)]) .Add (.lst ((List.replicate t ("the" : Str)).map D.str)) (.ref h.length) = some (.lst ((List.replicate t ("the" : Str) ++ L).map D.str)) := by
    rw [o_lst (xs := (List.replicate t ("the" : Str)).map D.str) (ys := L.map D.str) rfl (by simp only [mlD, end_get]) (by simp; omega), List.map_append]
  have e3 : ∀ o, tupD (h ++ [.lst (L.map D.str), o]) [.ref h.length] = some (.tup (L.map D.str)) := fun o => by
    have : (h ++ [O.lst (L.map D.str), o])[h.length]? = some (.lst (L.map D.str)) := by rw [List.getElem?_append_right (Nat.le_refl _), Nat.sub_self]; rfl
    simp only [tupD, sqD, lsD, this, Option.map_some]
  refine ret_v ?_
  have a1 : (ev glob (C k) (.bin .Add (.bin .Mult (.lst (.cons false (.str "the") .nil)) (.bl1 .int (.bin .Mod (.bin .FloorDiv (.var 0) (.int 480)) (.int 2)))) (.var 1))).v [some (.int x), some (.ref h.length), a, b] (h ++ [.lst (L.map D.str)]) = some (.ok (.lst ((List.replicate t ("the" : Str) ++ L).map D.str)), h ++ [.lst (L.map D.str)]) := by
    refine ev_bin (ev_bin (ev_lst (evAc ev_s nls evAn) s1) (y := .int (t : Nat)) ?_ e1) (ev_v rfl) e2
    simp [evB, evS.eq_1, evS.eq_2, evS.eq_3, evS.eq_4, evS.eq_5, evS.eq_6, evS.eq_7, evS.eq_10, evS.eq_11, evS.eq_12, evS.eq_14, evS.eq_15, evS.eq_17, ev.eq_1, ev.eq_2, ev.eq_3, ev.eq_4, ev.eq_5, ev.eq_6, ev.eq_7, ev.eq_8, ev.eq_9, ev.eq_10, ev.eq_11, ev.eq_12, ev.eq_13, ev.eq_14, ev.eq_15, ev.eq_16, ev.eq_17, ev.eq_18, ev.eq_19, ev.eq_20, ev.eq_21, ev.eq_22, ev.eq_23, ev.eq_24, ev.eq_25, ev.eq_26, ev.eq_27, ev.eq_28, ev.eq_29, ev.eq_31, ev.eq_32, ev.eq_34, ev.eq_35, ev.eq_36, ev.eq_37, ev.eq_38, ev.eq_39, ev.eq_40, ev.eq_41, evA, evO, evC, evI, vt, tv, bd_ok, bs_ok, bq_nx, bq_rt, pu_ok, re_nx, re_rt, ma_bl, ma_int, ma_str, ma_non, ma_ty, ma_ref, ma_tup, ma_frl, ma_lst, fix_same, getS, Z.evE, Z.evT, Z.vv, tr_bl, b_len, b_isi, b_all, b_any, b_sum, b_str, b_intI, b_intB, b_tup, b_lst, c_eq, c_ne, c_in, c_ni, c_lt, c_gt, c_le, c_is, c_isn, c_isN, c_isnN, c_isI, c_isL, c_isR, o_add, o_sub, q_bl, q_int, q_str, q_NN, a_int, o_div, o_mod, et]
  have a2 : (ev glob (C k) (.bl1 .tuple (.var 1))).v [some (.int x), some (.ref h.length), a, b] (h ++ [.lst (L.map D.str), .lst ((List.replicate t ("the" : Str) ++ L).map D.str)]) = some (.ok (tn L), h ++ [.lst (L.map D.str), .lst ((List.replicate t ("the" : Str) ++ L).map D.str)]) := by
    simp [evB, evS.eq_1, evS.eq_2, evS.eq_3, evS.eq_4, evS.eq_5, evS.eq_6, evS.eq_7, evS.eq_10, evS.eq_11, evS.eq_12, evS.eq_14, evS.eq_15, evS.eq_17, ev.eq_1, ev.eq_2, ev.eq_3, ev.eq_4, ev.eq_5, ev.eq_6, ev.eq_7, ev.eq_8, ev.eq_9, ev.eq_10, ev.eq_11, ev.eq_12, ev.eq_13, ev.eq_14, ev.eq_15, ev.eq_16, ev.eq_17, ev.eq_18, ev.eq_19, ev.eq_20, ev.eq_21, ev.eq_22, ev.eq_23, ev.eq_24, ev.eq_25, ev.eq_26, ev.eq_27, ev.eq_28, ev.eq_29, ev.eq_31, ev.eq_32, ev.eq_34, ev.eq_35, ev.eq_36, ev.eq_37, ev.eq_38, ev.eq_39, ev.eq_40, ev.eq_41, evA, evO, evC, evI, vt, tv, bd_ok, bs_ok, bq_nx, bq_rt, pu_ok, re_nx, re_rt, ma_bl, ma_int, ma_str, ma_non, ma_ty, ma_ref, ma_tup, ma_frl, ma_lst, fix_same, getS, Z.evE, Z.evT, Z.vv, tr_bl, b_len, b_isi, b_all, b_any, b_sum, b_str, b_intI, b_intB, b_tup, b_lst, c_eq, c_ne, c_in, c_ni, c_lt, c_gt, c_le, c_is, c_isn, c_isN, c_isnN, c_isI, c_isL, c_isR, o_add, o_sub, q_bl, q_int, q_str, q_NN, a_int, e3, tn]
  have a4 := evAl a1 (es := .cons false (.bl1 .tuple (.var 1)) .nil) (h2 := h ++ [.lst (L.map D.str), .lst ((List.replicate t ("the" : Str) ++ L).map D.str)]) (ds := [tn L]) (by
    rw [List.append_assoc]
    exact evAc a2 (fun _ z => by cases z) evAn)
  rw [List.length_append] at a4
  exact ev_tup a4 s2
theorem mkNoun {x : Int} : ∃ said L, NounG said L ∧ Gives h (C (k + 2) "_law_noun" [.int x] h) said (tn L) := by
  obtain ⟨w0, hw0, ew0⟩ := word (k := k) (h := h) (x := x / 8)
  have e0 := ew0 [some (.int x), none, none, none] (.cons false (.bin .FloorDiv (.var 0) (.int 8)) .nil) (by simp [evB, evS.eq_1, evS.eq_2, evS.eq_3, evS.eq_4, evS.eq_5, evS.eq_6, evS.eq_7, evS.eq_10, evS.eq_11, evS.eq_12, evS.eq_14, evS.eq_15, evS.eq_17, ev.eq_1, ev.eq_2, ev.eq_3, ev.eq_4, ev.eq_5, ev.eq_6, ev.eq_7, ev.eq_8, ev.eq_9, ev.eq_10, ev.eq_11, ev.eq_12, ev.eq_13, ev.eq_14, ev.eq_15, ev.eq_16, ev.eq_17, ev.eq_18, ev.eq_19, ev.eq_20, ev.eq_21, ev.eq_22, ev.eq_23, ev.eq_24, ev.eq_25, ev.eq_26, ev.eq_27, ev.eq_28, ev.eq_29, ev.eq_31, ev.eq_32, ev.eq_34, ev.eq_35, ev.eq_36, ev.eq_37, ev.eq_38, ev.eq_39, ev.eq_40, ev.eq_41, evA, evO, evC, evI, vt, tv, bd_ok, bs_ok, bq_nx, bq_rt, pu_ok, re_nx, re_rt, ma_bl, ma_int, ma_str, ma_non, ma_ty, ma_ref, ma_tup, ma_frl, ma_lst, fix_same, getS, Z.evE, Z.evT, Z.vv, tr_bl, b_len, b_isi, b_all, b_any, b_sum, b_str, b_intI, b_intB, b_tup, b_lst, c_eq, c_ne, c_in, c_ni, c_lt, c_gt, c_le, c_is, c_isn, c_isN, c_isnN, c_isI, c_isL, c_isR, o_add, o_sub, q_bl, q_int, q_str, q_NN, a_int, o_div])
  have m0 : 0 ≤ x % 4 := Int.emod_nonneg _ (by decide)
  have m1 : x % 4 < 4 := Int.emod_lt_of_pos _ (by decide)
  obtain ⟨S', h', ef, a, b, l, rfl, rfl, vl, nd, l0, ln⟩ := foGo_inv (st := []) (t := .nm 2) (b := evB glob (C (k + 1)) bod30) (fun i S g => ∃ a b l, S = [some (.int x), some (.ref h.length), a, b] ∧ g = h ++ [.lst (l.map D.str)] ∧ (∀ w ∈ l, w ∈ voc) ∧ l.Nodup ∧ 1 ≤ l.length ∧ l.length ≤ i + 1) (fun _ _ _ _ => trivial)
    (rngItems 0 (x % 4).toNat) 0 [some (.int x), some (.ref h.length), none, none] (h ++ [.lst ([w0].map D.str)]) (by
      rintro j y S g hj ⟨a, b, l, rfl, rfl, vl, nd, l0, ln⟩
      have hj2 : j < (rngItems 0 (x % 4).toNat).length := (List.getElem?_eq_some_iff.mp hj).1
      have hj3 : j < (x % 4).toNat := by simpa [rngItems] using hj2
      have hy : y = .int (0 + (j : Nat)) := by
        unfold rngItems at hj
        rw [List.getElem?_map, List.getElem?_range hj3] at hj
        exact (Option.some.inj hj).symm
      subst hy
      obtain ⟨l', w, v2, n2, l2, l3, e2⟩ := turn30 (k := k) (h := h) (x := x) (j := 0 + (j : Nat)) (l := l) (b := b) (by omega) (by omega) vl nd (by omega)
      exact ⟨_, _, _, rfl, e2, _, _, l', rfl, rfl, v2, n2, by omega, by omega⟩) ⟨_, _, [w0], rfl, rfl, by simpa using hw0, by simp, by simp, by simp⟩
  have lr : (rngItems 0 (x % 4).toNat).length = (x % 4).toNat := by simp [rngItems]
  rw [lr] at ln
  have efo := ev_fo (Φ := C (k + 1)) (it := .r1 (.bin .Mod (.var 0) (.int 4))) (S := [some (.int x), some (.ref h.length), none, none]) (h := h ++ [.lst ([w0].map D.str)]) (h1 := h ++ [.lst ([w0].map D.str)]) (st := []) (by
    have c1 : -(2 ^ 62) ≤ x % 4 ∧ x % 4 < 2 ^ 62 := ⟨by omega, by omega⟩
    have c2 : -4611686018427387904 ≤ x % 4 ∧ x % 4 < 4611686018427387904 := ⟨by omega, by omega⟩
    simp [evB, evS.eq_1, evS.eq_2, evS.eq_3, evS.eq_4, evS.eq_5, evS.eq_6, evS.eq_7, evS.eq_10, evS.eq_11, evS.eq_12, evS.eq_14, evS.eq_15, evS.eq_17, ev.eq_1, ev.eq_2, ev.eq_3, ev.eq_4, ev.eq_5, ev.eq_6, ev.eq_7, ev.eq_8, ev.eq_9, ev.eq_10, ev.eq_11, ev.eq_12, ev.eq_13, ev.eq_14, ev.eq_15, ev.eq_16, ev.eq_17, ev.eq_18, ev.eq_19, ev.eq_20, ev.eq_21, ev.eq_22, ev.eq_23, ev.eq_24, ev.eq_25, ev.eq_26, ev.eq_27, ev.eq_28, ev.eq_29, ev.eq_31, ev.eq_32, ev.eq_34, ev.eq_35, ev.eq_36, ev.eq_37, ev.eq_38, ev.eq_39, ev.eq_40, ev.eq_41, evA, evO, evC, evI, vt, tv, bd_ok, bs_ok, bq_nx, bq_rt, pu_ok, re_nx, re_rt, ma_bl, ma_int, ma_str, ma_non, ma_ty, ma_ref, ma_tup, ma_frl, ma_lst, fix_same, getS, Z.evE, Z.evT, Z.vv, tr_bl, b_len, b_isi, b_all, b_any, b_sum, b_str, b_intI, b_intB, b_tup, b_lst, c_eq, c_ne, c_in, c_ni, c_lt, c_gt, c_le, c_is, c_isn, c_isN, c_isnN, c_isI, c_isL, c_isR, o_add, o_sub, q_bl, q_int, q_str, q_NN, a_int, o_mod, c2]) ef
  have first : evB glob (C (k + 1)) b30 [some (.int x), none, none, none] h = evB glob (C (k + 1)) rest30 [some (.int x), some (.ref h.length), a, b] (h ++ [.lst (l.map D.str)]) := by
    have hb : b30 = (.cons (.set 1 (.lst (.cons false (.call "_law_word" (.cons false (.bin .FloorDiv (.var 0) (.int 8)) .nil)) .nil))) (.cons (.fo (.nm 2) (.r1 (.bin .Mod (.var 0) (.int 4))) bod30) rest30)) := rfl
    have a1 := evA1 e0 nls
    have a2 : evS glob (C (k + 1)) (.set 1 (.lst (.cons false (.call "_law_word" (.cons false (.bin .FloorDiv (.var 0) (.int 8)) .nil)) .nil))) [some (.int x), none, none, none] h = some (.nx [some (.int x), some (.ref h.length), none, none], h ++ [.lst ([w0].map D.str)]) := by
      rw [evS.eq_2]
      simp only [evE, Z.vv, ev.eq_17, vt, a1, bd_ok, List.length_cons, List.length_nil, if_pos s1, ma_lst, bs_ok, List.set, List.map]
    rw [hb]
    simp only [evB, a2, bq_nx, efo]
  have done : ∀ L : List Str, 1 ≤ L.length → L.length ≤ 4 → (∀ x ∈ L, x ∈ voc) → (∀ m, m < L.length → (L.take m).Nodup) → evB glob (C (k + 1)) rest30 [some (.int x), some (.ref h.length), a, b] (h ++ [.lst (l.map D.str)]) =
      evB glob (C (k + 1)) (.cons (.ret (.tup (.cons false (.bin .Add (.bin .Mult (.lst (.cons false (.str "the") .nil)) (.bl1 .int (.bin .Mod (.bin .FloorDiv (.var 0) (.int 480)) (.int 2)))) (.var 1)) (.cons false (.bl1 .tuple (.var 1)) .nil)))) .nil) [some (.int x), some (.ref h.length), a, b] (h ++ [.lst (L.map D.str)]) →
      ∃ said L, NounG said L ∧ Gives h (C (k + 2) "_law_noun" [.int x] h) said (tn L) := fun L h1 h4 hv hd er => by
    obtain ⟨t, t1, e⟩ := ret30 (k := k + 1) (h := h) (x := x) (L := L) (a := a) (b := b) (l := .nil) h4
    refine ⟨_, L, nounG t t1 h1 h4 hv hd, h.length + 1, [.lst (L.map D.str), .lst ((List.replicate t ("the" : Str) ++ L).map D.str)], ?_, by omega, ?_⟩
    · rw [call_eq t30 rfl]
      show retOf (evB glob (C (k + 1)) b30 [some (.int x), none, none, none] h) = _
      rw [first, er, e]
      rfl
    · rw [List.getElem?_append_right (by omega), Nat.add_sub_cancel_left]
      rfl
  have el : lenD (h ++ [.lst (l.map D.str)]) [.ref h.length] = some (.int l.length) := by rw [lenD_ref end_get, List.length_map]
  by_cases c1 : x / 96 % 5 = 1
  · by_cases c2 : l.length < 4
    · have c2' : (l.length : Int) < 4 := by omega
      have e4 : ixD (h ++ [.lst (l.map D.str)]) (.ref h.length) (.int 0) = some (.str l[0]) := by
        show (match sqD (h ++ [.lst (l.map D.str)]) (.ref h.length) with | some xs => atI xs 0 | none => none) = _
        simp only [sqD, lsD, end_get]
        unfold atI ixN
        rw [if_pos (by omega), if_pos (by rw [List.length_map]; omega)]
        show (l.map D.str)[0]? = _
        rw [List.getElem?_map, List.getElem?_eq_getElem l0]
        rfl
      have e5 := apd (d := .str l[0]) (end_get (h := h) (o := .lst (l.map D.str))) (by rw [List.length_map]; omega)
      rw [end_set] at e5
      refine done (l ++ [l[0]]) (by simp) (by simp; omega) (fun y m => ?_) (fun m hm => ?_) ?_
      · rcases List.mem_append.mp m with z | z
        · exact vl y z
        · rw [List.mem_singleton.mp z]; exact vl _ (List.getElem_mem _)
      · have : m ≤ l.length := by simp at hm; omega
        rw [List.take_append_of_le_length this]
        exact nd_take nd m
      · unfold rest30
        rw [if_y (h1 := h ++ [.lst (l.map D.str)]) (by simp [evB, evS.eq_1, evS.eq_2, evS.eq_3, evS.eq_4, evS.eq_5, evS.eq_6, evS.eq_7, evS.eq_10, evS.eq_11, evS.eq_12, evS.eq_14, evS.eq_15, evS.eq_17, ev.eq_1, ev.eq_2, ev.eq_3, ev.eq_4, ev.eq_5, ev.eq_6, ev.eq_7, ev.eq_8, ev.eq_9, ev.eq_10, ev.eq_11, ev.eq_12, ev.eq_13, ev.eq_14, ev.eq_15, ev.eq_16, ev.eq_17, ev.eq_18, ev.eq_19, ev.eq_20, ev.eq_21, ev.eq_22, ev.eq_23, ev.eq_24, ev.eq_25, ev.eq_26, ev.eq_27, ev.eq_28, ev.eq_29, ev.eq_31, ev.eq_32, ev.eq_34, ev.eq_35, ev.eq_36, ev.eq_37, ev.eq_38, ev.eq_39, ev.eq_40, ev.eq_41, evA, evO, evC, evI, vt, tv, bd_ok, bs_ok, bq_nx, bq_rt, pu_ok, re_nx, re_rt, ma_bl, ma_int, ma_str, ma_non, ma_ty, ma_ref, ma_tup, ma_frl, ma_lst, fix_same, getS, Z.evE, Z.evT, Z.vv, tr_bl, b_len, b_isi, b_all, b_any, b_sum, b_str, b_intI, b_intB, b_tup, b_lst, c_eq, c_ne, c_in, c_ni, c_lt, c_gt, c_le, c_is, c_isn, c_isN, c_isnN, c_isI, c_isL, c_isR, o_add, o_sub, q_bl, q_int, q_str, q_NN, a_int, o_div, o_mod, c1, el, c2'])]
        simp [evB, evS.eq_1, evS.eq_2, evS.eq_3, evS.eq_4, evS.eq_5, evS.eq_6, evS.eq_7, evS.eq_10, evS.eq_11, evS.eq_12, evS.eq_14, evS.eq_15, evS.eq_17, ev.eq_1, ev.eq_2, ev.eq_3, ev.eq_4, ev.eq_5, ev.eq_6, ev.eq_7, ev.eq_8, ev.eq_9, ev.eq_10, ev.eq_11, ev.eq_12, ev.eq_13, ev.eq_14, ev.eq_15, ev.eq_16, ev.eq_17, ev.eq_18, ev.eq_19, ev.eq_20, ev.eq_21, ev.eq_22, ev.eq_23, ev.eq_24, ev.eq_25, ev.eq_26, ev.eq_27, ev.eq_28, ev.eq_29, ev.eq_31, ev.eq_32, ev.eq_34, ev.eq_35, ev.eq_36, ev.eq_37, ev.eq_38, ev.eq_39, ev.eq_40, ev.eq_41, evA, evO, evC, evI, vt, tv, bd_ok, bs_ok, bq_nx, bq_rt, pu_ok, re_nx, re_rt, ma_bl, ma_int, ma_str, ma_non, ma_ty, ma_ref, ma_tup, ma_frl, ma_lst, fix_same, getS, Z.evE, Z.evT, Z.vv, tr_bl, b_len, b_isi, b_all, b_any, b_sum, b_str, b_intI, b_intB, b_tup, b_lst, c_eq, c_ne, c_in, c_ni, c_lt, c_gt, c_le, c_is, c_isn, c_isN, c_isnN, c_isI, c_isL, c_isR, o_add, o_sub, q_bl, q_int, q_str, q_NN, a_int, e4, e5, end_get, -evS.eq_5, -ev.eq_16]
    · have c2' : ¬ (l.length : Int) < 4 := by omega
      refine done l (by omega) (by omega) vl (fun m _ => nd_take nd m) ?_
      unfold rest30
      rw [if_n (h1 := h ++ [.lst (l.map D.str)]) (by simp [evB, evS.eq_1, evS.eq_2, evS.eq_3, evS.eq_4, evS.eq_5, evS.eq_6, evS.eq_7, evS.eq_10, evS.eq_11, evS.eq_12, evS.eq_14, evS.eq_15, evS.eq_17, ev.eq_1, ev.eq_2, ev.eq_3, ev.eq_4, ev.eq_5, ev.eq_6, ev.eq_7, ev.eq_8, ev.eq_9, ev.eq_10, ev.eq_11, ev.eq_12, ev.eq_13, ev.eq_14, ev.eq_15, ev.eq_16, ev.eq_17, ev.eq_18, ev.eq_19, ev.eq_20, ev.eq_21, ev.eq_22, ev.eq_23, ev.eq_24, ev.eq_25, ev.eq_26, ev.eq_27, ev.eq_28, ev.eq_29, ev.eq_31, ev.eq_32, ev.eq_34, ev.eq_35, ev.eq_36, ev.eq_37, ev.eq_38, ev.eq_39, ev.eq_40, ev.eq_41, evA, evO, evC, evI, vt, tv, bd_ok, bs_ok, bq_nx, bq_rt, pu_ok, re_nx, re_rt, ma_bl, ma_int, ma_str, ma_non, ma_ty, ma_ref, ma_tup, ma_frl, ma_lst, fix_same, getS, Z.evE, Z.evT, Z.vv, tr_bl, b_len, b_isi, b_all, b_any, b_sum, b_str, b_intI, b_intB, b_tup, b_lst, c_eq, c_ne, c_in, c_ni, c_lt, c_gt, c_le, c_is, c_isn, c_isN, c_isnN, c_isI, c_isL, c_isR, o_add, o_sub, q_bl, q_int, q_str, q_NN, a_int, o_div, o_mod, c1, el, c2'])]
  · refine done l (by omega) (by omega) vl (fun m _ => nd_take nd m) ?_
    unfold rest30
    rw [if_n (h1 := h ++ [.lst (l.map D.str)]) (by simp [evB, evS.eq_1, evS.eq_2, evS.eq_3, evS.eq_4, evS.eq_5, evS.eq_6, evS.eq_7, evS.eq_10, evS.eq_11, evS.eq_12, evS.eq_14, evS.eq_15, evS.eq_17, ev.eq_1, ev.eq_2, ev.eq_3, ev.eq_4, ev.eq_5, ev.eq_6, ev.eq_7, ev.eq_8, ev.eq_9, ev.eq_10, ev.eq_11, ev.eq_12, ev.eq_13, ev.eq_14, ev.eq_15, ev.eq_16, ev.eq_17, ev.eq_18, ev.eq_19, ev.eq_20, ev.eq_21, ev.eq_22, ev.eq_23, ev.eq_24, ev.eq_25, ev.eq_26, ev.eq_27, ev.eq_28, ev.eq_29, ev.eq_31, ev.eq_32, ev.eq_34, ev.eq_35, ev.eq_36, ev.eq_37, ev.eq_38, ev.eq_39, ev.eq_40, ev.eq_41, evA, evO, evC, evI, vt, tv, bd_ok, bs_ok, bq_nx, bq_rt, pu_ok, re_nx, re_rt, ma_bl, ma_int, ma_str, ma_non, ma_ty, ma_ref, ma_tup, ma_frl, ma_lst, fix_same, getS, Z.evE, Z.evT, Z.vv, tr_bl, b_len, b_isi, b_all, b_any, b_sum, b_str, b_intI, b_intB, b_tup, b_lst, c_eq, c_ne, c_in, c_ni, c_lt, c_gt, c_le, c_is, c_isn, c_isN, c_isnN, c_isI, c_isL, c_isR, o_add, o_sub, q_bl, q_int, q_str, q_NN, a_int, o_div, o_mod, c1])]
end
end K3

namespace K3
open PySem L2 Z
/-! ### plain data -/
mutual
inductive Pl : Nat → Nat → D → Prop
  | str {n m : Nat} {x : Str} (a : Asc x) : Pl n (m + 1) (.str x)
  | non {n m : Nat} : Pl n (m + 1) .non
  | tup {n m : Nat} {xs : List D} (h : PlL n m xs) : Pl (n + 1) (m + 1) (.tup xs)
inductive PlL : Nat → Nat → List D → Prop
  | nil {n m : Nat} : PlL n m []
  | cons {n m : Nat} {d : D} {ds : List D} (h : Pl n m d) (t : PlL n m ds) : PlL n (m + 1) (d :: ds)
end
theorem le_ex {a b : Nat} (h : a + 1 ≤ b) : ∃ c, b = c + 1 ∧ a ≤ c := ⟨b - 1, by omega, by omega⟩
mutual
theorem Pl.up : ∀ {n m : Nat} {d : D}, Pl n m d → ∀ {n' m' : Nat}, n ≤ n' → m ≤ m' → Pl n' m' d
  | _, _, _, .str a, n', m', _, b => by obtain ⟨c, rfl, _⟩ := le_ex b; exact .str a
  | _, _, _, .non, n', m', _, b => by obtain ⟨c, rfl, _⟩ := le_ex b; exact .non
  | _, _, _, .tup h, n', m', a, b => by
    obtain ⟨c, rfl, e⟩ := le_ex b
    obtain ⟨c', rfl, e'⟩ := le_ex a
    exact .tup (h.up e' e)
theorem PlL.up : ∀ {n m : Nat} {d : List D}, PlL n m d → ∀ {n' m' : Nat}, n ≤ n' → m ≤ m' → PlL n' m' d
  | _, _, _, .nil, _, _, _, _ => .nil
  | _, _, _, .cons h t, n', m', a, b => by
    obtain ⟨c, rfl, e⟩ := le_ex b
    exact .cons (h.up a e) (t.up a e)
end
theorem PlL.of : ∀ {n m : Nat} {xs : List D}, (∀ x ∈ xs, Pl n m x) → PlL n (m + xs.length) xs
  | _, _, [], _ => .nil
  | n, m, x :: xs, h => .cons ((h x (List.mem_cons_self ..)).up (Nat.le_refl _) (by simp)) (PlL.of fun y z => h y (List.mem_cons_of_mem _ z))
theorem vw_asc : ∀ x ∈ VW, Asc x := by
  have : (VW.all fun x => x.cps.toList.all fun c => decide (c < 128)) = true := by decide +kernel
  intro x m c hc
  exact of_decide_eq_true (List.all_eq_true.mp (List.all_eq_true.mp this x m) c hc)
theorem asc_e : Asc "" := fun c m => by
  have : ("" : Str).cps.toList = [] := by decide +kernel
  rw [this] at m
  cases m
theorem pl_tn {L : List Str} (l4 : L.length ≤ 4) (v : ∀ x ∈ L, x ∈ voc) : Pl 1 6 (tn L) := .tup ((PlL.of (n := 0) (m := 1) (xs := L.map D.str) fun x m => by
  obtain ⟨y, hy, rfl⟩ := List.mem_map.mp m
  exact .str (vw_asc y (voc_vw y (v y hy)))).up (Nat.le_refl _) (by rw [List.length_map]; omega))
theorem pl_vw {x : Str} (m : x ∈ VW) : Pl 0 1 (.str x) := .str (vw_asc x m)
/-! ### nouns -/
def ChainN (ws : List Str) : Nat → List (List Str) → Nat → Prop
  | _, [], _ => False
  | i, [L], j => NounAt ws i L j
  | i, L :: M :: r, j => ∃ m, NounAt ws i L m ∧ pk ws m = "and" ∧ ChainN ws (m + 1) (M :: r) j
theorem ChainN.snoc {ws : List Str} {L : List Str} {m j : Nat} : ∀ {Ls : List (List Str)} {i : Nat}, ChainN ws i Ls m → pk ws m = "and" → NounAt ws (m + 1) L j → ChainN ws i (Ls ++ [L]) j
  | [], _, c, _, _ => c.elim
  | [K], i, c, a, n => ⟨m, c, a, n⟩
  | K :: M :: r, i, ⟨q, c1, c2, c3⟩, a, n => ⟨q, c1, c2, ChainN.snoc c3 a n⟩
theorem ChainN.rest {ws : List Str} {j : Nat} (f : pk ws j ≠ "and") : ∀ {r : List (List Str)} {i k : Nat} {L : List Str}, ChainN ws i (L :: r) j → r.length ≤ k → ∃ m, NounAt ws i L m ∧ RestAt ws m k r j
  | [], i, k, L, c, _ => ⟨j, c, rfl, .inr f⟩
  | M :: r, i, k + 1, L, ⟨q, c1, c2, c3⟩, l => by
    obtain ⟨m, n1, n2⟩ := ChainN.rest f c3 (show r.length ≤ k by simpa using l)
    exact ⟨q, c1, k, m, rfl, c2, n1, n2⟩
structure NounsG (said : List Str) (Ls : List (List Str)) : Prop where
  at_ : ∀ ws i, Seg ws i said → nameB (pk ws (i + said.length)) = false → ChainN ws i Ls (i + said.length)
  vw : ∀ x ∈ said, x ∈ VW
  le : said.length ≤ 6 * Ls.length
  vL : ∀ L ∈ Ls, L.length ≤ 4 ∧ ∀ x ∈ L, x ∈ voc
  h0 : ∀ ws i, Seg ws i said → pk ws i = "the" ∨ pk ws i ∈ voc
theorem NounsG.one {said L : List Str} (g : NounG said L) : NounsG said [L] where
  at_ := fun ws i s f => g.at_ ws i s f
  vw := g.vw
  le := by have := g.le; simp; omega
  vL := fun M m => by rw [List.mem_singleton.mp m]; exact ⟨g.l4, g.vL⟩
  h0 := g.h0
theorem NounsG.snoc {said sb L : List Str} {Ls : List (List Str)} (a : NounsG said Ls) (g : NounG sb L) : NounsG (said ++ ("and" : Str) :: sb) (Ls ++ [L]) where
  at_ := fun ws i s f => by
    have s1 := s.left
    have s2 := s.right
    have e : i + (said ++ ("and" : Str) :: sb).length = i + said.length + 1 + sb.length := by simp; omega
    rw [e] at f ⊢
    have an : pk ws (i + said.length) = "and" := s2.head
    exact (a.at_ ws i s1 (by rw [an]; decide +kernel)).snoc an (g.at_ ws _ s2.tail f)
  vw := fun x m => by
    rcases List.mem_append.mp m with z | z
    · exact a.vw x z
    · rcases List.mem_cons.mp z with rfl | z
      · decide +kernel
      · exact g.vw x z
  le := by have := a.le; have := g.le; simp; omega
  vL := fun M m => by
    rcases List.mem_append.mp m with z | z
    · exact a.vL M z
    · rw [List.mem_singleton.mp z]; exact ⟨g.l4, g.vL⟩
  h0 := fun ws i s => a.h0 ws i s.left
theorem NounsG.nouns {said : List Str} {Ls : List (List Str)} (a : NounsG said Ls) (l3 : Ls.length ≤ 3) {ws : List Str} {i : Nat} (s : Seg ws i said) (f : Fol (pk ws (i + said.length))) : NounsAt ws i Ls (i + said.length) := by
  have c := a.at_ ws i s f.1
  match Ls, c, l3 with
  | [], c, _ => exact c.elim
  | L :: r, c, l3 =>
    obtain ⟨m, n1, n2⟩ := ChainN.rest (k := 2) f.2.1 c (by simpa using l3)
    exact ⟨L, r, m, rfl, n1, n2⟩
section
variable {k : Nat} {h : Hh}
theorem ev_mixed {S : Sl} {es : EL} {a b : Int} (b0 : 0 ≤ b) (b1 : b ≤ 1000000) : ∃ v : Int, 0 ≤ v ∧ v < 998244353 ∧ (evA glob (C (k + 1)) es S h = some (.ok [.int a, .int b], h) → (ev glob (C (k + 1)) (.call "_law_mixed" es)).v S h = some (.ok (.int v), h)) := by
  obtain ⟨v, v0, v1, e⟩ := mixed (k := k) (h := h) (a := a) b0 b1
  exact ⟨v, v0, v1, fun ea => ev_cll ea e fix_same⟩
/-- a maker, called -/
theorem Gives.ev {f : Str} {said : List Str} {d : D} {S : Sl} {es : EL} {ds : List D} (g : Gives h (C k f ds h) said d) (ea : evA glob (C k) es S h = some (.ok ds, h)) : Gives h ((ev glob (C k) (.call f es)).v S h) said d := by
  obtain ⟨n, g0, e1, e2, e3⟩ := g
  refine ⟨n, g0, ev_cll ea e1 (fix_not ?_ (fun _ z => by cases z)), e2, e3⟩
  simp only [clD, clL]
  rw [decide_eq_false (by omega)]
  rfl
def bod31 : SL := (.cons (.set 4 (.call "_law_noun" (.cons false (.call "_law_mixed" (.cons false (.var 0) (.cons false (.var 3) .nil))) .nil)))
    (.cons (.set 1 (.bin .Add (.bin .Add (.var 1) (.bin .Mult (.lst (.cons false (.str "and") .nil)) (.bl1 .int (.cmp .Gt (.var 3) (.int 0))))) (.ix (.var 4) (.int 0))))
    (.cons (.ex (.meth (.var 2) .append (.cons false (.ix (.var 4) (.int 1)) .nil)))
    .nil)))
/-- xs.append(e) -/
theorem ev_app {Φ : CallF} {S : Sl} {i f : Nat} {e : E} {d : D} {hh h2 : Hh} {xs : List D} (s : getS S i = some (.ref f)) (e0 : hh[f]? = some (.lst xs)) (ea : (ev glob Φ e).v S hh = some (.ok d, h2)) (n : ∀ xs, d ≠ .lst xs) (e2 : h2[f]? = some (.lst xs)) (l : xs.length ≤ 1000) :
    (ev glob Φ (.meth (.var i) .append (.cons false e .nil))).v S hh = some (.ok .non, h2.set f (.lst (xs ++ [d]))) := by
  have e5 := evAc (es := .nil) ea n evAn
  have e3 := apd (d := d) e2 l
  have e6 : (Z.vv ((ev glob Φ (.var i)).v)) S hh = some (.ok (.ref f), hh) := by simp only [Z.vv, ev_v s, bd_ok, ma_ref]
  rw [ev.eq_26]
  simp only [vt, e6, bd_ok, e0, e5, e3]
theorem ix_tup0 {hh : Hh} {a b : D} : ixD hh (.tup [a, b]) (.int 0) = some a := rfl
theorem ix_tup1 {hh : Hh} {a b : D} : ixD hh (.tup [a, b]) (.int 1) = some b := rfl
/-- a list of texts -/
def IsL (hh : Hh) (n : Nat) (l : List Str) : Prop := hh[n]? = some (.lst (l.map D.str))
theorem IsL.ml {hh : Hh} {n : Nat} {l : List Str} (e : IsL hh n l) : mlD hh (.ref n) = some (l.map D.str) := by
  unfold IsL at e
  simp only [mlD, e]
theorem IsL.app {hh : Hh} {n : Nat} {l : List Str} (e : IsL hh n l) (g : Hh) : IsL (hh ++ g) n l := by
  unfold IsL at *
  rw [List.getElem?_append_left (List.getElem?_eq_some_iff.mp e).1]
  exact e
def opt (c : Bool) (x : Str) : List Str := if c then [x] else []
theorem opt_le {c : Bool} {x : Str} : (opt c x).length ≤ 1 := by unfold opt; split <;> simp
theorem rep01 {x : Str} {c : Bool} {hh : Hh} : binD hh .Mult (.lst [.str x]) (.int (if c then 1 else 0)) = some (.lst ((opt c x).map D.str)) := by
  have := o_rep (h := hh) (x := .lst [.str x]) (xs := [.str x]) (k := if c then 1 else 0) rfl (by cases c <;> simp) (by cases c <;> simp)
  cases c with
  | true => exact this
  | false => exact this
theorem turn31 {x j : Int} {s t : Nat} {b c : Option D} {hh : Hh} {said : List Str} {Ls : List (List Str)} (j0 : 0 ≤ j) (j1 : j < 100) (es : IsL hh s said) (et : hh[t]? = some (.lst (Ls.map tn))) (sl : said.length ≤ 200) (ll : Ls.length ≤ 100) :
    ∃ sb L n g d, NounG sb L ∧ evB glob (C (k + 3)) bod31 [some (.int x), some (.ref s), some (.ref t), some (.int j), b] hh =
      some (.nx [some (.int x), some (.ref n), some (.ref t), some (.int j), d], (hh ++ g).set t (.lst ((Ls ++ [L]).map tn))) ∧ hh.length ≤ n ∧ IsL (hh ++ g) n (said ++ opt (decide (0 < j)) "and" ++ sb) := by
  obtain ⟨v, v0, v1, ev1⟩ := ev_mixed (k := k + 2) (h := hh) (S := [some (.int x), some (.ref s), some (.ref t), some (.int j), b]) (es := .cons false (.var 0) (.cons false (.var 3) .nil)) (a := x) (b := j) j0 (by omega)
  have e1 := ev1 (evAc (ev_v rfl) (fun _ z => by cases z) (evAc (ev_v rfl) (fun _ z => by cases z) evAn))
  obtain ⟨sb, L, G, gv⟩ := mkNoun (k := k + 1) (h := hh) (x := v)
  obtain ⟨n, g, e2, e3, e4⟩ := gv.ev (S := [some (.int x), some (.ref s), some (.ref t), some (.int j), b]) (evAc e1 (fun _ z => by cases z) evAn)
  have lt : t < hh.length := (List.getElem?_eq_some_iff.mp et).1
  have lsb := G.le
  refine ⟨sb, L, (hh ++ g).length, g ++ [.lst ((said ++ opt (decide (0 < j)) "and" ++ sb).map D.str)], some (.tup [.ref n, tn L]), G, ?_, by simp, ?_⟩
  · unfold bod31
    rw [set_v e2 (fun _ z => by cases z)]
    simp only [List.set]
    have b1 : (ev glob (C (k + 3)) (.bl1 .int (.cmp .Gt (.var 3) (.int 0)))).v [some (.int x), some (.ref s), some (.ref t), some (.int j), some (.tup [.ref n, tn L])] (hh ++ g) = some (.ok (.int (if decide (0 < j) then 1 else 0)), hh ++ g) := by
      simp [evB, evS.eq_1, evS.eq_2, evS.eq_3, evS.eq_4, evS.eq_5, evS.eq_6, evS.eq_7, evS.eq_10, evS.eq_11, evS.eq_12, evS.eq_14, evS.eq_15, evS.eq_17, ev.eq_1, ev.eq_2, ev.eq_3, ev.eq_4, ev.eq_5, ev.eq_6, ev.eq_7, ev.eq_8, ev.eq_9, ev.eq_10, ev.eq_11, ev.eq_12, ev.eq_13, ev.eq_14, ev.eq_15, ev.eq_16, ev.eq_17, ev.eq_18, ev.eq_19, ev.eq_20, ev.eq_21, ev.eq_22, ev.eq_23, ev.eq_24, ev.eq_25, ev.eq_26, ev.eq_27, ev.eq_28, ev.eq_29, ev.eq_31, ev.eq_32, ev.eq_34, ev.eq_35, ev.eq_36, ev.eq_37, ev.eq_38, ev.eq_39, ev.eq_40, ev.eq_41, evA, evO, evC, evI, vt, tv, bd_ok, bs_ok, bq_nx, bq_rt, pu_ok, re_nx, re_rt, ma_bl, ma_int, ma_str, ma_non, ma_ty, ma_ref, ma_tup, ma_frl, ma_lst, fix_same, getS, Z.evE, Z.evT, Z.vv, tr_bl, b_len, b_isi, b_all, b_any, b_sum, b_str, b_intI, b_intB, b_tup, b_lst, c_eq, c_ne, c_in, c_ni, c_lt, c_gt, c_le, c_is, c_isn, c_isN, c_isnN, c_isI, c_isL, c_isR, o_add, o_sub, q_bl, q_int, q_str, q_NN, a_int]
    have b2 : binD (hh ++ g) .Add (.ref s) (.lst ((opt (decide (0 < j)) "and").map D.str)) = some (.lst ((said ++ opt (decide (0 < j)) "and").map D.str)) := by
      have := opt_le (c := decide (0 < j)) (x := "and")
      rw [o_lst (es.app g).ml rfl (by rw [List.length_map, List.length_map]; omega), List.map_append]
    have b3 : binD (hh ++ g) .Add (.lst ((said ++ opt (decide (0 < j)) "and").map D.str)) (.ref n) = some (.lst ((said ++ opt (decide (0 < j)) "and" ++ sb).map D.str)) := by
      have := opt_le (c := decide (0 < j)) (x := "and")
      rw [o_lst rfl (IsL.ml e4) (by rw [List.length_map, List.length_map, List.length_append]; omega), ← List.map_append]
    have c1 := ev_bin (ev_bin (ev_v (S := [some (.int x), some (.ref s), some (.ref t), some (.int j), some (.tup [.ref n, tn L])]) (i := 1) (h := hh ++ g) rfl) (ev_bin (ev_lst (evAc ev_s nls evAn) s1) b1 rep01) b2) (ev_ix (ev_v (i := 4) rfl) ev_i ix_tup0) b3
    rw [set_l c1]
    simp only [List.set]
    have e5 : (hh ++ g ++ [.lst ((said ++ opt (decide (0 < j)) "and" ++ sb).map D.str)])[t]? = some (.lst (Ls.map tn)) := by
      rw [List.append_assoc, List.getElem?_append_left lt]
      exact et
    rw [ex_v (ev_app (Φ := C (k + 3)) (S := [some (.int x), some (.ref (hh ++ g).length), some (.ref t), some (.int j), some (.tup [.ref n, tn L])]) (i := 2) rfl e5 (ev_ix (ev_v (i := 4) rfl) ev_i ix_tup1) (fun _ z => by cases z) e5 (by rw [List.length_map]; omega))]
    rw [show Ls.map tn ++ [tn L] = (Ls ++ [L]).map tn by simp, List.append_assoc]
    simp only [evB]
  · rw [← List.append_assoc]
    exact end_get
theorem mkNouns {x : Int} : ∃ said Ls, NounsG said Ls ∧ Ls.length ≤ 3 ∧ Gives h (C (k + 4) "_law_nouns" [.int x] h) said (.tup (Ls.map tn)) := by
  have m0 : 0 ≤ x % 3 := Int.emod_nonneg _ (by decide)
  have m1 : x % 3 < 3 := Int.emod_lt_of_pos _ (by decide)
  obtain ⟨S', h', ef, s, b, c, said, Ls, g, rfl, rfl, is, it, l1, l2, l3, lse⟩ := foGo_inv (st := []) (t := .nm 3) (b := evB glob (C (k + 3)) bod31) (fun i S hh => ∃ s b c said Ls g, S = [some (.int x), some (.ref s), some (.ref (h.length + 1)), b, c] ∧ hh = h ++ g ∧ IsL hh s said ∧ hh[h.length + 1]? = some (.lst (Ls.map tn)) ∧ h.length ≤ s ∧ s ≠ h.length + 1 ∧
      Ls.length = i ∧ (if i = 0 then said = [] else NounsG said Ls ∧ i ≤ 3)) (fun _ _ _ _ => trivial)
    (rngItems 0 (1 + x % 3).toNat) 0 [some (.int x), some (.ref h.length), some (.ref (h.length + 1)), none, none] (h ++ [.lst [], .lst []]) (by
      rintro j y S hh hj ⟨s, b, c, said, Ls, g, rfl, rfl, is, it, l1, l2, l3, lse⟩
      have hj2 : j < (rngItems 0 (1 + x % 3).toNat).length := (List.getElem?_eq_some_iff.mp hj).1
      have hj3 : j < (1 + x % 3).toNat := by simpa [rngItems] using hj2
      have hy : y = .int (0 + (j : Nat)) := by
        unfold rngItems at hj
        rw [List.getElem?_map, List.getElem?_range hj3] at hj
        exact (Option.some.inj hj).symm
      subst hy
      rw [Nat.zero_add] at *
      have sl : said.length ≤ 200 := by
        by_cases z : j = 0
        · rw [if_pos z] at lse; rw [lse]; simp
        · rw [if_neg z] at lse; have := lse.1.le; omega
      obtain ⟨sb, L, n, g', d, G, e1, e2, e3⟩ := turn31 (k := k) (x := x) (j := 0 + (j : Nat)) (b := c) (c := c) (by omega) (by omega) is it sl (by omega)
      have lt : h.length + 1 < (h ++ g).length := (List.getElem?_eq_some_iff.mp it).1
      have nt : h.length + 1 ≠ n := by omega
      refine ⟨_, _, _, rfl, e1, n, some (.int (0 + (j : Nat))), d, said ++ opt (decide ((0 : Int) < 0 + (j : Nat))) "and" ++ sb, Ls ++ [L], (g ++ g').set 1 (.lst ((Ls ++ [L]).map tn)), rfl, ?_, ?_, ?_, by rw [List.length_append] at e2; omega, Ne.symm nt, by simp [l3], ?_⟩
      · rw [List.append_assoc, List.set_append_right _ _ (by omega), Nat.add_sub_cancel_left]
      · unfold IsL
        rw [List.getElem?_set_ne nt]
        exact e3
      · rw [List.getElem?_set_self (by rw [List.length_append]; omega)]
      · rw [if_neg (by omega)]
        by_cases z : j = 0
        · subst z
          rw [if_pos rfl] at lse
          subst lse
          have : Ls = [] := List.length_eq_zero_iff.mp l3
          subst this
          rw [decide_eq_false (show ¬ (0 : Int) < 0 + ((0 : Nat) : Int) by omega)]
          exact ⟨NounsG.one G, by omega⟩
        · rw [if_neg z] at lse
          rw [decide_eq_true (show (0 : Int) < 0 + (j : Nat) by omega), List.append_assoc]
          exact ⟨lse.1.snoc G, by omega⟩) ⟨h.length, none, none, [], [], [.lst [], .lst []], rfl, rfl, by unfold IsL; rw [List.getElem?_append_right (Nat.le_refl _), Nat.sub_self]; rfl, by rw [List.getElem?_append_right (by omega), Nat.add_sub_cancel_left]; rfl, Nat.le_refl _, by omega, rfl, by simp⟩
  have lr : (rngItems 0 (1 + x % 3).toNat).length = (1 + x % 3).toNat := by simp [rngItems]
  rw [lr] at l3 lse
  rw [if_neg (by omega)] at lse
  have c2 : -4611686018427387904 ≤ 1 + x % 3 ∧ 1 + x % 3 < 4611686018427387904 := ⟨by omega, by omega⟩
  have efo := ev_fo (Φ := C (k + 3)) (it := .r1 (.bin .Add (.int 1) (.bin .Mod (.var 0) (.int 3)))) (S := [some (.int x), some (.ref h.length), some (.ref (h.length + 1)), none, none]) (h := h ++ [.lst [], .lst []]) (st := []) (by
    simp [evB, evS.eq_1, evS.eq_2, evS.eq_3, evS.eq_4, evS.eq_5, evS.eq_6, evS.eq_7, evS.eq_10, evS.eq_11, evS.eq_12, evS.eq_14, evS.eq_15, evS.eq_17, ev.eq_1, ev.eq_2, ev.eq_3, ev.eq_4, ev.eq_5, ev.eq_6, ev.eq_7, ev.eq_8, ev.eq_9, ev.eq_10, ev.eq_11, ev.eq_12, ev.eq_13, ev.eq_14, ev.eq_15, ev.eq_16, ev.eq_17, ev.eq_18, ev.eq_19, ev.eq_20, ev.eq_21, ev.eq_22, ev.eq_23, ev.eq_24, ev.eq_25, ev.eq_26, ev.eq_27, ev.eq_28, ev.eq_29, ev.eq_31, ev.eq_32, ev.eq_34, ev.eq_35, ev.eq_36, ev.eq_37, ev.eq_38, ev.eq_39, ev.eq_40, ev.eq_41, evA, evO, evC, evI, vt, tv, bd_ok, bs_ok, bq_nx, bq_rt, pu_ok, re_nx, re_rt, ma_bl, ma_int, ma_str, ma_non, ma_ty, ma_ref, ma_tup, ma_frl, ma_lst, fix_same, getS, Z.evE, Z.evT, Z.vv, tr_bl, b_len, b_isi, b_all, b_any, b_sum, b_str, b_intI, b_intB, b_tup, b_lst, c_eq, c_ne, c_in, c_ni, c_lt, c_gt, c_le, c_is, c_isn, c_isN, c_isnN, c_isI, c_isL, c_isR, o_add, o_sub, q_bl, q_int, q_str, q_NN, a_int, o_mod, c2]) ef
  refine ⟨said, Ls, lse.1, by omega, s, g, ?_, l1, is⟩
  have l0 : ∀ S hh, (ev glob (C (k + 3)) (.lst .nil)).v S hh = some (.ok (.lst []), hh) := fun S hh => ev_lst evAn (by decide)
  rw [call_eq t31 rfl]
  have hb : b31 = (.cons (.set 1 (.lst .nil)) (.cons (.set 2 (.lst .nil)) (.cons (.fo (.nm 3) (.r1 (.bin .Add (.int 1) (.bin .Mod (.var 0) (.int 3)))) bod31) (.cons (.ret (.tup (.cons false (.var 1) (.cons false (.bl1 .tuple (.var 2)) .nil)))) .nil)))) := rfl
  show retOf (evB glob (C (k + 3)) b31 [some (.int x), none, none, none, none] h) = _
  rw [hb, set_l (l0 _ _)]
  simp only [List.set]
  rw [set_l (l0 _ _)]
  simp only [List.set, List.length_append, List.length_cons, List.length_nil, List.append_assoc, List.singleton_append, Nat.zero_add]
  rw [st_v efo]
  have a2 : (ev glob (C (k + 3)) (.bl1 .tuple (.var 2))).v [some (.int x), some (.ref s), some (.ref (h.length + 1)), b, c] (h ++ g) = some (.ok (.tup (Ls.map tn)), h ++ g) := by
    have : tupD (h ++ g) [.ref (h.length + 1)] = some (.tup (Ls.map tn)) := by simp only [tupD, sqD, lsD, it, Option.map_some]
    simp [evB, evS.eq_1, evS.eq_2, evS.eq_3, evS.eq_4, evS.eq_5, evS.eq_6, evS.eq_7, evS.eq_10, evS.eq_11, evS.eq_12, evS.eq_14, evS.eq_15, evS.eq_17, ev.eq_1, ev.eq_2, ev.eq_3, ev.eq_4, ev.eq_5, ev.eq_6, ev.eq_7, ev.eq_8, ev.eq_9, ev.eq_10, ev.eq_11, ev.eq_12, ev.eq_13, ev.eq_14, ev.eq_15, ev.eq_16, ev.eq_17, ev.eq_18, ev.eq_19, ev.eq_20, ev.eq_21, ev.eq_22, ev.eq_23, ev.eq_24, ev.eq_25, ev.eq_26, ev.eq_27, ev.eq_28, ev.eq_29, ev.eq_31, ev.eq_32, ev.eq_34, ev.eq_35, ev.eq_36, ev.eq_37, ev.eq_38, ev.eq_39, ev.eq_40, ev.eq_41, evA, evO, evC, evI, vt, tv, bd_ok, bs_ok, bq_nx, bq_rt, pu_ok, re_nx, re_rt, ma_bl, ma_int, ma_str, ma_non, ma_ty, ma_ref, ma_tup, ma_frl, ma_lst, fix_same, getS, Z.evE, Z.evT, Z.vv, tr_bl, b_len, b_isi, b_all, b_any, b_sum, b_str, b_intI, b_intB, b_tup, b_lst, c_eq, c_ne, c_in, c_ni, c_lt, c_gt, c_le, c_is, c_isn, c_isN, c_isnN, c_isI, c_isL, c_isR, o_add, o_sub, q_bl, q_int, q_str, q_NN, a_int, this]
  rw [ret_v (ev_tup (evAc (ev_v rfl) (fun _ z => by cases z) (evAc a2 (fun _ z => by cases z) evAn)) s2)]
  rfl
end
end K3

namespace K3
open PySem L2 Z
structure PhraseG (said : List Str) (d : D) : Prop where
  at_ : ∀ ws i, Seg ws i said → Fol (pk ws (i + said.length)) → PhraseAt ws i d (i + said.length)
  vw : ∀ x ∈ said, x ∈ VW
  le : said.length ≤ 20
  pl : Pl 3 14 d
theorem Seg.end1 {ws : List Str} {i : Nat} {x : Str} (s : Seg ws i [x]) : pk ws i = x := s.head
theorem pl_nouns {said : List Str} {Ls : List (List Str)} (a : NounsG said Ls) (l3 : Ls.length ≤ 3) : Pl 2 10 (.tup (Ls.map tn)) := .tup ((PlL.of (n := 1) (m := 6) fun x m => by
  obtain ⟨L, hL, rfl⟩ := List.mem_map.mp m
  exact pl_tn (a.vL L hL).1 (a.vL L hL).2).up (Nat.le_refl _) (by rw [List.length_map]; omega))
theorem phPron {x : Str} (m : x = "it" ∨ x = "them") : PhraseG [x] (.tup [.str x]) where
  at_ := fun ws i s f => by
    have := s.end1
    have q := PhraseAt.pron (ws := ws) (i := i) (by rw [this]; exact m)
    rw [this] at q
    exact q
  vw := fun y z => by rw [List.mem_singleton.mp z]; rcases m with rfl | rfl <;> decide +kernel
  le := by simp
  pl := .tup (.cons ((pl_vw (by rcases m with rfl | rfl <;> decide +kernel)).up (Nat.zero_le _) (by omega : 1 ≤ 12)) .nil)
theorem phAll : PhraseG ["all"] (.tup [.str "all", .tup []]) where
  at_ := fun ws i s f => .all s.end1 f.2.2
  vw := fun y z => by rw [List.mem_singleton.mp z]; decide +kernel
  le := by simp
  pl := .tup (.cons ((pl_vw (by decide +kernel)).up (Nat.zero_le _) (by omega : 1 ≤ 12)) (.cons (.tup .nil) .nil))
theorem phBut {said : List Str} {Ls : List (List Str)} (a : NounsG said Ls) (l3 : Ls.length ≤ 3) : PhraseG ("all" :: "but" :: said) (.tup [.str "all", .tup (Ls.map tn)]) where
  at_ := fun ws i s f => by
    have e : i + (("all" : Str) :: "but" :: said).length = i + 2 + said.length := by simp; omega
    rw [e] at f ⊢
    exact .but s.head s.tail.head (a.nouns l3 s.tail.tail f)
  vw := fun y z => by
    rcases List.mem_cons.mp z with rfl | z
    · decide +kernel
    · rcases List.mem_cons.mp z with rfl | z
      · decide +kernel
      · exact a.vw y z
  le := by have := a.le; simp; omega
  pl := .tup (.cons ((pl_vw (by decide +kernel)).up (Nat.zero_le _) (by omega : 1 ≤ 12)) (.cons ((pl_nouns a l3).up (Nat.le_refl _) (by omega : 10 ≤ 11)) .nil))
theorem phSome {said : List Str} {Ls : List (List Str)} (a : NounsG said Ls) (l3 : Ls.length ≤ 3) : PhraseG said (.tup [.str "some", .tup (Ls.map tn)]) where
  at_ := fun ws i s f => by
    have key : ∀ x : Str, x = "the" ∨ x ∈ voc → x ≠ "it" ∧ x ≠ "them" ∧ x ≠ "all" := by
      rintro x (rfl | m)
      · decide +kernel
      · exact (by decide +kernel : ∀ x ∈ voc, x ≠ ("it" : Str) ∧ x ≠ "them" ∧ x ≠ "all") x m
    obtain ⟨n1, n2, n3⟩ := key _ (a.h0 ws i s)
    exact .some n1 n2 n3 (a.nouns l3 s f)
  vw := a.vw
  le := by have := a.le; omega
  pl := .tup (.cons (.str (by
    have : (("some" : Str).cps.toList.all fun c => decide (c < 128)) = true := by decide +kernel
    exact fun c m => of_decide_eq_true (List.all_eq_true.mp this c m))) (.cons ((pl_nouns a l3).up (Nat.le_refl _) (by omega : 10 ≤ 11)) .nil))
section
variable {k : Nat} {h : Hh}
theorem ev_var {Φ : CallF} {S : Sl} {i : Nat} {x : D} {hh : Hh} (s : getS S i = some x) : (ev glob Φ (.var i)).v S hh = some (.ok x, hh) := ev_v s
theorem nlr {n : Nat} : ∀ xs, D.ref n ≠ .lst xs := fun _ z => by cases z
theorem nli {n : Int} : ∀ xs, D.int n ≠ .lst xs := fun _ z => by cases z
theorem ma_e (d : D) : ∀ {hh : Hh}, (∀ xs, d ≠ .lst xs) → mat d hh = some (.ok d, hh) := fun n => mat_ok n
theorem o_modp {hh : Hh} {i j : Int} (c : 0 < j) : binD hh .Mod (.int i) (.int j) = some (.int (i % j)) := if_pos c
theorem o_divp {hh : Hh} {i j : Int} (c : 0 < j ∧ j < 1073741824) : binD hh .FloorDiv (.int i) (.int j) = some (.int (i / j)) := if_pos c
theorem mkPhrase {x : Int} : ∃ said d, PhraseG said d ∧ Gives h (C (k + 5) "_law_phrase" [.int x] h) said d := by
  have m0 : 0 ≤ x % 7 := Int.emod_nonneg _ (by decide)
  have m1 : x % 7 < 7 := Int.emod_lt_of_pos _ (by decide)
  have e1 : (ev glob (C (k + 4)) (.bin .Mod (.var 0) (.int 7))).v [some (.int x), none, none, none] h = some (.ok (.int (x % 7)), h) := ev_bin (ev_v rfl) ev_i (o_modp (by decide))
  have t1 : ∀ a b, (ev glob (C (k + 4)) (.cmp .Lt (.var 1) (.int 2))).t [some (.int x), some (.int (x % 7)), a, b] h = some (.ok (decide (x % 7 < 2)), h) := fun a b => by simp [evB, evS.eq_1, evS.eq_2, evS.eq_3, evS.eq_4, evS.eq_5, evS.eq_6, evS.eq_7, evS.eq_10, evS.eq_11, evS.eq_12, evS.eq_14, evS.eq_15, evS.eq_17, ev.eq_1, ev.eq_2, ev.eq_3, ev.eq_4, ev.eq_5, ev.eq_6, ev.eq_7, ev.eq_8, ev.eq_9, ev.eq_10, ev.eq_11, ev.eq_12, ev.eq_13, ev.eq_14, ev.eq_15, ev.eq_16, ev.eq_17, ev.eq_18, ev.eq_19, ev.eq_20, ev.eq_21, ev.eq_22, ev.eq_23, ev.eq_24, ev.eq_25, ev.eq_26, ev.eq_27, ev.eq_28, ev.eq_29, ev.eq_31, ev.eq_32, ev.eq_34, ev.eq_35, ev.eq_36, ev.eq_37, ev.eq_38, ev.eq_39, ev.eq_40, ev.eq_41, evA, evO, evC, evI, vt, tv, bd_ok, bs_ok, bq_nx, bq_rt, pu_ok, re_nx, re_rt, ma_bl, ma_int, ma_str, ma_non, ma_ty, ma_ref, ma_tup, ma_frl, ma_lst, fix_same, getS, Z.evE, Z.evT, Z.vv, tr_bl, b_len, b_isi, b_all, b_any, b_sum, b_str, b_intI, b_intB, b_tup, b_lst, c_eq, c_ne, c_in, c_ni, c_lt, c_gt, c_le, c_is, c_isn, c_isN, c_isnN, c_isI, c_isL, c_isR, o_add, o_sub, q_bl, q_int, q_str, q_NN, a_int]
  have t2 : ∀ a b, (ev glob (C (k + 4)) (.cmp .Eq (.var 1) (.int 2))).t [some (.int x), some (.int (x % 7)), a, b] h = some (.ok (decide (x % 7 = 2)), h) := fun a b => by simp [evB, evS.eq_1, evS.eq_2, evS.eq_3, evS.eq_4, evS.eq_5, evS.eq_6, evS.eq_7, evS.eq_10, evS.eq_11, evS.eq_12, evS.eq_14, evS.eq_15, evS.eq_17, ev.eq_1, ev.eq_2, ev.eq_3, ev.eq_4, ev.eq_5, ev.eq_6, ev.eq_7, ev.eq_8, ev.eq_9, ev.eq_10, ev.eq_11, ev.eq_12, ev.eq_13, ev.eq_14, ev.eq_15, ev.eq_16, ev.eq_17, ev.eq_18, ev.eq_19, ev.eq_20, ev.eq_21, ev.eq_22, ev.eq_23, ev.eq_24, ev.eq_25, ev.eq_26, ev.eq_27, ev.eq_28, ev.eq_29, ev.eq_31, ev.eq_32, ev.eq_34, ev.eq_35, ev.eq_36, ev.eq_37, ev.eq_38, ev.eq_39, ev.eq_40, ev.eq_41, evA, evO, evC, evI, vt, tv, bd_ok, bs_ok, bq_nx, bq_rt, pu_ok, re_nx, re_rt, ma_bl, ma_int, ma_str, ma_non, ma_ty, ma_ref, ma_tup, ma_frl, ma_lst, fix_same, getS, Z.evE, Z.evT, Z.vv, tr_bl, b_len, b_isi, b_all, b_any, b_sum, b_str, b_intI, b_intB, b_tup, b_lst, c_eq, c_ne, c_in, c_ni, c_lt, c_gt, c_le, c_is, c_isn, c_isN, c_isnN, c_isI, c_isL, c_isR, o_add, o_sub, q_bl, q_int, q_str, q_NN, a_int]
  have t3 : ∀ a b hh, (ev glob (C (k + 4)) (.cmp .Eq (.var 1) (.int 3))).t [some (.int x), some (.int (x % 7)), a, b] hh = some (.ok (decide (x % 7 = 3)), hh) := fun a b hh => by simp [evB, evS.eq_1, evS.eq_2, evS.eq_3, evS.eq_4, evS.eq_5, evS.eq_6, evS.eq_7, evS.eq_10, evS.eq_11, evS.eq_12, evS.eq_14, evS.eq_15, evS.eq_17, ev.eq_1, ev.eq_2, ev.eq_3, ev.eq_4, ev.eq_5, ev.eq_6, ev.eq_7, ev.eq_8, ev.eq_9, ev.eq_10, ev.eq_11, ev.eq_12, ev.eq_13, ev.eq_14, ev.eq_15, ev.eq_16, ev.eq_17, ev.eq_18, ev.eq_19, ev.eq_20, ev.eq_21, ev.eq_22, ev.eq_23, ev.eq_24, ev.eq_25, ev.eq_26, ev.eq_27, ev.eq_28, ev.eq_29, ev.eq_31, ev.eq_32, ev.eq_34, ev.eq_35, ev.eq_36, ev.eq_37, ev.eq_38, ev.eq_39, ev.eq_40, ev.eq_41, evA, evO, evC, evI, vt, tv, bd_ok, bs_ok, bq_nx, bq_rt, pu_ok, re_nx, re_rt, ma_bl, ma_int, ma_str, ma_non, ma_ty, ma_ref, ma_tup, ma_frl, ma_lst, fix_same, getS, Z.evE, Z.evT, Z.vv, tr_bl, b_len, b_isi, b_all, b_any, b_sum, b_str, b_intI, b_intB, b_tup, b_lst, c_eq, c_ne, c_in, c_ni, c_lt, c_gt, c_le, c_is, c_isn, c_isN, c_isnN, c_isI, c_isL, c_isR, o_add, o_sub, q_bl, q_int, q_str, q_NN, a_int]
  rw [call_eq t32 rfl]
  show ∃ said d, _ ∧ Gives h (retOf (evB glob (C (k + 4)) b32 [some (.int x), none, none, none] h)) said d
  unfold b32
  rw [set_v e1 nli]
  simp only [List.set]
  by_cases c1 : x % 7 < 2
  · rw [if_y ((t1 _ _).trans (by rw [decide_eq_true c1]))]
    have L1 : ∀ hh, (ev glob (C (k + 4)) (.lst (.cons false (.lst (.cons false (.str "it") .nil)) (.cons false (.lst (.cons false (.str "them") .nil)) .nil)))).v [some (.int x), some (.int (x % 7)), none, none] hh = some (.ok (.lst [.ref hh.length, .ref (hh.length + 1)]), hh ++ [.lst [.str "it"], .lst [.str "them"]]) := fun hh => by
      have := evAl (Φ := C (k + 4)) (S := [some (.int x), some (.int (x % 7)), none, none]) (h := hh) (ev_lst (evAc (ev_s (x := "it")) nls evAn) s1) (evAl (ev_lst (evAc (ev_s (x := "them")) nls evAn) s1) evAn)
      rw [List.length_append, List.append_assoc] at this
      exact ev_lst this s2
    have L2 : ∀ hh, (ev glob (C (k + 4)) (.lst (.cons false (.tup (.cons false (.str "it") .nil)) (.cons false (.tup (.cons false (.str "them") .nil)) .nil)))).v [some (.int x), some (.int (x % 7)), none, none] hh = some (.ok (.lst [.tup [.str "it"], .tup [.str "them"]]), hh) := fun hh =>
      ev_lst (evAc (ev_tup (evAc ev_s nls evAn) s1) nlt (evAc (ev_tup (evAc ev_s nls evAn) s1) nlt evAn)) s2
    have fin : ∀ (q : Sl → Hh → BM) (n : Nat) (w : Str), (w = "it" ∨ w = "them") → (∀ hh, ixD hh (.lst [.ref h.length, .ref (h.length + 1)]) (.int (x % 7)) = some (.ref n)) → (∀ hh, ixD hh (.lst [.tup [.str "it"], .tup [.str "them"]]) (.int (x % 7)) = some (.tup [.str w])) → h.length ≤ n → (h ++ [.lst [.str "it"], .lst [.str "them"]])[n]? = some (.lst [.str w]) →
        ∃ said d, PhraseG said d ∧ Gives h (retOf (bq (evB glob (C (k + 4)) (.cons (.ret (.tup (.cons false (.ix (.lst (.cons false (.lst (.cons false (.str "it") .nil)) (.cons false (.lst (.cons false (.str "them") .nil)) .nil))) (.var 1)) (.cons false (.ix (.lst (.cons false (.tup (.cons false (.str "it") .nil)) (.cons false (.tup (.cons false (.str "them") .nil)) .nil))) (.var 1)) .nil)))) .nil) [some (.int x), some (.int (x % 7)), none, none] h) q)) said d := fun q n w hw i1 i2 ln en =>
      ⟨[w], .tup [.str w], phPron hw, n, [.lst [.str "it"], .lst [.str "them"]], by
        rw [ret_v (ev_tup (evAc (ev_ix (L1 h) (ev_v rfl) (i1 _)) nlr (evAc (ev_ix (L2 _) (ev_v rfl) (i2 _)) nlt evAn)) s2)]
        rfl, ln, en⟩
    have : x % 7 = 0 ∨ x % 7 = 1 := by omega
    rcases this with z | z
    · exact fin _ h.length "it" (.inl rfl) (fun hh => by rw [z]; rfl) (fun hh => by rw [z]; rfl) (Nat.le_refl _) (by rw [List.getElem?_append_right (Nat.le_refl _), Nat.sub_self]; rfl)
    · exact fin _ (h.length + 1) "them" (.inr rfl) (fun hh => by rw [z]; rfl) (fun hh => by rw [z]; rfl) (by omega) (by rw [List.getElem?_append_right (by omega), Nat.add_sub_cancel_left]; rfl)
  · rw [if_n ((t1 _ _).trans (by rw [decide_eq_false c1]))]
    by_cases c2 : x % 7 = 2
    · rw [if_y ((t2 _ _).trans (by rw [decide_eq_true c2]))]
      refine ⟨["all"], _, phAll, h.length, [.lst [.str "all"]], ?_, Nat.le_refl _, end_get⟩
      rw [ret_v (ev_tup (evAl (ev_lst (evAc (ev_s (x := "all")) nls evAn) s1) (evAc (ev_tup (evAc (ev_s (x := "all")) nls (evAc (ev_tup evAn s0) nlt evAn)) s2) nlt evAn)) s2)]
      rfl
    · rw [if_n ((t2 _ _).trans (by rw [decide_eq_false c2]))]
      obtain ⟨said, Ls, G, l3, gv⟩ := mkNouns (k := k) (h := h) (x := x / 7)
      obtain ⟨n, g, e2, ln, en⟩ := gv.ev (S := [some (.int x), some (.int (x % 7)), none, none]) (es := .cons false (.bin .FloorDiv (.var 0) (.int 7)) .nil) (evAc (ev_bin (ev_v rfl) ev_i (o_divp (by decide))) nli evAn)
      rw [asg2 e2]
      simp only [List.set]
      by_cases c3 : x % 7 = 3
      · rw [if_y ((t3 _ _ _).trans (by rw [decide_eq_true c3]))]
        have b1 : binD (h ++ g) .Add (.lst [.str "all", .str "but"]) (.ref n) = some (.lst ((("all" : Str) :: "but" :: said).map D.str)) := by
          have := G.le
          rw [o_lst (xs := [.str "all", .str "but"]) rfl (IsL.ml en) (by simp; omega)]
          rfl
        refine ⟨_, _, phBut G l3, (h ++ g).length, g ++ [.lst ((("all" : Str) :: "but" :: said).map D.str)], ?_, by simp, by rw [← List.append_assoc]; exact end_get⟩
        rw [ret_v (ev_tup (evAl (ev_bin (ev_lst (evAc (ev_s (x := "all")) nls (evAc (ev_s (x := "but")) nls evAn)) s2) (ev_v (i := 2) rfl) b1) (evAc (ev_tup (evAc (ev_s (x := "all")) nls (evAc (ev_v (i := 3) rfl) nlt evAn)) s2) nlt evAn)) s2), List.append_assoc]
        rfl
      · rw [if_n ((t3 _ _ _).trans (by rw [decide_eq_false c3]))]
        refine ⟨said, _, phSome G l3, n, g, ?_, ln, en⟩
        rw [ret_v (ev_tup (evAc (ev_v (i := 2) rfl) nlr (evAc (ev_tup (evAc (ev_s (x := "some")) nls (evAc (ev_v (i := 3) rfl) nlt evAn)) s2) nlt evAn)) s2)]
        rfl
end
/-! ### clauses -/
structure ClauseG (said : List Str) (q : Q4) : Prop where
  at_ : ∀ ws i, Seg ws i said → (pk ws (i + said.length) = "" ∨ pk ws (i + said.length) = "then") → CAt ws i q (i + said.length)
  vw : ∀ x ∈ said, x ∈ VW
  le : said.length ≤ 27
  ne : said ≠ []
  pl : Pl 4 19 q.t
theorem fol_end {x : Str} (h : x = "" ∨ x = "then") : Fol x := by
  rcases h with rfl | rfl
  · exact ⟨by decide +kernel, by decide +kernel, by decide +kernel⟩
  · exact ⟨by decide +kernel, by decide +kernel, by decide +kernel⟩
theorem fol_in : Fol "in" := ⟨by decide +kernel, by decide +kernel, by decide +kernel⟩
theorem fol_on : Fol "on" := ⟨by decide +kernel, by decide +kernel, by decide +kernel⟩
theorem pl4 {a b l d : D} (ha : Pl 3 14 a) (hb : Pl 3 14 b) (hl : Pl 3 14 l) (hd : Pl 3 14 d) : Pl 4 19 (Q4.t ⟨a, b, l, d⟩) :=
  .tup (.cons (ha.up (Nat.le_refl _) (by omega : 14 ≤ 17)) (.cons (hb.up (Nat.le_refl _) (by omega : 14 ≤ 16)) (.cons (hl.up (Nat.le_refl _) (by omega : 14 ≤ 15)) (.cons hd .nil))))
theorem pls {x : Str} (a : Asc x) : Pl 3 14 (.str x) := .str a
theorem lone_vw : ∀ x ∈ lLon, x ∈ VW := by decide +kernel
theorem dir_vw : ∀ x ∈ lDir, x ∈ VW := by decide +kernel
def lVerb : List Str := ["take", "drop", "open", "shut", "wear", "doff"]
theorem verb_vw : ∀ x ∈ lVerb, x ∈ VW := by decide +kernel
theorem go_vw : ("go" : Str) ∈ VW := by decide +kernel
theorem put_vw : ("put" : Str) ∈ VW := by decide +kernel
theorem cgLone {x : Str} (m : x ∈ lLon) : ClauseG [x] ⟨.str x, .str "", .str "", .non⟩ where
  at_ := fun ws i s f => by
    have e := s.end1
    have := ClauseAt.lone (ws := ws) (i := i) (by rw [e]; exact m)
    rw [e] at this
    exact this
  vw := fun y z => by rw [List.mem_singleton.mp z]; exact lone_vw x m
  le := by simp
  ne := by simp
  pl := pl4 (pls (vw_asc x (lone_vw x m))) (pls asc_e) (pls asc_e) .non
theorem cgDir {x : Str} (m : x ∈ lDir) : ClauseG [x] ⟨.str "go", .str x, .str "", .non⟩ where
  at_ := fun ws i s f => by
    have e := s.end1
    have := ClauseAt.dir (ws := ws) (i := i) (by rw [e]; exact m)
    rw [e] at this
    exact this
  vw := fun y z => by rw [List.mem_singleton.mp z]; exact dir_vw x m
  le := by simp
  ne := by simp
  pl := pl4 (pls (vw_asc _ go_vw)) (pls (vw_asc x (dir_vw x m))) (pls asc_e) .non
theorem cgGo {x : Str} (m : x ∈ lDir) : ClauseG ["go", x] ⟨.str "go", .str x, .str "", .non⟩ where
  at_ := fun ws i s f => by
    have e := s.tail.end1
    have := ClauseAt.go (ws := ws) (i := i) s.head (by rw [e]; exact m)
    rw [e] at this
    exact this
  vw := fun y z => by
    rcases List.mem_cons.mp z with rfl | z
    · exact go_vw
    · rw [List.mem_singleton.mp z]; exact dir_vw x m
  le := by simp
  ne := by simp
  pl := pl4 (pls (vw_asc _ go_vw)) (pls (vw_asc x (dir_vw x m))) (pls asc_e) .non
theorem cgVerb {x : Str} {said : List Str} {d : D} (m : x ∈ lVerb) (p : PhraseG said d) : ClauseG (x :: said) ⟨.str x, d, .str "", .non⟩ where
  at_ := fun ws i s f => by
    have l : i + (x :: said).length = i + 1 + said.length := by simp; omega
    rw [l] at f ⊢
    have e := s.head
    have := ClauseAt.verb (ws := ws) (i := i) (by rw [e]; exact m) (p.at_ ws (i + 1) s.tail (fol_end f))
    rw [e] at this
    exact this
  vw := fun y z => by
    rcases List.mem_cons.mp z with rfl | z
    · exact verb_vw _ m
    · exact p.vw y z
  le := by have := p.le; simp; omega
  ne := by simp
  pl := pl4 (pls (vw_asc x (verb_vw x m))) p.pl (pls asc_e) .non
theorem cgPutIt {x : Str} {said : List Str} {d : D} (m : x = "in" ∨ x = "on") (p : PhraseG said d) : ClauseG (("put" : Str) :: said ++ [x, "it"]) ⟨.str "put", d, .str x, .tup [.str "it"]⟩ where
  at_ := fun ws i s f => by
    have l : i + (("put" : Str) :: said ++ [x, "it"]).length = i + 1 + said.length + 2 := by simp; omega
    rw [l] at f ⊢
    have s1 : Seg ws (i + 1) (said ++ [x, "it"]) := s.tail
    have s2 := s1.right
    have e : pk ws (i + 1 + said.length) = x := s2.head
    have fo : Fol (pk ws (i + 1 + said.length)) := by
      rw [e]; rcases m with rfl | rfl
      · exact fol_in
      · exact fol_on
    have := ClauseAt.put (ws := ws) (i := i) s.head (p.at_ ws (i + 1) s1.left fo) (by rw [e]; exact m) (.it s2.tail.end1)
    rw [e] at this
    exact this
  vw := fun y z => by
    rcases List.mem_append.mp z with z | z
    · rcases List.mem_cons.mp z with rfl | z
      · exact put_vw
      · exact p.vw y z
    · rcases List.mem_cons.mp z with rfl | z
      · rcases m with rfl | rfl <;> decide +kernel
      · rw [List.mem_singleton.mp z]; decide +kernel
  le := by have := p.le; simp; omega
  ne := by simp
  pl := pl4 (pls (vw_asc _ put_vw)) p.pl (pls (vw_asc x (by rcases m with rfl | rfl <;> decide +kernel))) (.tup (.cons ((pl_vw (by decide +kernel)).up (Nat.zero_le _) (by omega : 1 ≤ 12)) .nil))
theorem cgPut {x : Str} {said sb L : List Str} {d : D} (m : x = "in" ∨ x = "on") (p : PhraseG said d) (n : NounG sb L) : ClauseG (("put" : Str) :: said ++ [x] ++ sb) ⟨.str "put", d, .str x, .tup [.str "one", tn L]⟩ where
  at_ := fun ws i s f => by
    have l : i + (("put" : Str) :: said ++ [x] ++ sb).length = i + 1 + said.length + 1 + sb.length := by simp; omega
    rw [l] at f ⊢
    have s0 : Seg ws i (("put" : Str) :: (said ++ ([x] ++ sb))) := by simpa using s
    have s1 : Seg ws (i + 1) (said ++ ([x] ++ sb)) := s0.tail
    have s2 := s1.right
    have e : pk ws (i + 1 + said.length) = x := s2.head
    have fo : Fol (pk ws (i + 1 + said.length)) := by
      rw [e]; rcases m with rfl | rfl
      · exact fol_in
      · exact fol_on
    have s3 : Seg ws (i + 1 + said.length + 1) sb := s2.tail
    have nit : pk ws (i + 1 + said.length + 1) ≠ "it" := by
      rcases n.h0 ws _ s3 with z | z
      · rw [z]; decide +kernel
      · exact (by decide +kernel : ∀ x ∈ voc, x ≠ ("it" : Str)) _ z
    have := ClauseAt.put (ws := ws) (i := i) s.left.left.head (p.at_ ws (i + 1) s1.left fo) (by rw [e]; exact m) (.one nit (n.at_ ws _ s3 (fol_end f).1))
    rw [e] at this
    exact this
  vw := fun y z => by
    rcases List.mem_append.mp z with z | z
    · rcases List.mem_append.mp z with z | z
      · rcases List.mem_cons.mp z with rfl | z
        · exact put_vw
        · exact p.vw y z
      · rw [List.mem_singleton.mp z]; rcases m with rfl | rfl <;> decide +kernel
    · exact n.vw y z
  le := by have := p.le; have := n.le; simp; omega
  ne := by simp
  pl := pl4 (pls (vw_asc _ put_vw)) p.pl (pls (vw_asc x (by rcases m with rfl | rfl <;> decide +kernel))) (.tup (.cons (.str (by
    have : (("one" : Str).cps.toList.all fun c => decide (c < 128)) = true := by decide +kernel
    exact fun c m => of_decide_eq_true (List.all_eq_true.mp this c m))) (.cons ((pl_tn n.l4 n.vL).up (by omega : 1 ≤ 2) (by omega : 6 ≤ 11)) .nil)))
end K3

namespace K3
open PySem L2 Z
section
variable {k : Nat} {h : Hh}
/-- the text at a place of written ones -/
theorem ix_w {l : List Str} {i : Int} (i0 : 0 ≤ i) (i1 : i < l.length) : ∃ s ∈ l, ∀ hh, ixD hh (.lst (l.map D.str)) (.int i) = some (.str s) := by
  have q : i.toNat < l.length := by omega
  refine ⟨l[i.toNat], List.getElem_mem q, fun hh => ?_⟩
  show atI (l.map D.str) i = _
  unfold atI ixN
  rw [if_pos i0, if_pos (by rw [List.length_map]; exact i1)]
  show (l.map D.str)[i.toNat]? = _
  rw [List.getElem?_map, List.getElem?_eq_getElem q]
  rfl
def strE : List Str → EL
  | [] => .nil
  | x :: l => .cons false (.str x) (strE l)
theorem ev_strs {Φ : CallF} {S : Sl} {hh : Hh} : ∀ l : List Str, evA glob Φ (strE l) S hh = some (.ok (l.map D.str), hh)
  | [] => evAn
  | x :: l => evAc ev_s nls (ev_strs l)
theorem s6 : (6 : Nat) ≤ sizeLine := by decide
theorem s4 : (4 : Nat) ≤ sizeLine := by decide
def bodE1 : SL := (.cons (.set 5 (.ix (.lst (strE lLon)) (.bin .Mod (.var 2) (.int 4)))) (.cons (.ret (.tup (.cons false (.lst (.cons false (.var 5) .nil)) (.cons false (.tup (.cons false (.var 5) (.cons false (.str "") (.cons false (.str "") (.cons false .non .nil))))) .nil)))) .nil))
def bodE2 : SL := (.cons (.set 5 (.ix (.lst (strE lDir)) (.bin .Mod (.var 2) (.int 6)))) (.cons (.ret (.tup (.cons false (.bin .Add (.bin .Mult (.lst (.cons false (.str "go") .nil)) (.bin .Sub (.var 1) (.int 3))) (.lst (.cons false (.var 5) .nil))) (.cons false (.tup (.cons false (.str "go") (.cons false (.var 5) (.cons false (.str "") (.cons false .non .nil))))) .nil)))) .nil))
def bodE3 : SL := (.cons (.set 6 (.ix (.lst (strE lVerb)) (.bin .Mod (.var 2) (.int 6)))) (.cons (.asg (.cons (.nm 7) (.cons (.nm 8) .nil)) (.call "_law_phrase" (.cons false (.bin .FloorDiv (.var 2) (.int 6)) .nil))) (.cons (.ret (.tup (.cons false (.bin .Add (.lst (.cons false (.var 6) .nil)) (.var 7)) (.cons false (.tup (.cons false (.var 6) (.cons false (.var 8) (.cons false (.str "") (.cons false .non .nil))))) .nil)))) .nil)))
def retP1 : SL := (.cons (.ret (.tup (.cons false (.bin .Add (.bin .Add (.lst (.cons false (.str "put") .nil)) (.var 7)) (.lst (.cons false (.var 3) (.cons false (.str "it") .nil)))) (.cons false (.tup (.cons false (.str "put") (.cons false (.var 8) (.cons false (.var 3) (.cons false (.tup (.cons false (.str "it") .nil)) .nil))))) .nil)))) .nil)
def retP2 : SL := (.cons (.set 4 (.call "_law_noun" (.cons false (.call "_law_mixed" (.cons false (.var 2) (.cons false (.int 3) .nil))) .nil))) (.cons (.ret (.tup (.cons false (.bin .Add (.bin .Add (.bin .Add (.lst (.cons false (.str "put") .nil)) (.var 7)) (.lst (.cons false (.var 3) .nil))) (.ix (.var 4) (.int 0))) (.cons false (.tup (.cons false (.str "put") (.cons false (.var 8) (.cons false (.var 3) (.cons false (.tup (.cons false (.str "one") (.cons false (.ix (.var 4) (.int 1)) .nil))) .nil))))) .nil)))) .nil))
theorem b33_eq : b33 = (.cons (.set 1 (.bin .Mod (.var 0) (.int 12))) (.cons (.set 2 (.bin .FloorDiv (.var 0) (.int 12))) (.cons (.ife (.cmp .Lt (.var 1) (.int 3)) bodE1 .nil) (.cons (.ife (.cmp .Lt (.var 1) (.int 5)) bodE2 .nil) (.cons (.ife (.cmp .Lt (.var 1) (.int 9)) bodE3 .nil)
  (.cons (.asg (.cons (.nm 7) (.cons (.nm 8) .nil)) (.call "_law_phrase" (.cons false (.bin .FloorDiv (.var 2) (.int 2)) .nil))) (.cons (.set 3 (.ix (.lst (strE ["in", "on"])) (.bin .Mod (.var 2) (.int 2)))) (.cons (.ife (.cmp .Eq (.bin .Mod (.bin .FloorDiv (.var 2) (.int 2)) (.int 5)) (.int 1)) retP1 .nil) retP2)))))))) := rfl
theorem re_bq {r : BM} {q : Sl → Hh → BM} {d : D} {hh : Hh} (e : r = some (.rt d, hh)) : retOf (bq r q) = some (.ok d, hh) := by rw [e]; rfl
theorem PhraseG.tup {said : List Str} {d : D} (P : PhraseG said d) : ∃ ds, d = .tup ds := by
  have s : Seg (said ++ [("" : Str)]) 0 said := fun m hm => by
    rw [Nat.zero_add, pk, List.getElem?_append_left hm, List.getElem?_eq_getElem hm]
    rfl
  have e : pk (said ++ [("" : Str)]) (0 + said.length) = "" := by
    rw [Nat.zero_add, pk, List.getElem?_append_right (Nat.le_refl _), Nat.sub_self]
    rfl
  exact (P.at_ _ 0 s (fol_end (.inl e))).tup
theorem mkClause {x : Int} : ∃ said q, ClauseG said q ∧ Gives h (C (k + 6) "_law_clause" [.int x] h) said q.t := by
  have w0 : 0 ≤ x % 12 := Int.emod_nonneg _ (by decide)
  have w1 : x % 12 < 12 := Int.emod_lt_of_pos _ (by decide)
  generalize eW : x % 12 = W at *
  generalize eM : x / 12 = M at *
  let S0 : Sl := [some (.int x), some (.int W), some (.int M), none, none, none, none, none, none]
  have z1 : (ev glob (C (k + 5)) (.bin .Mod (.var 0) (.int 12))).v [some (.int x), none, none, none, none, none, none, none, none] h = some (.ok (.int W), h) := by
    rw [← eW]
    exact ev_bin (ev_v rfl) ev_i (o_modp (by decide))
  have z2 : (ev glob (C (k + 5)) (.bin .FloorDiv (.var 0) (.int 12))).v [some (.int x), some (.int W), none, none, none, none, none, none, none] h = some (.ok (.int M), h) := by
    rw [← eM]
    exact ev_bin (ev_v rfl) ev_i (o_divp (by decide))
  have T : ∀ n : Int, (ev glob (C (k + 5)) (.cmp .Lt (.var 1) (.int n))).t S0 h = some (.ok (decide (W < n)), h) := fun n => by simp [S0, evB, evS.eq_1, evS.eq_2, evS.eq_3, evS.eq_4, evS.eq_5, evS.eq_6, evS.eq_7, evS.eq_10, evS.eq_11, evS.eq_12, evS.eq_14, evS.eq_15, evS.eq_17, ev.eq_1, ev.eq_2, ev.eq_3, ev.eq_4, ev.eq_5, ev.eq_6, ev.eq_7, ev.eq_8, ev.eq_9, ev.eq_10, ev.eq_11, ev.eq_12, ev.eq_13, ev.eq_14, ev.eq_15, ev.eq_16, ev.eq_17, ev.eq_18, ev.eq_19, ev.eq_20, ev.eq_21, ev.eq_22, ev.eq_23, ev.eq_24, ev.eq_25, ev.eq_26, ev.eq_27, ev.eq_28, ev.eq_29, ev.eq_31, ev.eq_32, ev.eq_34, ev.eq_35, ev.eq_36, ev.eq_37, ev.eq_38, ev.eq_39, ev.eq_40, ev.eq_41, evA, evO, evC, evI, vt, tv, bd_ok, bs_ok, bq_nx, bq_rt, pu_ok, re_nx, re_rt, ma_bl, ma_int, ma_str, ma_non, ma_ty, ma_ref, ma_tup, ma_frl, ma_lst, fix_same, getS, Z.evE, Z.evT, Z.vv, tr_bl, b_len, b_isi, b_all, b_any, b_sum, b_str, b_intI, b_intB, b_tup, b_lst, c_eq, c_ne, c_in, c_ni, c_lt, c_gt, c_le, c_is, c_isn, c_isN, c_isnN, c_isI, c_isL, c_isR, o_add, o_sub, q_bl, q_int, q_str, q_NN, a_int]
  rw [call_eq t33 rfl]
  show ∃ said q, _ ∧ Gives h (retOf (evB glob (C (k + 5)) b33 [some (.int x), none, none, none, none, none, none, none, none] h)) said (Q4.t q)
  rw [b33_eq, set_v z1 nli]
  simp only [List.set]
  rw [set_v z2 nli]
  simp only [List.set]
  show ∃ said q, _ ∧ Gives h (retOf (evB glob (C (k + 5)) _ S0 h)) said (Q4.t q)
  by_cases c1 : W < 3
  · obtain ⟨s, hs, es⟩ := ix_w (l := lLon) (i := M % 4) (Int.emod_nonneg _ (by decide)) (Int.emod_lt_of_pos _ (by decide))
    rw [if_y ((T 3).trans (by rw [decide_eq_true c1]))]
    refine ⟨[s], _, cgLone hs, h.length, [.lst [.str s]], ?_, Nat.le_refl _, end_get⟩
    refine re_bq ?_
    unfold bodE1
    rw [set_v (ev_ix (S := S0) (ev_lst (ev_strs lLon) s4) (ev_bin (ev_v (i := 2) rfl) ev_i (o_modp (by decide))) (es _)) nls]
    exact ret_v (ev_tup (evAl (ev_lst (evAc (ev_v (i := 5) rfl) nls evAn) s1) (evAc (ev_tup (evAc (ev_v (i := 5) rfl) nls (evAc ev_s nls (evAc ev_s nls (evAc ev_n nln evAn)))) s4) nlt evAn)) s2)
  · rw [if_n ((T 3).trans (by rw [decide_eq_false c1]))]
    by_cases c2 : W < 5
    · obtain ⟨s, hs, es⟩ := ix_w (l := lDir) (i := M % 6) (Int.emod_nonneg _ (by decide)) (Int.emod_lt_of_pos _ (by decide))
      rw [if_y ((T 5).trans (by rw [decide_eq_true c2]))]
      have fin : ∀ (t : Nat) (said : List Str), W - 3 = (t : Int) → t ≤ 1 → said = List.replicate t ("go" : Str) ++ [s] → ClauseG said ⟨.str "go", .str s, .str "", .non⟩ → ∃ said q, ClauseG said q ∧ Gives h (retOf (bq (evB glob (C (k + 5)) bodE2 S0 h) fun S1 h2 => evB glob (C (k + 5)) (.cons (.ife (.cmp .Lt (.var 1) (.int 9)) bodE3 .nil) (.cons (.asg (.cons (.nm 7) (.cons (.nm 8) .nil)) (.call "_law_phrase" (.cons false (.bin .FloorDiv (.var 2) (.int 2)) .nil))) (.cons (.set 3 (.ix (.lst (strE ["in", "on"])) (.bin .Mod (.var 2) (.int 2)))) (.cons (.ife (.cmp .Eq (.bin .Mod (.bin .FloorDiv (.var 2) (.int 2)) (.int 5)) (.int 1)) retP1 .nil) retP2)))) S1 h2)) said (Q4.t q) := fun t said et t1 e G => by
        subst e
        refine ⟨_, _, G, h.length, [.lst ((List.replicate t ("go" : Str) ++ [s]).map D.str)], ?_, Nat.le_refl _, end_get⟩
        refine re_bq ?_
        unfold bodE2
        rw [set_v (ev_ix (S := S0) (ev_lst (ev_strs lDir) s6) (ev_bin (ev_v (i := 2) rfl) ev_i (o_modp (by decide))) (es _)) nls]
        have r1 : binD h .Mult (.lst [.str "go"]) (.int (t : Nat)) = some (.lst ((List.replicate t ("go" : Str)).map D.str)) := by
          rw [o_rep (xs := [.str "go"]) rfl (by simp; omega) (by omega), rep1]
        have r2 : binD h .Add (.lst ((List.replicate t ("go" : Str)).map D.str)) (.lst [.str s]) = some (.lst ((List.replicate t ("go" : Str) ++ [s]).map D.str)) := by
          rw [o_lst (ys := [.str s]) rfl rfl (by simp; omega), List.map_append]
          rfl
        have r3 : binD h .Sub (.int W) (.int 3) = some (.int (t : Nat)) := by rw [o_sub, et]
        exact ret_v (ev_tup (evAl (ev_bin (ev_bin (ev_lst (evAc ev_s nls evAn) s1) (ev_bin (ev_v (i := 1) rfl) ev_i r3) r1) (ev_lst (evAc (ev_v (i := 5) rfl) nls evAn) s1) r2) (evAc (ev_tup (evAc ev_s nls (evAc (ev_v (i := 5) rfl) nls (evAc ev_s nls (evAc ev_n nln evAn)))) s4) nlt evAn)) s2)
      by_cases c : W = 3
      · exact fin 0 [s] (by omega) (by omega) rfl (cgDir hs)
      · exact fin 1 ["go", s] (by omega) (by omega) rfl (cgGo hs)
    · rw [if_n ((T 5).trans (by rw [decide_eq_false c2]))]
      by_cases c3 : W < 9
      · obtain ⟨s, hs, es⟩ := ix_w (l := lVerb) (i := M % 6) (Int.emod_nonneg _ (by decide)) (Int.emod_lt_of_pos _ (by decide))
        rw [if_y ((T 9).trans (by rw [decide_eq_true c3]))]
        obtain ⟨said, d, P, gv⟩ := mkPhrase (k := k) (h := h) (x := M / 6)
        let S1 : Sl := [some (.int x), some (.int W), some (.int M), none, none, none, some (.str s), none, none]
        obtain ⟨n, g, e2, ln, en⟩ := gv.ev (S := S1) (es := .cons false (.bin .FloorDiv (.var 2) (.int 6)) .nil) (evAc (ev_bin (ev_v rfl) ev_i (o_divp (by decide))) nli evAn)
        refine ⟨_, _, cgVerb hs P, (h ++ g).length, g ++ [.lst ((s :: said).map D.str)], ?_, by simp, by rw [← List.append_assoc]; exact end_get⟩
        refine re_bq ?_
        unfold bodE3
        rw [set_v (ev_ix (S := S0) (ev_lst (ev_strs lVerb) s6) (ev_bin (ev_v (i := 2) rfl) ev_i (o_modp (by decide))) (es _)) nls]
        show evB glob (C (k + 5)) _ S1 h = _
        rw [asg2 e2]
        have b1 : binD (h ++ g) .Add (.lst [.str s]) (.ref n) = some (.lst ((s :: said).map D.str)) := by
          have := P.le
          rw [o_lst (xs := [.str s]) rfl (IsL.ml en) (by simp; omega)]
          rfl
        obtain ⟨ds, rfl⟩ := P.tup
        rw [← List.append_assoc]
        exact ret_v (ev_tup (evAl (ev_bin (ev_lst (evAc (ev_v (i := 6) rfl) nls evAn) s1) (ev_v (i := 7) rfl) b1) (evAc (ev_tup (evAc (ev_v (i := 6) rfl) nls (evAc (ev_v (i := 8) rfl) nlt (evAc ev_s nls (evAc ev_n nln evAn)))) s4) nlt evAn)) s2)
      · rw [if_n ((T 9).trans (by rw [decide_eq_false c3]))]
        obtain ⟨s, hs, es⟩ := ix_w (l := ["in", "on"]) (i := M % 2) (Int.emod_nonneg _ (by decide)) (Int.emod_lt_of_pos _ (by decide))
        have hs' : s = "in" ∨ s = "on" := by simpa using hs
        obtain ⟨said, d, P, gv⟩ := mkPhrase (k := k) (h := h) (x := M / 2)
        obtain ⟨n, g, e2, ln, en⟩ := gv.ev (S := S0) (es := .cons false (.bin .FloorDiv (.var 2) (.int 2)) .nil) (evAc (ev_bin (ev_v rfl) ev_i (o_divp (by decide))) nli evAn)
        obtain ⟨ds, rfl⟩ := P.tup
        rw [asg2 e2]
        let S2 : Sl := [some (.int x), some (.int W), some (.int M), none, none, none, none, some (.ref n), some (.tup ds)]
        show ∃ said q, _ ∧ Gives h (retOf (evB glob (C (k + 5)) _ S2 (h ++ g))) said (Q4.t q)
        rw [set_v (ev_ix (S := S2) (ev_lst (ev_strs ["in", "on"]) s2) (ev_bin (ev_v (i := 2) rfl) ev_i (o_modp (by decide))) (es _)) nls]
        let S3 : Sl := [some (.int x), some (.int W), some (.int M), some (.str s), none, none, none, some (.ref n), some (.tup ds)]
        show ∃ said q, _ ∧ Gives h (retOf (evB glob (C (k + 5)) _ S3 (h ++ g))) said (Q4.t q)
        have t5 : (ev glob (C (k + 5)) (.cmp .Eq (.bin .Mod (.bin .FloorDiv (.var 2) (.int 2)) (.int 5)) (.int 1))).t S3 (h ++ g) = some (.ok (decide (M / 2 % 5 = 1)), h ++ g) := by simp [S3, evB, evS.eq_1, evS.eq_2, evS.eq_3, evS.eq_4, evS.eq_5, evS.eq_6, evS.eq_7, evS.eq_10, evS.eq_11, evS.eq_12, evS.eq_14, evS.eq_15, evS.eq_17, ev.eq_1, ev.eq_2, ev.eq_3, ev.eq_4, ev.eq_5, ev.eq_6, ev.eq_7, ev.eq_8, ev.eq_9, ev.eq_10, ev.eq_11, ev.eq_12, ev.eq_13, ev.eq_14, ev.eq_15, ev.eq_16, ev.eq_17, ev.eq_18, ev.eq_19, ev.eq_20, ev.eq_21, ev.eq_22, ev.eq_23, ev.eq_24, ev.eq_25, ev.eq_26, ev.eq_27, ev.eq_28, ev.eq_29, ev.eq_31, ev.eq_32, ev.eq_34, ev.eq_35, ev.eq_36, ev.eq_37, ev.eq_38, ev.eq_39, ev.eq_40, ev.eq_41, evA, evO, evC, evI, vt, tv, bd_ok, bs_ok, bq_nx, bq_rt, pu_ok, re_nx, re_rt, ma_bl, ma_int, ma_str, ma_non, ma_ty, ma_ref, ma_tup, ma_frl, ma_lst, fix_same, getS, Z.evE, Z.evT, Z.vv, tr_bl, b_len, b_isi, b_all, b_any, b_sum, b_str, b_intI, b_intB, b_tup, b_lst, c_eq, c_ne, c_in, c_ni, c_lt, c_gt, c_le, c_is, c_isn, c_isN, c_isnN, c_isI, c_isL, c_isR, o_add, o_sub, q_bl, q_int, q_str, q_NN, a_int, o_div, o_mod]
        have lp := P.le
        have b1 : binD (h ++ g) .Add (.lst [.str "put"]) (.ref n) = some (.lst ((("put" : Str) :: said).map D.str)) := by
          rw [o_lst (xs := [.str "put"]) rfl (IsL.ml en) (by simp; omega)]
          rfl
        by_cases c4 : M / 2 % 5 = 1
        · rw [if_y (t5.trans (by rw [decide_eq_true c4]))]
          have b2 : binD (h ++ g) .Add (.lst ((("put" : Str) :: said).map D.str)) (.lst [.str s, .str "it"]) = some (.lst ((("put" : Str) :: said ++ [s, "it"]).map D.str)) := by
            rw [o_lst (ys := [.str s, .str "it"]) rfl rfl (by simp; omega), List.map_append]
            rfl
          refine ⟨_, _, cgPutIt hs' P, (h ++ g).length, g ++ [.lst ((("put" : Str) :: said ++ [s, "it"]).map D.str)], ?_, by simp, by rw [← List.append_assoc]; exact end_get⟩
          refine re_bq ?_
          rw [← List.append_assoc]
          exact ret_v (ev_tup (evAl (ev_bin (ev_bin (ev_lst (evAc ev_s nls evAn) s1) (ev_v (i := 7) rfl) b1) (ev_lst (evAc (ev_v (i := 3) rfl) nls (evAc ev_s nls evAn)) s2) b2) (evAc (ev_tup (evAc ev_s nls (evAc (ev_v (i := 8) rfl) nlt (evAc (ev_v (i := 3) rfl) nls (evAc (ev_tup (evAc ev_s nls evAn) s1) nlt evAn)))) s4) nlt evAn)) s2)
        · rw [if_n (t5.trans (by rw [decide_eq_false c4]))]
          obtain ⟨v, v0, v1, ev1⟩ := ev_mixed (k := k + 4) (h := h ++ g) (S := S3) (es := .cons false (.var 2) (.cons false (.int 3) .nil)) (a := M) (b := 3) (by omega) (by omega)
          have e3 := ev1 (evAc (ev_v rfl) nli (evAc ev_i nli evAn))
          obtain ⟨sb, L, G, gn⟩ := mkNoun (k := k + 3) (h := h ++ g) (x := v)
          obtain ⟨n2, g2, e4, ln2, en2⟩ := gn.ev (S := S3) (evAc e3 nli evAn)
          have lsb := G.le
          unfold retP2
          rw [set_v e4 nlt]
          have b1' : binD (h ++ g ++ g2) .Add (.lst [.str "put"]) (.ref n) = some (.lst ((("put" : Str) :: said).map D.str)) := by
            rw [o_lst (xs := [.str "put"]) rfl (IsL.ml (IsL.app en g2)) (by simp; omega)]
            rfl
          have b2 : binD (h ++ g ++ g2) .Add (.lst ((("put" : Str) :: said).map D.str)) (.lst [.str s]) = some (.lst ((("put" : Str) :: said ++ [s]).map D.str)) := by
            rw [o_lst (ys := [.str s]) rfl rfl (by simp; omega), List.map_append]
            rfl
          have b3 : binD (h ++ g ++ g2) .Add (.lst ((("put" : Str) :: said ++ [s]).map D.str)) (.ref n2) = some (.lst ((("put" : Str) :: said ++ [s] ++ sb).map D.str)) := by
            rw [o_lst rfl (IsL.ml en2) (by simp; omega), ← List.map_append]
          refine ⟨_, _, cgPut hs' P G, (h ++ g ++ g2).length, g ++ g2 ++ [.lst ((("put" : Str) :: said ++ [s] ++ sb).map D.str)], ?_, by simp, by rw [← List.append_assoc, ← List.append_assoc]; exact end_get⟩
          rw [← List.append_assoc, ← List.append_assoc]
          have := ret_v (Φ := C (k + 5)) (l := .nil) (ev_tup (S := S3.set 4 (some (.tup [.ref n2, tn L]))) (evAl (ev_bin (ev_bin (ev_bin (ev_lst (evAc (ev_s (x := "put")) nls evAn) s1) (ev_v (i := 7) rfl) b1') (ev_lst (evAc (ev_v (i := 3) rfl) nls evAn) s1) b2) (ev_ix (ev_v (i := 4) rfl) ev_i ix_tup0) b3) (evAc (ev_tup (evAc (ev_s (x := "put")) nls (evAc (ev_v (i := 8) rfl) nlt (evAc (ev_v (i := 3) rfl) nls (evAc (ev_tup (evAc (ev_s (x := "one")) nls (evAc (ev_ix (ev_v (i := 4) rfl) ev_i ix_tup1) nlt evAn)) s2) nlt evAn)))) s4) nlt evAn)) s2)
          rw [this]
          rfl
end
end K3

namespace K3
open PySem L2 Z
/-! ### == with [] -/
mutual
theorem pl_py {hh : Hh} : ∀ {n m : Nat} {d : D}, Pl n m d → ∀ k, m ≤ k → ∃ p, toPy hh k d = some p ∧ p.canLay0 = true ∧ p.depth ≤ n
  | _, _, _, .str (x := x) a, k, _ => ⟨.str x, by cases k <;> simp [toPy], by
      show (x.cps.all (· < 0x110000)) = true
      rw [← Array.all_toList, List.all_eq_true]
      intro c m
      have := a c m
      exact decide_eq_true (by omega), by simp [PyData.depth]⟩
  | _, _, _, .non, k, _ => ⟨.none, by cases k <;> simp [toPy], rfl, by simp [PyData.depth]⟩
  | _, _, _, .tup hp, k, lk => by
    obtain ⟨c, rfl, e⟩ := le_ex lk
    obtain ⟨ps, e1, e2, e3⟩ := pl_pyL (hh := hh) hp c e
    exact ⟨.tuple ps, by simp only [toPy, e1, Option.map_some], e2, by simp only [PyData.depth]; omega⟩
theorem pl_pyL {hh : Hh} : ∀ {n m : Nat} {ds : List D}, PlL n m ds → ∀ k, m ≤ k → ∃ ps, toPyL hh k ds = some ps ∧ PyData.canLayAll0 ps = true ∧ PyData.depthAll ps ≤ n
  | _, _, _, .nil, k, _ => ⟨[], by cases k <;> simp [toPyL], rfl, by simp [PyData.depthAll]⟩
  | _, _, _, .cons hp t, k, lk => by
    obtain ⟨c, rfl, e⟩ := le_ex lk
    obtain ⟨p, e1, e2, e3⟩ := pl_py (hh := hh) hp c e
    obtain ⟨ps, e4, e5, e6⟩ := pl_pyL (hh := hh) t c e
    exact ⟨p :: ps, by simp only [toPyL, e1, e4], by simp only [PyData.canLayAll0, e2, e5, Bool.and_self], by simp only [PyData.depthAll]; omega⟩
end
theorem py_ints {h : Hh} : ∀ (l : List Int) (k : Nat), l.length ≤ k → ∃ ps, toPyL h k (l.map D.int) = some ps ∧ PyData.canLayAll0 ps = true ∧ PyData.depthAll ps ≤ 0
  | [], k, _ => ⟨[], by cases k <;> simp [toPyL], rfl, by simp [PyData.depthAll]⟩
  | i :: l, k, lk => by
    rw [List.length_cons] at lk
    obtain ⟨c, rfl, e⟩ := le_ex lk
    obtain ⟨ps, e4, e5, e6⟩ := py_ints l c e
    exact ⟨.int i :: ps, by rw [List.map_cons, toPyL, e4]; cases c <;> simp [toPy], by simp only [PyData.canLayAll0, PyData.canLay0, e5, Bool.and_self], by simp only [PyData.depthAll, PyData.depth]; omega⟩
theorem py_len {h : Hh} : ∀ {k : Nat} {ds : List D} {ps : List PyData}, toPyL h k ds = some ps → ps.length = ds.length
  | k, [], ps, e => by
    have : some [] = some ps := by rw [← e]; cases k <;> simp [toPyL]
    cases this
    rfl
  | 0, d :: ds, ps, e => by simp [toPyL] at e
  | k + 1, d :: ds, ps, e => by
    rw [toPyL] at e
    split at e
    · rename_i a b ea eb
      cases e
      rw [List.length_cons, List.length_cons, py_len eb]
    · cases e
theorem eq_nil {h : Hh} {x : D} {xs : List D} (e : lsD h x = some xs) (p : ∃ ps, toPyL h 99999 xs = some ps ∧ PyData.canLayAll0 ps = true ∧ PyData.depthAll ps ≤ 60) : eqD h x (.lst []) = some (decide (xs = [])) := by
  obtain ⟨ps, e1, e2, e3⟩ := p
  have sc : scD x (.lst []) = none := by cases x <;> first | rfl | cases e
  have tp : toPy h 100000 x = some (.list ps) := by
    cases x with
    | lst ys => cases e; show (toPyL h 99999 _).map _ = _; rw [e1]; rfl
    | frl ys => cases e; show (toPyL h 99999 _).map _ = _; rw [e1]; rfl
    | ref n =>
      show (match h[n]? with | some (.lst xs) => (toPyL h 99999 xs).map PyData.list | _ => none) = _
      have e' : (match h[n]? with | some (.lst xs) => some xs | _ => none) = some xs := e
      split at e'
      · rename_i ys z
        cases e'
        show (toPyL h 99999 _).map _ = _
        rw [e1]
        rfl
      · cases e'
    | _ => cases e
  have tn : toPy h 100000 (.lst []) = some (.list []) := rfl
  have sh : SeqAt.shaped (.list ps) = true := by
    unfold SeqAt.shaped
    rw [Bool.and_eq_true]
    exact ⟨e2, decide_eq_true (by simp only [PyData.depth]; omega)⟩
  have sn : SeqAt.shaped (.list []) = true := by decide +kernel
  unfold eqD
  rw [sc, tp, tn]
  simp only [sh, sn, and_self, if_true]
  have := py_len e1
  cases ps with
  | nil =>
    have : xs = [] := List.length_eq_zero_iff.mp (by simpa using this.symm)
    subst this
    rfl
  | cons a as =>
    cases xs with
    | nil => simp at this
    | cons b bs => rfl
/-! ### alike -/
section
variable {k : Nat} {h : Hh}
def eltE : E := .call "_law_alike" (.cons false (.var 2) (.cons false (.var 3) .nil))
theorem zp_mem : ∀ {xs : List D} {y : D}, y ∈ zpItems xs xs → ∃ x ∈ xs, y = .tup [x, x]
  | [], y, m => by simp [zpItems] at m
  | x :: xs, y, m => by
    rcases List.mem_cons.mp m with rfl | m
    · exact ⟨x, List.mem_cons_self .., rfl⟩
    · obtain ⟨z, hz, e⟩ := zp_mem m
      exact ⟨z, List.mem_cons_of_mem _ hz, e⟩
theorem alike_seq {d1 d2 : D} {T : String} {xs : List D} {st : List (Nat × List D)} (t1 : tyD h d1 = some T) (t2 : tyD h d2 = some T) (hT : T = "tuple" ∨ T = "list") (l1 : lenD h [d1] = some (.int xs.length)) (l2 : lenD h [d2] = some (.int xs.length))
    (z : zpD h d1 d2 = some ⟨zpItems xs xs, st⟩) (hs : stayB h st) (n1 : ∀ ys, d1 ≠ .lst ys) (n2 : ∀ ys, d2 ≠ .lst ys) (lx : xs.length ≤ 1000) (each : ∀ x ∈ xs, (∀ ys, x ≠ .lst ys) ∧ C k "_law_alike" [x, x] h = some (.ok (.bl true), h)) :
    C (k + 1) "_law_alike" [d1, d2] h = some (.ok (.bl true), h) := by
  rw [call_eq t28 rfl]
  have i1 : ∀ d, tyD h d = some T → isiTD h d ["tuple", "list"] = some (.bl true) := fun d e => by
    rcases hT with rfl | rfl <;> simp [isiTD, e, isiAny, isiD]
  have i2 : ∀ d, tyD h d = some T → isinD h [d, .ty "list"] = some (.bl (decide (T = "list"))) := fun d e => by
    rcases hT with rfl | rfl <;> simp [isinD, e, isiD]
  have e3 : ∀ y ∈ zpItems xs xs, lcEl glob (C k) eltE (.tp (.cons (.nm 2) (.cons (.nm 3) .nil))) .no [2, 3] [some d1, some d2, none, none] y h = some (.ok (some (.bl true)), h) := fun y m => by
    obtain ⟨x, hx, rfl⟩ := zp_mem m
    obtain ⟨nx, ex⟩ := each x hx
    have ea : (ev glob (C k) eltE).v [some d1, some d2, some x, some x] h = some (.ok (.bl true), h) := ev_cll (evAc (ev_v rfl) nx (evAc (ev_v rfl) nx evAn)) ex fix_same
    unfold lcEl
    have bt : bindT h (.tp (.cons (.nm 2) (.cons (.nm 3) .nil))) (.tup [x, x]) (wipeS [some d1, some d2, none, none] [2, 3]) = some [some d1, some d2, some x, some x] := rfl
    rw [bt]
    simp only [evC, Z.vv, ea, bd_ok, ma_bl]
  have e4 := lcGo_map (st := st) (h := h) (fun _ => some (.bl true)) hs (zpItems xs xs) e3
  rw [filterMap_sm] at e4
  have e5 := ev_lc (Φ := C k) (it := .zp (.var 0) (.var 1)) (S := [some d1, some d2, none, none]) (h := h) (h1 := h) (st := st) (by simp [evB, evS.eq_1, evS.eq_2, evS.eq_3, evS.eq_4, evS.eq_5, evS.eq_6, evS.eq_7, evS.eq_10, evS.eq_11, evS.eq_12, evS.eq_14, evS.eq_15, evS.eq_17, ev.eq_1, ev.eq_2, ev.eq_3, ev.eq_4, ev.eq_5, ev.eq_6, ev.eq_7, ev.eq_8, ev.eq_9, ev.eq_10, ev.eq_11, ev.eq_12, ev.eq_13, ev.eq_14, ev.eq_15, ev.eq_16, ev.eq_17, ev.eq_18, ev.eq_19, ev.eq_20, ev.eq_21, ev.eq_22, ev.eq_23, ev.eq_24, ev.eq_25, ev.eq_26, ev.eq_27, ev.eq_28, ev.eq_29, ev.eq_31, ev.eq_32, ev.eq_34, ev.eq_35, ev.eq_36, ev.eq_37, ev.eq_38, ev.eq_39, ev.eq_40, ev.eq_41, evA, evO, evC, evI, vt, tv, bd_ok, bs_ok, bq_nx, bq_rt, pu_ok, re_nx, re_rt, ma_bl, ma_int, ma_str, ma_non, ma_ty, ma_ref, ma_tup, ma_frl, ma_lst, fix_same, getS, Z.evE, Z.evT, Z.vv, tr_bl, b_len, b_isi, b_all, b_any, b_sum, b_str, b_intI, b_intB, b_tup, b_lst, c_eq, c_ne, c_in, c_ni, c_lt, c_gt, c_le, c_is, c_isn, c_isN, c_isnN, c_isI, c_isL, c_isR, o_add, o_sub, q_bl, q_int, q_str, q_NN, a_int, z]) (Nat.le_trans (by rw [zpItems_len]; omega) (sz (show xs.length ≤ 100000 by omega))) e4
  have e6 : overL (fun xs => (blsD xs).map fun ns => .bl (ns.all id)) h [.lst ((zpItems xs xs).map fun _ => D.bl true)] = some (.bl true) := by
    simp only [overL, lsD, blsD_map (fun _ : D => true)]
    simp
  unfold eltE at e5
  simp [b28, evB, evS.eq_1, evS.eq_2, evS.eq_3, evS.eq_4, evS.eq_5, evS.eq_6, evS.eq_7, evS.eq_10, evS.eq_11, evS.eq_12, evS.eq_14, evS.eq_15, evS.eq_17, ev.eq_1, ev.eq_2, ev.eq_3, ev.eq_4, ev.eq_5, ev.eq_6, ev.eq_7, ev.eq_8, ev.eq_9, ev.eq_10, ev.eq_11, ev.eq_12, ev.eq_13, ev.eq_14, ev.eq_15, ev.eq_16, ev.eq_17, ev.eq_18, ev.eq_19, ev.eq_20, ev.eq_21, ev.eq_22, ev.eq_23, ev.eq_24, ev.eq_25, ev.eq_26, ev.eq_27, ev.eq_28, ev.eq_29, ev.eq_31, ev.eq_32, ev.eq_34, ev.eq_35, ev.eq_36, ev.eq_37, ev.eq_38, ev.eq_39, ev.eq_40, ev.eq_41, evA, evO, evC, evI, vt, tv, bd_ok, bs_ok, bq_nx, bq_rt, pu_ok, re_nx, re_rt, ma_bl, ma_int, ma_str, ma_non, ma_ty, ma_ref, ma_tup, ma_frl, ma_lst, fix_same, getS, Z.evE, Z.evT, Z.vv, tr_bl, b_len, b_isi, b_all, b_any, b_sum, b_str, b_intI, b_intB, b_tup, b_lst, c_eq, c_ne, c_in, c_ni, c_lt, c_gt, c_le, c_is, c_isn, c_isN, c_isnN, c_isI, c_isL, c_isR, o_add, o_sub, q_bl, q_int, q_str, q_NN, a_int, mat_ok n1, mat_ok n2, i1 d1 t1, i1 d2 t2, i2 d1 t1, i2 d2 t2, l1, l2, e5, e6]
theorem alike_str {x : Str} : C (k + 1) "_law_alike" [.str x, .str x] h = some (.ok (.bl true), h) := by
  rw [call_eq t28 rfl]
  have i1 : isiTD h (.str x) ["tuple", "list"] = some (.bl false) := by simp [isiTD, tyD, isiAny, isiD]
  have i2 : isinD h [.str x, .ty "bool"] = some (.bl false) := by simp [isinD, tyD, isiD]
  simp [b28, evB, evS.eq_1, evS.eq_2, evS.eq_3, evS.eq_4, evS.eq_5, evS.eq_6, evS.eq_7, evS.eq_10, evS.eq_11, evS.eq_12, evS.eq_14, evS.eq_15, evS.eq_17, ev.eq_1, ev.eq_2, ev.eq_3, ev.eq_4, ev.eq_5, ev.eq_6, ev.eq_7, ev.eq_8, ev.eq_9, ev.eq_10, ev.eq_11, ev.eq_12, ev.eq_13, ev.eq_14, ev.eq_15, ev.eq_16, ev.eq_17, ev.eq_18, ev.eq_19, ev.eq_20, ev.eq_21, ev.eq_22, ev.eq_23, ev.eq_24, ev.eq_25, ev.eq_26, ev.eq_27, ev.eq_28, ev.eq_29, ev.eq_31, ev.eq_32, ev.eq_34, ev.eq_35, ev.eq_36, ev.eq_37, ev.eq_38, ev.eq_39, ev.eq_40, ev.eq_41, evA, evO, evC, evI, vt, tv, bd_ok, bs_ok, bq_nx, bq_rt, pu_ok, re_nx, re_rt, ma_bl, ma_int, ma_str, ma_non, ma_ty, ma_ref, ma_tup, ma_frl, ma_lst, fix_same, getS, Z.evE, Z.evT, Z.vv, tr_bl, b_len, b_isi, b_all, b_any, b_sum, b_str, b_intI, b_intB, b_tup, b_lst, c_eq, c_ne, c_in, c_ni, c_lt, c_gt, c_le, c_is, c_isn, c_isN, c_isnN, c_isI, c_isL, c_isR, o_add, o_sub, q_bl, q_int, q_str, q_NN, a_int, i1, i2]
theorem alike_non : C (k + 1) "_law_alike" [.non, .non] h = some (.ok (.bl true), h) := by
  rw [call_eq t28 rfl]
  have i1 : isiTD h .non ["tuple", "list"] = some (.bl false) := by simp [isiTD, tyD, isiAny, isiD]
  have i2 : isinD h [.non, .ty "bool"] = some (.bl false) := by simp [isinD, tyD, isiD]
  simp [b28, evB, evS.eq_1, evS.eq_2, evS.eq_3, evS.eq_4, evS.eq_5, evS.eq_6, evS.eq_7, evS.eq_10, evS.eq_11, evS.eq_12, evS.eq_14, evS.eq_15, evS.eq_17, ev.eq_1, ev.eq_2, ev.eq_3, ev.eq_4, ev.eq_5, ev.eq_6, ev.eq_7, ev.eq_8, ev.eq_9, ev.eq_10, ev.eq_11, ev.eq_12, ev.eq_13, ev.eq_14, ev.eq_15, ev.eq_16, ev.eq_17, ev.eq_18, ev.eq_19, ev.eq_20, ev.eq_21, ev.eq_22, ev.eq_23, ev.eq_24, ev.eq_25, ev.eq_26, ev.eq_27, ev.eq_28, ev.eq_29, ev.eq_31, ev.eq_32, ev.eq_34, ev.eq_35, ev.eq_36, ev.eq_37, ev.eq_38, ev.eq_39, ev.eq_40, ev.eq_41, evA, evO, evC, evI, vt, tv, bd_ok, bs_ok, bq_nx, bq_rt, pu_ok, re_nx, re_rt, ma_bl, ma_int, ma_str, ma_non, ma_ty, ma_ref, ma_tup, ma_frl, ma_lst, fix_same, getS, Z.evE, Z.evT, Z.vv, tr_bl, b_len, b_isi, b_all, b_any, b_sum, b_str, b_intI, b_intB, b_tup, b_lst, c_eq, c_ne, c_in, c_ni, c_lt, c_gt, c_le, c_is, c_isn, c_isN, c_isnN, c_isI, c_isL, c_isR, o_add, o_sub, q_bl, q_int, q_str, q_NN, a_int, i1, i2]
mutual
theorem alike : ∀ {n m : Nat} {d : D}, Pl n m d → m ≤ 1000 → ∀ k, (∀ ys, d ≠ .lst ys) ∧ C (k + n + 1) "_law_alike" [d, d] h = some (.ok (.bl true), h)
  | n, _, _, .str a, _, k => ⟨nls, alike_str⟩
  | n, _, _, .non, _, k => ⟨nln, alike_non⟩
  | n + 1, _, .tup xs, .tup hl, lm, k => by
    obtain ⟨lx, el⟩ := alikeL hl (by omega) k
    have ln : lenD h [.tup xs] = some (.int xs.length) := rfl
    exact ⟨nlt, alike_seq (T := "tuple") rfl rfl (.inl rfl) ln ln rfl trivial nlt nlt (by omega) el⟩
theorem alikeL : ∀ {n m : Nat} {ds : List D}, PlL n m ds → m ≤ 1000 → ∀ k, ds.length ≤ m ∧ ∀ x ∈ ds, (∀ ys, x ≠ .lst ys) ∧ C (k + n + 1) "_law_alike" [x, x] h = some (.ok (.bl true), h)
  | _, _, _, .nil, _, k => ⟨by simp, fun x m => by cases m⟩
  | n, _, _, .cons hd t, lm, k => by
    obtain ⟨l1, e1⟩ := alikeL t (by omega) k
    have e0 := alike hd (by omega) k
    refine ⟨by rw [List.length_cons]; omega, fun x m => ?_⟩
    rcases List.mem_cons.mp m with rfl | m
    · exact e0
    · exact e1 x m
end
/-- two lists -/
theorem alike_lst {n m a b : Nat} {xs : List D} (ea : h[a]? = some (.lst xs)) (eb : h[b]? = some (.lst xs)) (p : PlL n m xs) (lm : m ≤ 1000) : C (k + n + 2) "_law_alike" [.ref a, .ref b] h = some (.ok (.bl true), h) := by
  obtain ⟨lx, el⟩ := alikeL (h := h) p lm k
  refine alike_seq (T := "list") (st := [(a, xs), (b, xs)]) (xs := xs) ?_ ?_ (.inr rfl) (lenD_ref ea) (lenD_ref eb) ?_ ⟨ea, eb, trivial⟩ nlr nlr (by omega) el
  · simp only [tyD, ea]
  · simp only [tyD, eb]
  · simp only [zpD, lsD, ea, eb]
    rfl
end
end K3

namespace K3
open PySem L2 Z
/-! ### lines -/
def ChainC (ws : List Str) : Nat → List Q4 → Nat → Prop
  | _, [], _ => False
  | i, [q], j => CAt ws i q j
  | i, q :: p :: r, j => ∃ m, CAt ws i q m ∧ pk ws m = "then" ∧ ChainC ws (m + 1) (p :: r) j
theorem ChainC.snoc {ws : List Str} {q : Q4} {m j : Nat} : ∀ {qs : List Q4} {i : Nat}, ChainC ws i qs m → pk ws m = "then" → CAt ws (m + 1) q j → ChainC ws i (qs ++ [q]) j
  | [], _, c, _, _ => c.elim
  | [K], i, c, a, n => ⟨m, c, a, n⟩
  | K :: M :: r, i, ⟨x, c1, c2, c3⟩, a, n => ⟨x, c1, c2, ChainC.snoc c3 a n⟩
theorem ChainC.rest {ws : List Str} {j : Nat} (f : pk ws j ≠ "then") : ∀ {r : List Q4} {i k : Nat} {q : Q4}, ChainC ws i (q :: r) j → r.length ≤ k → ∃ m, CAt ws i q m ∧ RestC ws m k r j
  | [], i, k, q, c, _ => ⟨j, c, rfl, .inr f⟩
  | p :: r, i, k + 1, q, ⟨x, c1, c2, c3⟩, l => by
    obtain ⟨m, n1, n2⟩ := ChainC.rest f c3 (show r.length ≤ k by simpa using l)
    exact ⟨x, c1, k, m, rfl, c2, n1, n2⟩
structure ChainG (said : List Str) (qs : List Q4) : Prop where
  at_ : ∀ ws i, Seg ws i said → (pk ws (i + said.length) = "" ∨ pk ws (i + said.length) = "then") → ChainC ws i qs (i + said.length)
  vw : ∀ x ∈ said, x ∈ VW
  le : said.length ≤ 40
  ne : said ≠ []
  l8 : qs.length ≤ 8
  pl : ∀ q ∈ qs, Pl 4 19 (Q4.t q)
theorem ChainG.one {said : List Str} {q : Q4} (c : ClauseG said q) : ChainG said [q] where
  at_ := fun ws i s f => c.at_ ws i s f
  vw := c.vw
  le := Nat.le_trans c.le (by decide)
  ne := c.ne
  l8 := by simp
  pl := fun p m => by rw [List.mem_singleton.mp m]; exact c.pl
theorem ChainG.snoc {said sb : List Str} {qs : List Q4} {q : Q4} (a : ChainG said qs) (c : ClauseG sb q) (l : said.length + 1 + sb.length ≤ 40) (l8 : qs.length < 8) : ChainG (said ++ ("then" : Str) :: sb) (qs ++ [q]) where
  at_ := fun ws i s f => by
    have s1 := s.left
    have s2 := s.right
    have e : i + (said ++ ("then" : Str) :: sb).length = i + said.length + 1 + sb.length := by simp; omega
    rw [e] at f ⊢
    have an : pk ws (i + said.length) = "then" := s2.head
    exact (a.at_ ws i s1 (.inr an)).snoc an (c.at_ ws _ s2.tail f)
  vw := fun x m => by
    rcases List.mem_append.mp m with z | z
    · exact a.vw x z
    · rcases List.mem_cons.mp z with rfl | z
      · decide +kernel
      · exact c.vw x z
  le := by simp; omega
  ne := by simp
  l8 := by simp; omega
  pl := fun p m => by
    rcases List.mem_append.mp m with z | z
    · exact a.pl p z
    · rw [List.mem_singleton.mp z]; exact c.pl
theorem ChainG.line {said : List Str} {qs : List Q4} (a : ChainG said qs) : Line said qs where
  ne := a.ne
  ok := fun w m => vw_ok w (a.vw w m)
  wb := fun w m => vw_wb w (a.vw w m)
  most := a.le
  at_ := by
    have e : pk said (0 + said.length) = "" := by rw [Nat.zero_add, pk, List.getElem?_eq_none (Nat.le_refl _)]; rfl
    have c := a.at_ said 0 (Seg.self said) (.inl e)
    have l8 := a.l8
    match qs, c, l8 with
    | [], c, _ => exact c.elim
    | q :: r, c, l8 =>
      obtain ⟨m, n1, n2⟩ := ChainC.rest (k := 7) (by rw [e]; decide +kernel) c (by simpa using l8)
      rw [Nat.zero_add] at n2
      exact ⟨q, r, m, rfl, n1, n2⟩
theorem ChainG.plL {said : List Str} {qs : List Q4} (a : ChainG said qs) : PlL 4 27 (qs.map Q4.t) := (PlL.of (n := 4) (m := 19) fun x m => by
  obtain ⟨q, hq, rfl⟩ := List.mem_map.mp m
  exact a.pl q hq).up (Nat.le_refl _) (by have := a.l8; rw [List.length_map]; omega)
section
variable {k : Nat} {h : Hh}
theorem cell {d : D} {ns : List Int} {j : Int} (e : lsD h d = some (ns.map D.int)) (l : ns.length ≤ 1000) (j0 : 0 ≤ j) : ∃ v : Int, C (k + 1) "_law_cell_at" [d, .int j] h = some (.ok (.int v), h) := by
  have e1 : eqD h d (.lst []) = some (decide (ns.map D.int = [])) := eq_nil e (by
    obtain ⟨ps, a, b, c⟩ := py_ints (h := h) ns 99999 (by omega)
    exact ⟨ps, a, b, by omega⟩)
  have es : sqD h d = some (ns.map D.int) := by cases d <;> first | exact e | cases e
  have e2 : lenD h [d] = some (.int ns.length) := by
    have : lenD h [d] = (sqD h d).map fun xs => .int xs.length := by cases d <;> first | rfl | cases e
    rw [this, es]
    simp
  by_cases c : ns = []
  · subst c
    refine ⟨j, ?_⟩
    rw [call_eq t27 rfl]
    simp [b27, evB, evS.eq_1, evS.eq_2, evS.eq_3, evS.eq_4, evS.eq_5, evS.eq_6, evS.eq_7, evS.eq_10, evS.eq_11, evS.eq_12, evS.eq_14, evS.eq_15, evS.eq_17, ev.eq_1, ev.eq_2, ev.eq_3, ev.eq_4, ev.eq_5, ev.eq_6, ev.eq_7, ev.eq_8, ev.eq_9, ev.eq_10, ev.eq_11, ev.eq_12, ev.eq_13, ev.eq_14, ev.eq_15, ev.eq_16, ev.eq_17, ev.eq_18, ev.eq_19, ev.eq_20, ev.eq_21, ev.eq_22, ev.eq_23, ev.eq_24, ev.eq_25, ev.eq_26, ev.eq_27, ev.eq_28, ev.eq_29, ev.eq_31, ev.eq_32, ev.eq_34, ev.eq_35, ev.eq_36, ev.eq_37, ev.eq_38, ev.eq_39, ev.eq_40, ev.eq_41, evA, evO, evC, evI, vt, tv, bd_ok, bs_ok, bq_nx, bq_rt, pu_ok, re_nx, re_rt, ma_bl, ma_int, ma_str, ma_non, ma_ty, ma_ref, ma_tup, ma_frl, ma_lst, fix_same, getS, Z.evE, Z.evT, Z.vv, tr_bl, b_len, b_isi, b_all, b_any, b_sum, b_str, b_intI, b_intB, b_tup, b_lst, c_eq, c_ne, c_in, c_ni, c_lt, c_gt, c_le, c_is, c_isn, c_isN, c_isnN, c_isI, c_isL, c_isR, o_add, o_sub, q_bl, q_int, q_str, q_NN, a_int, s0, e1]
  · have lp : 0 < ns.length := List.length_pos_iff.mpr c
    have m0 : 0 ≤ j % (ns.length : Int) := Int.emod_nonneg _ (by omega)
    have m1 : j % (ns.length : Int) < ns.length := Int.emod_lt_of_pos _ (by omega)
    have q : (j % (ns.length : Int)).toNat < ns.length := by omega
    have e3 : ixD h d (.int (j % (ns.length : Int))) = some (.int ns[(j % (ns.length : Int)).toNat]) := by
      have : ixD h d (.int (j % (ns.length : Int))) = match sqD h d with | some xs => atI xs (j % (ns.length : Int)) | none => none := by cases d <;> first | rfl | cases e
      rw [this, es]
      show atI (ns.map D.int) _ = _
      unfold atI ixN
      rw [if_pos m0, if_pos (by rw [List.length_map]; exact m1)]
      show (ns.map D.int)[_]? = _
      rw [List.getElem?_map, List.getElem?_eq_getElem q]
      rfl
    refine ⟨ns[(j % (ns.length : Int)).toNat], ?_⟩
    have c2 : ¬ ns.map D.int = [] := fun z => c (List.map_eq_nil_iff.mp z)
    have lp' : (0 : Int) < ns.length := by omega
    rw [call_eq t27 rfl]
    simp [b27, evB, evS.eq_1, evS.eq_2, evS.eq_3, evS.eq_4, evS.eq_5, evS.eq_6, evS.eq_7, evS.eq_10, evS.eq_11, evS.eq_12, evS.eq_14, evS.eq_15, evS.eq_17, ev.eq_1, ev.eq_2, ev.eq_3, ev.eq_4, ev.eq_5, ev.eq_6, ev.eq_7, ev.eq_8, ev.eq_9, ev.eq_10, ev.eq_11, ev.eq_12, ev.eq_13, ev.eq_14, ev.eq_15, ev.eq_16, ev.eq_17, ev.eq_18, ev.eq_19, ev.eq_20, ev.eq_21, ev.eq_22, ev.eq_23, ev.eq_24, ev.eq_25, ev.eq_26, ev.eq_27, ev.eq_28, ev.eq_29, ev.eq_31, ev.eq_32, ev.eq_34, ev.eq_35, ev.eq_36, ev.eq_37, ev.eq_38, ev.eq_39, ev.eq_40, ev.eq_41, evA, evO, evC, evI, vt, tv, bd_ok, bs_ok, bq_nx, bq_rt, pu_ok, re_nx, re_rt, ma_bl, ma_int, ma_str, ma_non, ma_ty, ma_ref, ma_tup, ma_frl, ma_lst, fix_same, getS, Z.evE, Z.evT, Z.vv, tr_bl, b_len, b_isi, b_all, b_any, b_sum, b_str, b_intI, b_intB, b_tup, b_lst, c_eq, c_ne, c_in, c_ni, c_lt, c_gt, c_le, c_is, c_isn, c_isN, c_isnN, c_isI, c_isL, c_isR, o_add, o_sub, q_bl, q_int, q_str, q_NN, a_int, s0, e1, c, e2, e3, o_mod, lp]
/-- what stood stays -/
def Stays (h hh : Hh) : Prop := ∀ i, i < h.length → hh[i]? = h[i]?
theorem Stays.app {hh : Hh} (s : Stays h hh) (l : h.length ≤ hh.length) (g : Hh) : Stays h (hh ++ g) := fun i hi => by rw [List.getElem?_append_left (by omega)]; exact s i hi
theorem Stays.set {hh : Hh} (s : Stays h hh) {t : Nat} (o : O) (l : h.length ≤ t) : Stays h (hh.set t o) := fun i hi => by rw [List.getElem?_set_ne (by omega)]; exact s i hi
def cellE : EL := .cons false (.call "_law_mixed" (.cons false (.call "_law_cell_at" (.cons false (.var 0) (.cons false (.bin .Add (.var 1) (.var 5)) .nil))) (.cons false (.bin .Add (.var 1) (.var 5)) .nil))) .nil
def th34 : SL := (.cons (.set 3 (.bin .Add (.bin .Add (.var 3) (.bin .Mult (.lst (.cons false (.str "then") .nil)) (.bl1 .int (.cmp .NotEq (.var 4) (.lst .nil))))) (.var 6))) (.cons (.ex (.meth (.var 4) .append (.cons false (.var 7) .nil))) .nil))
def if34 : E := (.and (.cmp .LtE (.bin .Add (.bin .Add (.bl1 .len (.var 3)) (.int 1)) (.bl1 .len (.var 6))) (.int 40)) (.cmp .Lt (.bl1 .len (.var 4)) (.int 8)))
def bod34 : SL := (.cons (.asg (.cons (.nm 6) (.cons (.nm 7) .nil)) (.call "_law_clause" cellE)) (.cons (.ife if34 th34 .nil) .nil))
theorem b34_eq : b34 = (.cons (.set 3 (.lst .nil)) (.cons (.set 4 (.lst .nil)) (.cons (.fo (.nm 5) (.r1 (.var 2)) bod34) (.cons (.ret (.tup (.cons false (.var 3) (.cons false (.var 4) .nil)))) .nil)))) := rfl
theorem qt_nl {q : Q4} : ∀ xs, Q4.t q ≠ .lst xs := fun _ z => by cases z
theorem turn34 {d : D} {ns : List Int} {f p j : Int} {s t : Nat} {b6 b7 : Option D} {hh : Hh} {said : List Str} {qs : List Q4} (nd : ∀ xs, d ≠ .lst xs) (e : lsD hh d = some (ns.map D.int)) (l : ns.length ≤ 1000) (f0 : 0 ≤ f) (f1 : f ≤ 1000) (j0 : 0 ≤ j) (j1 : j < 1000) (es : IsL hh s said) (et : hh[t]? = some (.lst (qs.map Q4.t)))
    (cg : (qs = [] ∧ said = []) ∨ ChainG said qs) : ∃ s' a b said' qs' g, evB glob (C (k + 6)) bod34 [some d, some (.int f), some (.int p), some (.ref s), some (.ref t), some (.int j), b6, b7] hh =
      some (.nx [some d, some (.int f), some (.int p), some (.ref s'), some (.ref t), some (.int j), a, b], (hh ++ g).set t (.lst (qs'.map Q4.t))) ∧ (s' = s ∨ hh.length ≤ s') ∧ IsL (hh ++ g) s' said' ∧ ChainG said' qs' := by
  obtain ⟨v, ec⟩ := cell (k := k + 5) e l (show 0 ≤ f + j by omega)
  let S : Sl := [some d, some (.int f), some (.int p), some (.ref s), some (.ref t), some (.int j), b6, b7]
  have ej : (ev glob (C (k + 6)) (.bin .Add (.var 1) (.var 5))).v S hh = some (.ok (.int (f + j)), hh) := ev_bin (ev_v rfl) (ev_v rfl) o_add
  have ecl : (ev glob (C (k + 6)) (.call "_law_cell_at" (.cons false (.var 0) (.cons false (.bin .Add (.var 1) (.var 5)) .nil)))).v S hh = some (.ok (.int v), hh) := ev_cll (evAc (ev_v rfl) nd (evAc ej nli evAn)) ec fix_same
  obtain ⟨m, m0, m1, em⟩ := ev_mixed (k := k + 5) (h := hh) (S := S) (es := .cons false (.call "_law_cell_at" (.cons false (.var 0) (.cons false (.bin .Add (.var 1) (.var 5)) .nil))) (.cons false (.bin .Add (.var 1) (.var 5)) .nil)) (a := v) (b := f + j) (by omega) (by omega)
  have em' := em (evAc ecl nli (evAc ej nli evAn))
  obtain ⟨sb, q, G, gv⟩ := mkClause (k := k) (h := hh) (x := m)
  obtain ⟨n, g, e2, ln, en⟩ := gv.ev (S := S) (es := cellE) (evAc em' nli evAn)
  have lt : t < hh.length := (List.getElem?_eq_some_iff.mp et).1
  have lsb := G.le
  let S2 : Sl := [some d, some (.int f), some (.int p), some (.ref s), some (.ref t), some (.int j), some (.ref n), some (Q4.t q)]
  have estep : evB glob (C (k + 6)) bod34 S hh = evB glob (C (k + 6)) (.cons (.ife if34 th34 .nil) .nil) S2 (hh ++ g) := by
    unfold bod34
    rw [asg2 e2]
    rfl
  have es2 := es.app g
  have et2 : (hh ++ g)[t]? = some (.lst (qs.map Q4.t)) := by rw [List.getElem?_append_left lt]; exact et
  have l3 : lenD (hh ++ g) [.ref s] = some (.int said.length) := by rw [lenD_ref es2, List.length_map]
  have l6 : lenD (hh ++ g) [.ref n] = some (.int sb.length) := by rw [lenD_ref en, List.length_map]
  have l4 : lenD (hh ++ g) [.ref t] = some (.int qs.length) := by rw [lenD_ref et2, List.length_map]
  have tst : (ev glob (C (k + 6)) if34).t S2 (hh ++ g) = some (.ok (decide (said.length + 1 + sb.length ≤ 40) && decide (qs.length < 8)), hh ++ g) := by
    by_cases c1 : said.length + 1 + sb.length ≤ 40
    · have c1' : (said.length : Int) + 1 + sb.length ≤ 40 := by omega
      by_cases c2 : qs.length < 8
      · have c2' : (qs.length : Int) < 8 := by omega
        simp [if34, S2, evB, evS.eq_1, evS.eq_2, evS.eq_3, evS.eq_4, evS.eq_5, evS.eq_6, evS.eq_7, evS.eq_10, evS.eq_11, evS.eq_12, evS.eq_14, evS.eq_15, evS.eq_17, ev.eq_1, ev.eq_2, ev.eq_3, ev.eq_4, ev.eq_5, ev.eq_6, ev.eq_7, ev.eq_8, ev.eq_9, ev.eq_10, ev.eq_11, ev.eq_12, ev.eq_13, ev.eq_14, ev.eq_15, ev.eq_16, ev.eq_17, ev.eq_18, ev.eq_19, ev.eq_20, ev.eq_21, ev.eq_22, ev.eq_23, ev.eq_24, ev.eq_25, ev.eq_26, ev.eq_27, ev.eq_28, ev.eq_29, ev.eq_31, ev.eq_32, ev.eq_34, ev.eq_35, ev.eq_36, ev.eq_37, ev.eq_38, ev.eq_39, ev.eq_40, ev.eq_41, evA, evO, evC, evI, vt, tv, bd_ok, bs_ok, bq_nx, bq_rt, pu_ok, re_nx, re_rt, ma_bl, ma_int, ma_str, ma_non, ma_ty, ma_ref, ma_tup, ma_frl, ma_lst, fix_same, getS, Z.evE, Z.evT, Z.vv, tr_bl, b_len, b_isi, b_all, b_any, b_sum, b_str, b_intI, b_intB, b_tup, b_lst, c_eq, c_ne, c_in, c_ni, c_lt, c_gt, c_le, c_is, c_isn, c_isN, c_isnN, c_isI, c_isL, c_isR, o_add, o_sub, q_bl, q_int, q_str, q_NN, a_int, l3, l6, l4, c1, c1', c2, c2']
      · have c2' : ¬ (qs.length : Int) < 8 := by omega
        simp [if34, S2, evB, evS.eq_1, evS.eq_2, evS.eq_3, evS.eq_4, evS.eq_5, evS.eq_6, evS.eq_7, evS.eq_10, evS.eq_11, evS.eq_12, evS.eq_14, evS.eq_15, evS.eq_17, ev.eq_1, ev.eq_2, ev.eq_3, ev.eq_4, ev.eq_5, ev.eq_6, ev.eq_7, ev.eq_8, ev.eq_9, ev.eq_10, ev.eq_11, ev.eq_12, ev.eq_13, ev.eq_14, ev.eq_15, ev.eq_16, ev.eq_17, ev.eq_18, ev.eq_19, ev.eq_20, ev.eq_21, ev.eq_22, ev.eq_23, ev.eq_24, ev.eq_25, ev.eq_26, ev.eq_27, ev.eq_28, ev.eq_29, ev.eq_31, ev.eq_32, ev.eq_34, ev.eq_35, ev.eq_36, ev.eq_37, ev.eq_38, ev.eq_39, ev.eq_40, ev.eq_41, evA, evO, evC, evI, vt, tv, bd_ok, bs_ok, bq_nx, bq_rt, pu_ok, re_nx, re_rt, ma_bl, ma_int, ma_str, ma_non, ma_ty, ma_ref, ma_tup, ma_frl, ma_lst, fix_same, getS, Z.evE, Z.evT, Z.vv, tr_bl, b_len, b_isi, b_all, b_any, b_sum, b_str, b_intI, b_intB, b_tup, b_lst, c_eq, c_ne, c_in, c_ni, c_lt, c_gt, c_le, c_is, c_isn, c_isN, c_isnN, c_isI, c_isL, c_isR, o_add, o_sub, q_bl, q_int, q_str, q_NN, a_int, l3, l6, l4, c1, c1', c2, c2']
    · have c1' : ¬ (said.length : Int) + 1 + sb.length ≤ 40 := by omega
      simp [if34, S2, evB, evS.eq_1, evS.eq_2, evS.eq_3, evS.eq_4, evS.eq_5, evS.eq_6, evS.eq_7, evS.eq_10, evS.eq_11, evS.eq_12, evS.eq_14, evS.eq_15, evS.eq_17, ev.eq_1, ev.eq_2, ev.eq_3, ev.eq_4, ev.eq_5, ev.eq_6, ev.eq_7, ev.eq_8, ev.eq_9, ev.eq_10, ev.eq_11, ev.eq_12, ev.eq_13, ev.eq_14, ev.eq_15, ev.eq_16, ev.eq_17, ev.eq_18, ev.eq_19, ev.eq_20, ev.eq_21, ev.eq_22, ev.eq_23, ev.eq_24, ev.eq_25, ev.eq_26, ev.eq_27, ev.eq_28, ev.eq_29, ev.eq_31, ev.eq_32, ev.eq_34, ev.eq_35, ev.eq_36, ev.eq_37, ev.eq_38, ev.eq_39, ev.eq_40, ev.eq_41, evA, evO, evC, evI, vt, tv, bd_ok, bs_ok, bq_nx, bq_rt, pu_ok, re_nx, re_rt, ma_bl, ma_int, ma_str, ma_non, ma_ty, ma_ref, ma_tup, ma_frl, ma_lst, fix_same, getS, Z.evE, Z.evT, Z.vv, tr_bl, b_len, b_isi, b_all, b_any, b_sum, b_str, b_intI, b_intB, b_tup, b_lst, c_eq, c_ne, c_in, c_ni, c_lt, c_gt, c_le, c_is, c_isn, c_isN, c_isnN, c_isI, c_isL, c_isR, o_add, o_sub, q_bl, q_int, q_str, q_NN, a_int, l3, l6, l4, c1, c1']
  by_cases c : said.length + 1 + sb.length ≤ 40 ∧ qs.length < 8
  · have plq : ∃ ps, toPyL (hh ++ g) 99999 (qs.map Q4.t) = some ps ∧ PyData.canLayAll0 ps = true ∧ PyData.depthAll ps ≤ 60 := by
      have : PlL 4 27 (qs.map Q4.t) := by
        rcases cg with ⟨z, _⟩ | z
        · rw [z]; exact .nil
        · exact z.plL
      obtain ⟨ps, a, b, c⟩ := pl_pyL (hh := hh ++ g) this 99999 (by omega)
      exact ⟨ps, a, b, by omega⟩
    have e5 : eqD (hh ++ g) (.ref t) (.lst []) = some (decide (qs.map Q4.t = [])) := eq_nil (by simp only [lsD, et2]) plq
    have b1 : (ev glob (C (k + 6)) (.bl1 .int (.cmp .NotEq (.var 4) (.lst .nil)))).v S2 (hh ++ g) = some (.ok (.int (if !decide (qs.map Q4.t = []) then 1 else 0)), hh ++ g) := by
      simp [S2, evB, evS.eq_1, evS.eq_2, evS.eq_3, evS.eq_4, evS.eq_5, evS.eq_6, evS.eq_7, evS.eq_10, evS.eq_11, evS.eq_12, evS.eq_14, evS.eq_15, evS.eq_17, ev.eq_1, ev.eq_2, ev.eq_3, ev.eq_4, ev.eq_5, ev.eq_6, ev.eq_7, ev.eq_8, ev.eq_9, ev.eq_10, ev.eq_11, ev.eq_12, ev.eq_13, ev.eq_14, ev.eq_15, ev.eq_16, ev.eq_17, ev.eq_18, ev.eq_19, ev.eq_20, ev.eq_21, ev.eq_22, ev.eq_23, ev.eq_24, ev.eq_25, ev.eq_26, ev.eq_27, ev.eq_28, ev.eq_29, ev.eq_31, ev.eq_32, ev.eq_34, ev.eq_35, ev.eq_36, ev.eq_37, ev.eq_38, ev.eq_39, ev.eq_40, ev.eq_41, evA, evO, evC, evI, vt, tv, bd_ok, bs_ok, bq_nx, bq_rt, pu_ok, re_nx, re_rt, ma_bl, ma_int, ma_str, ma_non, ma_ty, ma_ref, ma_tup, ma_frl, ma_lst, fix_same, getS, Z.evE, Z.evT, Z.vv, tr_bl, b_len, b_isi, b_all, b_any, b_sum, b_str, b_intI, b_intB, b_tup, b_lst, c_eq, c_ne, c_in, c_ni, c_lt, c_gt, c_le, c_is, c_isn, c_isN, c_isnN, c_isI, c_isL, c_isR, o_add, o_sub, q_bl, q_int, q_str, q_NN, a_int, s0, e5]
    have op := opt_le (c := !decide (qs.map Q4.t = [])) (x := "then")
    have ls40 : said.length ≤ 40 := by omega
    have b2 : binD (hh ++ g) .Add (.ref s) (.lst ((opt (!decide (qs.map Q4.t = [])) "then").map D.str)) = some (.lst ((said ++ opt (!decide (qs.map Q4.t = [])) "then").map D.str)) := by
      rw [o_lst es2.ml rfl (by rw [List.length_map, List.length_map]; omega), List.map_append]
    have b3 : binD (hh ++ g) .Add (.lst ((said ++ opt (!decide (qs.map Q4.t = [])) "then").map D.str)) (.ref n) = some (.lst ((said ++ opt (!decide (qs.map Q4.t = [])) "then" ++ sb).map D.str)) := by
      rw [o_lst rfl (IsL.ml en) (by rw [List.length_map, List.length_map, List.length_append]; omega), ← List.map_append]
    have c1 := ev_bin (ev_bin (ev_v (S := S2) (i := 3) (h := hh ++ g) rfl) (ev_bin (ev_lst (evAc ev_s nls evAn) s1) b1 rep01) b2) (ev_v (i := 6) rfl) b3
    generalize hW : said ++ opt (!decide (qs.map Q4.t = [])) "then" ++ sb = W at *
    have e6 : (hh ++ g ++ [.lst (W.map D.str)])[t]? = some (.lst (qs.map Q4.t)) := by
      rw [List.append_assoc, List.getElem?_append_left lt]
      exact et
    have e7 := ev_app (Φ := C (k + 6)) (S := S2.set 3 (some (.ref (hh ++ g).length))) (i := 4) rfl e6 (ev_v (i := 7) rfl) qt_nl e6 (by rw [List.length_map]; omega)
    refine ⟨(hh ++ g).length, some (.ref n), some (Q4.t q), W, qs ++ [q], g ++ [.lst (W.map D.str)], ?_, .inr (by simp), by unfold IsL; rw [← List.append_assoc]; exact end_get, ?_⟩
    · show evB glob (C (k + 6)) bod34 S hh = _
      rw [estep, if_y (tst.trans (by rw [decide_eq_true c.1, decide_eq_true c.2]; rfl))]
      unfold th34
      rw [set_l c1, ex_v e7, List.append_assoc, show qs.map Q4.t ++ [Q4.t q] = (qs ++ [q]).map Q4.t by simp]
      simp only [evB, bq_nx]
      rfl
    · rcases cg with ⟨z, z2⟩ | z
      · subst z z2
        have : W = sb := by rw [← hW]; simp [opt]
        rw [this]
        exact .one G
      · have : qs ≠ [] := fun y => by
          subst y
          have e : pk (said ++ [("" : Str)]) (0 + said.length) = "" := by rw [Nat.zero_add, pk, List.getElem?_append_right (Nat.le_refl _), Nat.sub_self]; rfl
          exact (z.at_ (said ++ [("" : Str)]) 0 (fun m hm => by rw [Nat.zero_add, pk, List.getElem?_append_left hm, List.getElem?_eq_getElem hm]; rfl) (.inl e))
        have : W = said ++ ("then" : Str) :: sb := by rw [← hW]; simp [opt, this]
        rw [this]
        exact z.snoc G c.1 c.2
  · have cg' : ChainG said qs := by
      rcases cg with ⟨z, z2⟩ | z
      · subst z z2
        exact absurd ⟨by simp; omega, by simp⟩ c
      · exact z
    refine ⟨s, some (.ref n), some (Q4.t q), said, qs, g, ?_, .inl rfl, es2, cg'⟩
    show evB glob (C (k + 6)) bod34 S hh = _
    rw [estep, if_n (tst.trans (by
      rw [Bool.and_eq_false_iff.mpr]
      rw [decide_eq_false_iff_not, decide_eq_false_iff_not]
      exact Classical.not_and_iff_not_or_not.mp c))]
    have : (hh ++ g).set t (.lst (qs.map Q4.t)) = hh ++ g := by
      refine List.ext_getElem? fun i => ?_
      by_cases z : t = i
      · subst z
        rw [List.getElem?_set_self (by simp; omega), et2]
      · rw [List.getElem?_set_ne z]
    rw [this]
    simp only [evB]
    rfl
theorem ev_r1j {Φ : CallF} {S : Sl} {hh h1 : Hh} {a : E} {j : Int} (ea : (ev glob Φ a).v S hh = some (.ok (.int j), h1)) (c : -4611686018427387904 ≤ j ∧ j < 4611686018427387904) : evI glob Φ (.r1 a) S hh = some (.ok ⟨rngItems 0 j.toNat, []⟩, h1) := by
  simp [evI, ea, bd_ok, c]
theorem ev_r1 {Φ : CallF} {S : Sl} {hh h1 : Hh} {a : E} {p : Nat} (ea : (ev glob Φ a).v S hh = some (.ok (.int p), h1)) (l : p ≤ 1000) : evI glob Φ (.r1 a) S hh = some (.ok ⟨rngItems 0 p, []⟩, h1) := by
  have c : -4611686018427387904 ≤ (p : Int) ∧ (p : Int) < 4611686018427387904 := ⟨by omega, by omega⟩
  have := ev_r1j ea c
  rw [Int.toNat_natCast] at this
  exact this
/-- a line of the law's -/
theorem mkLine {d : D} {ns : List Int} {f : Int} {p : Nat} (nd : ∀ xs, d ≠ .lst xs) (e : ∀ hh, h.length ≤ hh.length → Stays h hh → lsD hh d = some (ns.map D.int)) (l : ns.length ≤ 1000) (f0 : 0 ≤ f) (f1 : f ≤ 1000) (p0 : 1 ≤ p) (p1 : p ≤ 900) :
    ∃ said qs s t g, ChainG said qs ∧ C (k + 7) "_law_line" [d, .int f, .int p] h = some (.ok (.tup [.ref s, .ref t]), h ++ g) ∧ h.length ≤ s ∧ h.length ≤ t ∧ IsL (h ++ g) s said ∧ (h ++ g)[t]? = some (.lst (qs.map Q4.t)) := by
  obtain ⟨S', h', ef, s, a, b, c, said, qs, g, rfl, rfl, is, it, l1, l2, lse⟩ := foGo_inv (st := []) (t := .nm 5) (b := evB glob (C (k + 6)) bod34) (fun i S hh => ∃ s a b c said qs g, S = [some d, some (.int f), some (.int p), some (.ref s), some (.ref (h.length + 1)), a, b, c] ∧ hh = h ++ g ∧ IsL hh s said ∧ hh[h.length + 1]? = some (.lst (qs.map Q4.t)) ∧ h.length ≤ s ∧ s ≠ h.length + 1 ∧
      (if i = 0 then qs = [] ∧ said = [] else ChainG said qs)) (fun _ _ _ _ => trivial)
    (rngItems 0 p) 0 [some d, some (.int f), some (.int p), some (.ref h.length), some (.ref (h.length + 1)), none, none, none] (h ++ [.lst [], .lst []]) (by
      rintro j y S hh hj ⟨s, a, b, c, said, qs, g, rfl, rfl, is, it, l1, l2, lse⟩
      have hj2 : j < (rngItems 0 p).length := (List.getElem?_eq_some_iff.mp hj).1
      have hj3 : j < p := by simpa [rngItems] using hj2
      have hy : y = .int (0 + (j : Nat)) := by
        unfold rngItems at hj
        rw [List.getElem?_map, List.getElem?_range hj3] at hj
        exact (Option.some.inj hj).symm
      subst hy
      rw [Nat.zero_add] at *
      have st : Stays h (h ++ g) := fun i hi => List.getElem?_append_left hi
      have lt : h.length + 1 < (h ++ g).length := (List.getElem?_eq_some_iff.mp it).1
      obtain ⟨s', a', b', said', qs', g', e1, e2, e3, e4⟩ := turn34 (k := k) (p := (p : Int)) (j := 0 + (j : Nat)) (b6 := b) (b7 := c) nd (e _ (by simp) st) l f0 f1 (by omega) (by omega) is it (by
        by_cases z : j = 0
        · rw [if_pos z] at lse; exact .inl lse
        · rw [if_neg z] at lse; exact .inr lse)
      have ns' : s' ≠ h.length + 1 := by
        rcases e2 with z | z
        · rw [z]; exact l2
        · omega
      refine ⟨_, _, _, rfl, e1, s', some (.int (0 + (j : Nat))), a', b', said', qs', (g ++ g').set 1 (.lst (qs'.map Q4.t)), rfl, ?_, ?_, ?_, ?_, ns', ?_⟩
      · rw [List.append_assoc, List.set_append_right _ _ (by omega), Nat.add_sub_cancel_left]
      · unfold IsL
        rw [List.getElem?_set_ne (Ne.symm ns')]
        exact e3
      · rw [List.getElem?_set_self (by rw [List.length_append]; omega)]
      · rcases e2 with z | z
        · rw [z]; exact l1
        · rw [List.length_append] at z; omega
      · rw [if_neg (by omega)]
        exact e4) ⟨h.length, none, none, none, [], [], [.lst [], .lst []], rfl, rfl, by unfold IsL; rw [List.getElem?_append_right (Nat.le_refl _), Nat.sub_self]; rfl, by rw [List.getElem?_append_right (by omega), Nat.add_sub_cancel_left]; rfl, Nat.le_refl _, by omega, by simp⟩
  have lr : (rngItems 0 p).length = p := by simp [rngItems]
  rw [lr, if_neg (by omega)] at lse
  have efo := ev_fo (Φ := C (k + 6)) (it := .r1 (.var 2)) (S := [some d, some (.int f), some (.int p), some (.ref h.length), some (.ref (h.length + 1)), none, none, none]) (h := h ++ [.lst [], .lst []]) (st := []) (ev_r1 (ev_v rfl) (by omega)) ef
  refine ⟨said, qs, s, h.length + 1, g, lse, ?_, l1, by omega, is, it⟩
  have l0 : ∀ S hh, (ev glob (C (k + 6)) (.lst .nil)).v S hh = some (.ok (.lst []), hh) := fun S hh => ev_lst evAn (by decide)
  rw [call_eq t34 rfl]
  show retOf (evB glob (C (k + 6)) b34 [some d, some (.int f), some (.int p), none, none, none, none, none] h) = _
  rw [b34_eq, set_l (l0 _ _)]
  simp only [List.set]
  rw [set_l (l0 _ _)]
  simp only [List.set, List.length_append, List.length_cons, List.length_nil, List.append_assoc, List.singleton_append, Nat.zero_add]
  rw [st_v efo, ret_v (ev_tup (evAc (ev_v (i := 3) rfl) nlr (evAc (ev_v (i := 4) rfl) nlr evAn)) s2)]
  rfl
end
end K3

namespace K3
open PySem L2 Z
section
variable {k : Nat} {h hh : Hh}
theorem f_verb {a b l d : D} : (clf a b l d).lookup ("verb" : Str) = some a := lk (by decide +kernel)
theorem f_what {a b l d : D} : (clf a b l d).lookup ("what" : Str) = some b := ln (by decide +kernel) (lk (by decide +kernel))
theorem f_link {a b l d : D} : (clf a b l d).lookup ("link" : Str) = some l := ln (by decide +kernel) (ln (by decide +kernel) (lk (by decide +kernel)))
theorem f_hold {a b l d : D} : (clf a b l d).lookup ("holder" : Str) = some d := ln (by decide +kernel) (ln (by decide +kernel) (ln (by decide +kernel) (lk (by decide +kernel))))
theorem n_told {a b l d : D} : (clf a b l d).lookup ("told" : Str) = none := nolk (ns := ["verb", "what", "link", "holder"]) rfl (by decide +kernel)
def Nl (q : Q4) : Prop := (∀ xs, q.a ≠ .lst xs) ∧ (∀ xs, q.b ≠ .lst xs) ∧ (∀ xs, q.l ≠ .lst xs) ∧ ∀ xs, q.d ≠ .lst xs
theorem pl_nl {n m : Nat} {d : D} (p : Pl n m d) : ∀ xs, d ≠ .lst xs := fun xs z => by cases p <;> cases z
theorem ChainG.nl {said : List Str} {qs : List Q4} (a : ChainG said qs) : ∀ q ∈ qs, Nl q := fun q m => by
  have p := a.pl q m
  unfold Q4.t at p
  cases p with
  | tup h =>
    cases h with
    | cons p1 h =>
      cases h with
      | cons p2 h =>
        cases h with
        | cons p3 h =>
          cases h with
          | cons p4 h => exact ⟨pl_nl p1, pl_nl p2, pl_nl p3, pl_nl p4⟩
theorem fld {n i : Nat} {q : Q4} {f : Str} {x : D} {S : Sl} {Φ : CallF} (s : getS S i = some (.ref n)) (e : hh[n]? = some q.o) (l : (clf q.a q.b q.l q.d).lookup f = some x) : (ev glob Φ (.fldc (.var i) f ["Clause"])).v S hh = some (.ok x, hh) := by
  have e' : hh[n]? = some (.ins "Clause" (clf q.a q.b q.l q.d)) := e
  rw [ev.eq_34]
  simp only [vt, ev_v s, bd_ok, e']
  simp only [List.mem_singleton, if_true, l, pu_ok]
def fldE (i : Nat) : EL := .cons false (.fldc (.var i) "verb" ["Clause"]) (.cons false (.fldc (.var i) "what" ["Clause"]) (.cons false (.fldc (.var i) "link" ["Clause"]) (.cons false (.fldc (.var i) "holder" ["Clause"]) .nil)))
theorem ev_flds {n i : Nat} {q : Q4} {S : Sl} {Φ : CallF} (s : getS S i = some (.ref n)) (e : hh[n]? = some q.o) (nl : Nl q) : (ev glob Φ (.tup (fldE i))).v S hh = some (.ok (Q4.t q), hh) :=
  ev_tup (evAc (fld s e f_verb) nl.1 (evAc (fld s e f_what) nl.2.1 (evAc (fld s e f_link) nl.2.2.1 (evAc (fld s e f_hold) nl.2.2.2 evAn)))) s4
theorem told {n : Nat} {q : Q4} (e : hh[n]? = some q.o) (nl : Nl q) : C (k + 1) "Clause.told" [.ref n] hh = some (.ok (Q4.t q), hh) := by
  rw [call_eq t17 rfl]
  show retOf (evB glob (C k) (.cons (.ret (.tup (fldE 0))) .nil) [some (.ref n)] hh) = _
  rw [ret_v (ev_flds rfl e nl)]
  rfl
theorem ev_told {n i : Nat} {q : Q4} {S : Sl} (s : getS S i = some (.ref n)) (e : hh[n]? = some q.o) (nl : Nl q) : (ev glob (C (k + 1)) (.omth (.var i) "Clause" "told" "Clause.told" .nil)).v S hh = some (.ok (Q4.t q), hh) := by
  have e' : hh[n]? = some (.ins "Clause" (clf q.a q.b q.l q.d)) := e
  rw [ev.eq_35]
  simp only [vt, ev_v s, bd_ok, e']
  simp only [n_told, and_self, if_true, evAn, bd_ok, told e nl, fix_same]
theorem lc_obs {Φ : CallF} {F : Q4 → D} {elt : E} {S : Sl} {st : List (Nat × List D)} {lo : Nat} (hs : stayB hh st) : ∀ (xs : List D) (qs : List Q4), (∀ q ∈ qs, ∀ n, hh[n]? = some (Q4.o q) → lcEl glob Φ elt (.nm 4) .no [4] S (.ref n) hh = some (.ok (some (F q)), hh)) → Obs hh lo xs qs → lcGo st (lcEl glob Φ elt (.nm 4) .no [4] S) xs hh = some (qs.map F, hh)
  | [], [], _, _ => by simp [lcGo, hs]
  | .ref n :: xs, q :: qs, each, ⟨_, e, r⟩ => by
    have ih := lc_obs hs xs qs (fun p m => each p (List.mem_cons_of_mem _ m)) r
    rw [lcGo]
    simp only [hs, if_true, each q (List.mem_cons_self ..) n e, ih, List.map_cons]
theorem el_of {Φ : CallF} {elt : E} {a b c d e : Option D} {n : Nat} {x : D} (t : (ev glob Φ elt).v [a, b, c, d, some (.ref n)] hh = some (.ok x, hh)) (nx : ∀ xs, x ≠ .lst xs) : lcEl glob Φ elt (.nm 4) .no [4] [a, b, c, d, e] (.ref n) hh = some (.ok (some x), hh) := by
  unfold lcEl
  have bt : bindT hh (.nm 4) (.ref n) (wipeS [a, b, c, d, e] [4]) = some [a, b, c, d, some (.ref n)] := rfl
  rw [bt]
  simp only [evC, Z.vv, t, bd_ok, mat_ok nx]
theorem ev_sq {Φ : CallF} {S : Sl} {i N : Nat} {xs : List D} (s : getS S i = some (.ref N)) (e : hh[N]? = some (.lst xs)) : evI glob Φ (.sq (.var i)) S hh = some (.ok ⟨xs, [(N, xs)]⟩, hh) := by
  have sq : sqD hh (.ref N) = some xs := by simp only [sqD, lsD, e]
  rw [evI.eq_1]
  simp only [ev_v s, bd_ok, sq]
  rfl
def lcE (elt : E) : E := .lc elt (.nm 4) (.sq (.var 2)) .no [4]
theorem join_said {s : Nat} {said : List Str} {qs : List Q4} (L : Line said qs) (is : IsL h s said) : mthD h " " .join (.ref s) = some (.str (Txt.join sp said)) := by
  have l1 : sp.length = 1 := by decide +kernel
  have h1 := sum8 said fun w m => (L.ok w m).2.2
  have h3 := L.most
  have q : sqD h (.ref s) = some (said.map D.str) := by unfold IsL at is; simp only [sqD, lsD, is]
  show (match sqD h (.ref s) with | some xs => (match strsD xs with | some ys => if (ys.map fun y : Str => y.length).sum + ys.length * sp.length ≤ 16777216 then some (D.str (Txt.join sp ys)) else none | none => none) | none => none) = _
  rw [q]
  show (match strsD (said.map D.str) with | some ys => if (ys.map fun y : Str => y.length).sum + ys.length * sp.length ≤ 16777216 then some (D.str (Txt.join sp ys)) else none | none => none) = _
  rw [strsD_map]
  refine if_pos ?_
  rw [l1]
  omega
theorem ev_join {s : Nat} {said : List Str} {qs : List Q4} {S : Sl} {Φ : CallF} (L : Line said qs) (is : IsL h s said) (e : getS S 0 = some (.ref s)) : (ev glob Φ (.met1 (.str " ") .join (.var 0))).v S h = some (.ok (.str (Txt.join sp said)), h) := by
  rw [ev.eq_25]
  simp only [vt, Z.vv, ev_s, bd_ok, ma_str, ev_v e, join_said L is, pu_ok]
theorem b35_eq : b35 = (.cons (.set 2 (.call "clauses_of" (.cons false (.met1 (.str " ") .join (.var 0)) .nil)))
    (.cons (.ife (.or (.not (.blt .isi (.cons false (.var 2) (.cons false (.typ "list" "list") .nil)))) (.not (.bl1 .all (lcE (.isiC (.var 4) "Clause"))))) (.cons (.ret (.bl false)) .nil) .nil)
    (.cons (.ife (.not (.call "_law_alike" (.cons false (lcE (.omth (.var 4) "Clause" "told" "Clause.told" .nil)) (.cons false (.var 1) .nil)))) (.cons (.ret (.bl false)) .nil) .nil)
    (.cons (.set 3 (lcE (.tup (fldE 4))))
    (.cons (.ex (.clr (.var 2)))
    (.cons (.ret (.call "_law_alike" (.cons false (.var 3) (.cons false (.var 1) .nil))))
    .nil)))))) := rfl
theorem right {s t : Nat} {said : List Str} {qs : List Q4} (cg : ChainG said qs) (is : IsL h s said) (it : h[t]? = some (.lst (qs.map Q4.t))) : ∃ g, C (k + 10) "_law_right" [.ref s, .ref t] h = some (.ok (.bl true), h ++ g) := by
  have L := cg.line
  obtain ⟨N, g, xs, e1, ln, en, ob⟩ := clauses_of (k := k) (h := h) L
  have efx : fix h (.ref N) (h ++ g) = some (.ok (.ref N), h ++ g) := by
    obtain ⟨q, r, _, rfl, _, _⟩ := L.at_
    match xs, ob with
    | .ref y :: xs, ob => exact fix_refs ln en ob.1
  have c1 : (ev glob (C (k + 9)) (.call "clauses_of" (.cons false (.met1 (.str " ") .join (.var 0)) .nil))).v [some (.ref s), some (.ref t), none, none, none] h = some (.ok (.ref N), h ++ g) := ev_cll (evAc (ev_join L is rfl) nls evAn) e1 efx
  generalize eH : h ++ g = H at *
  let S2 : Sl := [some (.ref s), some (.ref t), some (.ref N), none, none]
  have itH : H[t]? = some (.lst (qs.map Q4.t)) := by rw [← eH, List.getElem?_append_left (List.getElem?_eq_some_iff.mp it).1]; exact it
  have lqs := cg.l8
  have lxs : xs.length ≤ sizeLine := Nat.le_trans (by rw [ob.len]; omega : xs.length ≤ 8) (by decide)
  have st : stayB H [(N, xs)] := ⟨en, trivial⟩
  have lc1 : (ev glob (C (k + 9)) (lcE (.isiC (.var 4) "Clause"))).v S2 H = some (.ok (.lst (qs.map fun _ => D.bl true)), H) := ev_lc (ev_sq rfl en) lxs (lc_obs st xs qs (fun q _ n e => el_of (by
    have e' : H[n]? = some (.ins "Clause" (clf q.a q.b q.l q.d)) := e
    rw [ev.eq_40]
    simp only [vt, ev_v (show getS [some (.ref s), some (.ref t), some (.ref N), none, some (.ref n)] 4 = some (.ref n) from rfl), bd_ok, e', if_true]) (fun _ z => by cases z)) ob)
  have i1 : isinD H [.ref N, .ty "list"] = some (.bl true) := by simp [isinD, tyD, en, isiD]
  have o1 : overL (fun xs => (blsD xs).map fun ns => .bl (ns.all id)) H [.lst (qs.map fun _ => D.bl true)] = some (.bl true) := by
    simp only [overL, lsD, blsD_map (fun _ : Q4 => true)]
    simp
  have T1 : (ev glob (C (k + 9)) (.or (.not (.blt .isi (.cons false (.var 2) (.cons false (.typ "list" "list") .nil)))) (.not (.bl1 .all (lcE (.isiC (.var 4) "Clause")))))).t S2 H = some (.ok false, H) := by
    simp only [S2] at lc1 ⊢
    simp [evB, evS.eq_1, evS.eq_2, evS.eq_3, evS.eq_4, evS.eq_5, evS.eq_6, evS.eq_7, evS.eq_10, evS.eq_11, evS.eq_12, evS.eq_14, evS.eq_15, evS.eq_17, ev.eq_1, ev.eq_2, ev.eq_3, ev.eq_4, ev.eq_5, ev.eq_6, ev.eq_7, ev.eq_8, ev.eq_9, ev.eq_10, ev.eq_11, ev.eq_12, ev.eq_13, ev.eq_14, ev.eq_15, ev.eq_16, ev.eq_17, ev.eq_18, ev.eq_19, ev.eq_20, ev.eq_21, ev.eq_22, ev.eq_23, ev.eq_24, ev.eq_25, ev.eq_26, ev.eq_27, ev.eq_28, ev.eq_29, ev.eq_31, ev.eq_32, ev.eq_34, ev.eq_35, ev.eq_36, ev.eq_37, ev.eq_38, ev.eq_39, ev.eq_40, ev.eq_41, evA, evO, evC, evI, vt, tv, bd_ok, bs_ok, bq_nx, bq_rt, pu_ok, re_nx, re_rt, ma_bl, ma_int, ma_str, ma_non, ma_ty, ma_ref, ma_tup, ma_frl, ma_lst, fix_same, getS, Z.evE, Z.evT, Z.vv, tr_bl, b_len, b_isi, b_all, b_any, b_sum, b_str, b_intI, b_intB, b_tup, b_lst, c_eq, c_ne, c_in, c_ni, c_lt, c_gt, c_le, c_is, c_isn, c_isN, c_isnN, c_isI, c_isL, c_isR, o_add, o_sub, q_bl, q_int, q_str, q_NN, a_int, i1, lc1, o1]
  have lc2 : (ev glob (C (k + 9)) (lcE (.omth (.var 4) "Clause" "told" "Clause.told" .nil))).v S2 H = some (.ok (.lst (qs.map Q4.t)), H) := ev_lc (ev_sq rfl en) lxs (lc_obs st xs qs (fun q m n e => el_of (ev_told (k := k + 8) rfl e (cg.nl q m)) (fun _ z => by cases z)) ob)
  have lc3 : (ev glob (C (k + 9)) (lcE (.tup (fldE 4)))).v S2 H = some (.ok (.lst (qs.map Q4.t)), H) := ev_lc (ev_sq rfl en) lxs (lc_obs st xs qs (fun q m n e => el_of (ev_flds rfl e (cg.nl q m)) (fun _ z => by cases z)) ob)
  have al : ∀ {a : Nat} {h9 : Hh}, h9[a]? = some (.lst (qs.map Q4.t)) → h9[t]? = some (.lst (qs.map Q4.t)) → C (k + 9) "_law_alike" [.ref a, .ref t] h9 = some (.ok (.bl true), h9) := fun e1 e2 => by
    have z := alike_lst (k := k + 3) (n := 4) (m := 27) e1 e2 cg.plL (by omega)
    rw [show k + 3 + 4 + 2 = k + 9 by omega] at z
    exact z
  have itg : ∀ g', (H ++ g')[t]? = some (.lst (qs.map Q4.t)) := fun g' => by rw [List.getElem?_append_left (List.getElem?_eq_some_iff.mp itH).1]; exact itH
  have T2 : (ev glob (C (k + 9)) (.not (.call "_law_alike" (.cons false (lcE (.omth (.var 4) "Clause" "told" "Clause.told" .nil)) (.cons false (.var 1) .nil))))).t S2 H = some (.ok false, H) := by
    have c2 : (ev glob (C (k + 9)) (.call "_law_alike" (.cons false (lcE (.omth (.var 4) "Clause" "told" "Clause.told" .nil)) (.cons false (.var 1) .nil)))).v S2 H = some (.ok (.bl true), H) :=
      ev_cll (evAl lc2 (evAc (ev_v rfl) nlr evAn)) (al end_get (itg _)) (fix_app rfl (fun _ z => by cases z))
    have c3 : (ev glob (C (k + 9)) (.call "_law_alike" (.cons false (lcE (.omth (.var 4) "Clause" "told" "Clause.told" .nil)) (.cons false (.var 1) .nil)))).t S2 H = some (.ok true, H) := by
      have : ∀ f es, (ev glob (C (k + 9)) (.call f es)).t S2 H = bd ((ev glob (C (k + 9)) (.call f es)).v S2 H) fun x h1 => pu (truD h1 x) h1 := fun f es => by rw [ev.eq_21]; rfl
      rw [this, c2]
      rfl
    rw [ev.eq_14]
    simp only [c3, bd_ok, Bool.not_true]
  have lN : N < H.length := (List.getElem?_eq_some_iff.mp en).1
  have tN : t ≠ N := by have := (List.getElem?_eq_some_iff.mp it).1; omega
  have clr : (ev glob (C (k + 9)) (.clr (.var 2))).v (S2.set 3 (some (.ref H.length))) (H ++ [O.lst (qs.map Q4.t)]) = some (.ok .non, List.set (H ++ [O.lst (qs.map Q4.t)]) N (O.lst [])) := by
    have e5 : (H ++ [O.lst (qs.map Q4.t)])[N]? = some (.lst xs) := by rw [List.getElem?_append_left lN]; exact en
    have s5 : getS (S2.set 3 (some (.ref H.length))) 2 = some (.ref N) := rfl
    rw [ev.eq_41]
    simp only [vt, Z.vv, ev_v s5, bd_ok, ma_ref, e5]
  obtain ⟨g2, eg⟩ : ∃ g2, List.set (H ++ [O.lst (qs.map Q4.t)]) N (O.lst []) = h ++ g2 := by
    refine ⟨List.set (g ++ [O.lst (qs.map Q4.t)]) (N - h.length) (O.lst []), ?_⟩
    rw [← eH, List.append_assoc, List.set_append_right _ _ ln]
  refine ⟨g2, ?_⟩
  rw [call_eq t35 rfl]
  show retOf (evB glob (C (k + 9)) b35 [some (.ref s), some (.ref t), none, none, none] h) = _
  rw [b35_eq, set_v c1 nlr]
  show retOf (evB glob (C (k + 9)) _ S2 H) = _
  rw [if_n T1, if_n T2, set_l lc3, ex_v clr, ret_v (ev_cll (evAc (ev_v (i := 3) rfl) nlr (evAc (ev_v (i := 1) rfl) nlr evAn)) (al (a := H.length) ?_ ?_) fix_same), eg]
  · rfl
  · rw [List.getElem?_set_ne (by omega)]; exact end_get
  · rw [List.getElem?_set_ne (Ne.symm tN)]; exact itg _
end
end K3

namespace K3
open PySem L2 Z
section
variable {k : Nat} {h hh : Hh}
theorem ev_slc {Φ : CallF} {S : Sl} {i : Nat} {n : Int} {d : D} {xs : List D} (s : getS S i = some d) (e : lsD h d = some xs) : (ev glob Φ (.slc (.var i) .no (.yes (.int n)))).v S h = some (.ok (.lst (cutD xs none (some n))), h) := by
  have e1 : slcD h d none (some n) = some (.lst (cutD xs none (some n))) := by
    have : slcD h d none (some n) = (lsD h d).map fun xs => .lst (cutD xs none (some n)) := by cases d <;> first | rfl | cases e
    rw [this, e]
    rfl
  rw [ev.eq_29]
  simp only [vt, ev_v s, bd_ok, evO, ev_i, e1, pu_ok]
theorem cut_le {xs : List D} {lo hi : Option Int} : (cutD xs lo hi).length ≤ xs.length := by
  unfold cutD
  rw [List.length_take, List.length_drop]
  omega
theorem cut_mem {xs : List D} {lo hi : Option Int} {x : D} (m : x ∈ cutD xs lo hi) : x ∈ xs := List.mem_of_mem_drop (List.mem_of_mem_take m)
theorem en_mem : ∀ {xs : List D} {k : Nat} {y : D}, y ∈ enItems k xs → ∃ (j : Nat) (x : D), x ∈ xs ∧ k ≤ j ∧ j < k + xs.length ∧ y = .tup [.int j, x]
  | [], k, y, m => by simp [enItems] at m
  | x :: xs, k, y, m => by
    rcases List.mem_cons.mp m with rfl | m
    · exact ⟨k, x, List.mem_cons_self .., Nat.le_refl _, by simp, rfl⟩
    · obtain ⟨j, z, hz, l1, l2, e⟩ := en_mem m
      exact ⟨j, z, List.mem_cons_of_mem _ hz, by omega, by rw [List.length_cons]; omega, e⟩
def ln1 : E := .call "_law_line" (.cons false (.var 0) (.cons false (.int 0) (.cons false (.bin .Add (.bl1 .len (.slc (.var 0) .no (.yes (.int 30)))) (.int 1)) .nil)))
def ln2 : E := .call "_law_line" (.cons false (.revl (.var 0)) (.cons false (.int 40) (.cons false (.int 4) .nil)))
def body1 : SL := (.cons (.ife (.not (.call "_law_right" (.cons false (.var 2) (.cons false (.var 3) .nil)))) (.cons (.ret (.bl false)) .nil) .nil) .nil)
def body2 : SL := (.cons (.asg (.cons (.nm 2) (.cons (.nm 6) .nil)) (.call "_law_clause" (.cons false (.call "_law_mixed" (.cons false (.var 5) (.cons false (.bin .Add (.var 4) (.int 60)) .nil))) .nil)))
    (.cons (.ife (.not (.call "_law_right" (.cons false (.var 2) (.cons false (.lst (.cons false (.var 6) .nil)) .nil)))) (.cons (.ret (.bl false)) .nil) .nil) .nil))
theorem b36_eq : b36 = (.cons (.set 1 (.lst (.cons false ln1 (.cons false ln2 .nil)))) (.cons (.fo (.tp (.cons (.nm 2) (.cons (.nm 3) .nil))) (.sq (.bin .Add (.var 1) (.slc (.var 1) .no (.yes (.int 1))))) body1)
    (.cons (.fo (.tp (.cons (.nm 4) (.cons (.nm 5) .nil))) (.en (.bin .Add (.slc (.var 0) .no (.yes (.int 40))) (.lst (.cons false (.int 1) .nil)))) body2) (.cons (.ret (.bl true)) .nil)))) := rfl
theorem not_t {Φ : CallF} {S : Sl} {f : Str} {es : EL} {h1 : Hh} (c : (ev glob Φ (.call f es)).v S h = some (.ok (.bl true), h1)) : (ev glob Φ (.not (.call f es))).t S h = some (.ok false, h1) := by
  have : (ev glob Φ (.call f es)).t S h = bd ((ev glob Φ (.call f es)).v S h) fun x h1 => pu (truD h1 x) h1 := by rw [ev.eq_21]; rfl
  have c3 : (ev glob Φ (.call f es)).t S h = some (.ok true, h1) := by rw [this, c]; rfl
  rw [ev.eq_14]
  simp only [c3, bd_ok, Bool.not_true]
structure Pair (hh : Hh) (d : D) : Prop where
  ex : ∃ s t said qs, d = .tup [.ref s, .ref t] ∧ ChainG said qs ∧ IsL hh s said ∧ hh[t]? = some (.lst (qs.map Q4.t))
theorem Pair.app {d : D} (p : Pair hh d) (g : Hh) : Pair (hh ++ g) d := by
  obtain ⟨s, t, said, qs, e, c, is, it⟩ := p.ex
  exact ⟨s, t, said, qs, e, c, is.app g, by rw [List.getElem?_append_left (List.getElem?_eq_some_iff.mp it).1]; exact it⟩
theorem turn1 {x0 x1 a b c d e : Option D} {p : D} (P : Pair hh p) : ∃ S1, bindT hh (.tp (.cons (.nm 2) (.cons (.nm 3) .nil))) p [x0, x1, a, b, c, d, e] = some S1 ∧ ∃ y z, S1 = [x0, x1, y, z, c, d, e] ∧ evB glob (C (k + 10 + 1)) body1 S1 hh = some (.nx S1, hh) := by
  obtain ⟨s, t, said, qs, rfl, cg, is, it⟩ := P.ex
  obtain ⟨g, e1⟩ := right (k := k + 1) cg is it
  refine ⟨[x0, x1, some (.ref s), some (.ref t), c, d, e], rfl, _, _, rfl, ?_⟩
  unfold body1
  rw [show k + 1 + 10 = k + 10 + 1 by omega] at e1
  rw [if_n (not_t (ev_cll (evAc (ev_v (i := 2) rfl) nlr (evAc (ev_v (i := 3) rfl) nlr evAn)) e1 (fix_app rfl (fun _ z => by cases z))))]
  simp only [evB]
theorem turn2 {x0 x1 a b e c d : Option D} {j : Nat} {v : Int} (hj : j ≤ 1000) : ∃ S1, bindT hh (.tp (.cons (.nm 4) (.cons (.nm 5) .nil))) (.tup [.int j, .int v]) [x0, x1, a, b, c, d, e] = some S1 ∧ ∃ y z u t s g, evB glob (C (k + 11)) body2 S1 hh = some (.nx [x0, x1, y, z, u, t, s], hh ++ g) := by
  refine ⟨[x0, x1, a, b, some (.int j), some (.int v), e], rfl, ?_⟩
  let S : Sl := [x0, x1, a, b, some (.int j), some (.int v), e]
  obtain ⟨m, m0, m1, em⟩ := ev_mixed (k := k + 10) (h := hh) (S := S) (es := .cons false (.var 5) (.cons false (.bin .Add (.var 4) (.int 60)) .nil)) (a := v) (b := (j : Int) + 60) (by omega) (by omega)
  have em' := em (evAc (ev_v (i := 5) rfl) nli (evAc (ev_bin (ev_v (i := 4) rfl) ev_i o_add) nli evAn))
  obtain ⟨sb, q, G, gv⟩ := mkClause (k := k + 5) (h := hh) (x := m)
  rw [show k + 5 + 6 = k + 11 by omega] at gv
  obtain ⟨n, g, e2, ln, en⟩ := gv.ev (S := S) (es := .cons false (.call "_law_mixed" (.cons false (.var 5) (.cons false (.bin .Add (.var 4) (.int 60)) .nil))) .nil) (evAc em' nli evAn)
  obtain ⟨g2, e3⟩ := right (k := k + 1) (h := hh ++ g ++ [.lst [Q4.t q]]) (s := n) (t := (hh ++ g).length) (.one G) (IsL.app en _) end_get
  rw [show k + 1 + 10 = k + 11 by omega] at e3
  refine ⟨some (.ref n), b, some (.int j), some (.int v), some (Q4.t q), g, ?_⟩
  show evB glob (C (k + 11)) body2 S hh = _
  unfold body2
  rw [asg2 e2]
  rw [if_n (not_t (ev_cll (evAc (ev_v (i := 2) rfl) nlr (evAl (ev_lst (evAc (ev_v (i := 6) rfl) qt_nl evAn) s1) evAn)) e3 (by rw [List.append_assoc]; exact fix_app rfl (fun _ z => by cases z))))]
  simp only [evB]
  rfl
theorem law_run {ns : List Int} (hn : ns.length ≤ 63) : ∃ h', C (k + 12) "law" [.frl (ns.map D.int)] [] = some (.ok (.bl true), h') := by
  let S0 : Sl := [some (.frl (ns.map D.int)), none, none, none, none, none, none]
  have ls : ∀ hh, lsD hh (.frl (ns.map D.int)) = some (ns.map D.int) := fun _ => rfl
  -- the first line
  have c30 := cut_le (xs := ns.map D.int) (lo := none) (hi := some 30)
  rw [List.length_map] at c30
  obtain ⟨p, hp⟩ : ∃ p : Nat, p = (cutD (ns.map D.int) none (some 30)).length + 1 := ⟨_, rfl⟩
  obtain ⟨sd1, qs1, a1, b1, g1, G1, e1, la1, lb1, is1, it1⟩ := mkLine (k := k + 4) (h := []) (d := .frl (ns.map D.int)) (ns := ns) (f := 0) (p := p) (fun _ z => by cases z) (fun hh _ _ => ls hh) (by omega) (by omega) (by omega) (by omega) (by omega)
  rw [show k + 4 + 7 = k + 11 by omega] at e1
  rw [List.nil_append] at e1 is1 it1
  have v1 : (ev glob (C (k + 11)) ln1).v S0 [] = some (.ok (.tup [.ref a1, .ref b1]), g1) := by
    refine ev_cll (evAc (ev_v (i := 0) rfl) (fun _ z => by cases z) (evAc ev_i nli (evAc (x := .int p) ?_ nli evAn))) e1 (fix_not (by simp only [clD, clL]; rfl) (fun _ z => by cases z))
    have l1 : (ev glob (C (k + 11)) (.bl1 .len (.slc (.var 0) .no (.yes (.int 30))))).v S0 [] = some (.ok (.int (cutD (ns.map D.int) none (some 30)).length), []) := by
      rw [ev.eq_23]
      simp only [vt, ev_slc (S := S0) (i := 0) rfl (ls []), bd_ok, b_len]
      rfl
    refine ev_bin l1 ev_i ?_
    rw [o_add, hp]
    rfl
  -- the second one
  have rv : (ev glob (C (k + 11)) (.revl (.var 0))).v S0 g1 = some (.ok (.lst ((ns.reverse).map D.int)), g1) := by
    rw [ev.eq_38]
    simp only [vt, ev_v (show getS S0 0 = some (.frl (ns.map D.int)) from rfl), bd_ok, revD, ls, Option.map_some, List.map_reverse, pu_ok]
  obtain ⟨sd2, qs2, a2, b2, g2, G2, e2, la2, lb2, is2, it2⟩ := mkLine (k := k + 4) (h := g1 ++ [.lst ((ns.reverse).map D.int)]) (d := .ref g1.length) (ns := ns.reverse) (f := 40) (p := 4) (fun _ z => by cases z) (fun hh hl st => by
    have := st g1.length (by simp)
    rw [end_get] at this
    simp only [lsD, this]) (by rw [List.length_reverse]; omega) (by omega) (by omega) (by omega) (by omega)
  rw [show k + 4 + 7 = k + 11 by omega] at e2
  have v2 : (ev glob (C (k + 11)) ln2).v S0 g1 = some (.ok (.tup [.ref a2, .ref b2]), g1 ++ [.lst ((ns.reverse).map D.int)] ++ g2) := by
    refine ev_cll (evAl rv (evAc ev_i nli (evAc ev_i nli evAn))) e2 (fix_not ?_ (fun _ z => by cases z))
    rw [List.length_append, List.length_singleton] at la2
    simp only [clD, clL]
    rw [decide_eq_false (by omega)]
    rfl
  generalize eG : g1 ++ [O.lst ((ns.reverse).map D.int)] ++ g2 = H at *
  have P1 : Pair H (.tup [.ref a1, .ref b1]) := by
    rw [← eG, List.append_assoc]
    exact Pair.app ⟨a1, b1, sd1, qs1, rfl, G1, is1, it1⟩ _
  have P2 : Pair H (.tup [.ref a2, .ref b2]) := ⟨a2, b2, sd2, qs2, rfl, G2, is2, it2⟩
  let items : List D := [.tup [.ref a1, .ref b1], .tup [.ref a2, .ref b2]]
  have vl : (ev glob (C (k + 11)) (.lst (.cons false ln1 (.cons false ln2 .nil)))).v S0 [] = some (.ok (.lst items), H) := ev_lst (evAc v1 nlt (evAc v2 nlt evAn)) s2
  let H1 : Hh := H ++ [.lst items]
  let S1 : Sl := [some (.frl (ns.map D.int)), some (.ref H.length), none, none, none, none, none]
  have eI : H1[H.length]? = some (.lst items) := end_get
  have it3 : evI glob (C (k + 11)) (.sq (.bin .Add (.var 1) (.slc (.var 1) .no (.yes (.int 1))))) S1 H1 = some (.ok ⟨items ++ [.tup [.ref a1, .ref b1]], []⟩, H1) := by
    have eL : lsD H1 (.ref H.length) = some items := by simp only [lsD, eI]
    have b : (ev glob (C (k + 11)) (.bin .Add (.var 1) (.slc (.var 1) .no (.yes (.int 1))))).v S1 H1 = some (.ok (.lst (items ++ [.tup [.ref a1, .ref b1]])), H1) :=
      ev_bin (ev_v (i := 1) rfl) (ev_slc (S := S1) (i := 1) rfl eL) (o_lst (by simp only [mlD, eI]) rfl (by show 2 + 1 ≤ 100000; omega))
    rw [evI.eq_1]
    simp only [b, bd_ok, sqD, lsD]
    rfl
  have pair : ∀ x ∈ items ++ [.tup [.ref a1, .ref b1]], Pair H1 x := fun x m => by
    have : x = .tup [.ref a1, .ref b1] ∨ x = .tup [.ref a2, .ref b2] := by
      simp only [items, List.cons_append, List.nil_append, List.mem_cons, List.not_mem_nil, or_false] at m
      rcases m with m | m | m
      · exact .inl m
      · exact .inr m
      · exact .inl m
    rcases this with rfl | rfl
    · exact P1.app _
    · exact P2.app _
  obtain ⟨Sa, Ha, ef1, a, b, rfl, rfl⟩ := foGo_inv (st := []) (t := .tp (.cons (.nm 2) (.cons (.nm 3) .nil))) (b := evB glob (C (k + 11)) body1) (fun _ S g => ∃ a b, S = [some (.frl (ns.map D.int)), some (.ref H.length), a, b, none, none, none] ∧ g = H1) (fun _ _ _ _ => trivial)
    (items ++ [.tup [.ref a1, .ref b1]]) 0 S1 H1 (by
      rintro j y S g hj ⟨a, b, rfl, rfl⟩
      obtain ⟨S2, q1, y', z', rfl, q2⟩ := turn1 (k := k) (x0 := some (.frl (ns.map D.int))) (x1 := some (.ref H.length)) (a := a) (b := b) (c := none) (d := none) (e := none) (pair y (List.mem_of_getElem? hj))
      exact ⟨_, _, _, q1, q2, y', z', rfl, rfl⟩) ⟨none, none, rfl, rfl⟩
  have efo1 := ev_fo it3 ef1
  let S3 : Sl := [some (.frl (ns.map D.int)), some (.ref H.length), a, b, none, none, none]
  have it4 : evI glob (C (k + 11)) (.en (.bin .Add (.slc (.var 0) .no (.yes (.int 40))) (.lst (.cons false (.int 1) .nil)))) S3 H1 = some (.ok ⟨enItems 0 (cutD (ns.map D.int) none (some 40) ++ [.int 1]), []⟩, H1) := by
    have c40 := cut_le (xs := ns.map D.int) (lo := none) (hi := some 40)
    rw [List.length_map] at c40
    have b : (ev glob (C (k + 11)) (.bin .Add (.slc (.var 0) .no (.yes (.int 40))) (.lst (.cons false (.int 1) .nil)))).v S3 H1 = some (.ok (.lst (cutD (ns.map D.int) none (some 40) ++ [.int 1])), H1) :=
      ev_bin (ev_slc (S := S3) (i := 0) rfl (ls _)) (ev_lst (evAc ev_i nli evAn) s1) (o_lst rfl rfl (by simp only [List.length_singleton]; omega))
    rw [evI.eq_4]
    simp only [b, bd_ok, lsD]
    rfl
  have iv : ∀ y ∈ enItems 0 (cutD (ns.map D.int) none (some 40) ++ [.int 1]), ∃ (j : Nat) (v : Int), j ≤ 1000 ∧ y = .tup [.int j, .int v] := fun y m => by
    have c40 := cut_le (xs := ns.map D.int) (lo := none) (hi := some 40)
    rw [List.length_map] at c40
    obtain ⟨j, x, mx, _, l2, rfl⟩ := en_mem m
    rw [List.length_append, List.length_singleton] at l2
    rcases List.mem_append.mp mx with z | z
    · obtain ⟨v, _, rfl⟩ := List.mem_map.mp (cut_mem z)
      exact ⟨j, v, by omega, rfl⟩
    · rw [List.mem_singleton.mp z]
      exact ⟨j, 1, by omega, rfl⟩
  obtain ⟨Sb, Hb, ef2, _⟩ := foGo_inv (st := []) (t := .tp (.cons (.nm 4) (.cons (.nm 5) .nil))) (b := evB glob (C (k + 11)) body2) (fun _ S _ => ∃ a b c d e, S = [some (.frl (ns.map D.int)), some (.ref H.length), a, b, c, d, e]) (fun _ _ _ _ => trivial)
    (enItems 0 (cutD (ns.map D.int) none (some 40) ++ [.int 1])) 0 S3 H1 (by
      rintro j y S g hj ⟨a, b, c, d, e, rfl⟩
      obtain ⟨j', v, lj, rfl⟩ := iv y (List.mem_of_getElem? hj)
      obtain ⟨S2, q1, y', z', u', t', s', g', q2⟩ := turn2 (k := k) (hh := g) (x0 := some (.frl (ns.map D.int))) (x1 := some (.ref H.length)) (a := a) (b := b) (c := c) (d := d) (e := e) (v := v) lj
      exact ⟨_, _, _, q1, q2, y', z', u', t', s', rfl⟩) ⟨_, _, _, _, _, rfl⟩
  have efo2 := ev_fo it4 ef2
  refine ⟨Hb, ?_⟩
  rw [call_eq t36 rfl]
  show retOf (evB glob (C (k + 11)) b36 S0 []) = _
  have tru : (ev glob (C (k + 11)) (.bl true)).v Sb Hb = some (.ok (.bl true), Hb) := by rw [ev.eq_4]; rfl
  rw [b36_eq, set_l vl]
  show retOf (evB glob (C (k + 11)) _ S1 H1) = _
  rw [st_v efo1, st_v efo2, ret_v tru]
  rfl
end
theorem run : ∀ ns : List Int, ns.length ≤ 63 → ∃ h', Z.calls glob T 20 "law" [.frl (ns.map Z.D.int)] [] = some (.ok (.bl true), h') := fun ns hn => law_run (k := 8) hn
end K3

namespace K3
open PySem L2 Z
def top (i : Nat) : Stmt := PySem.Challenge.pw_worldtale_k13_lines_parted.main.body.getD i (.Pass ⟨0, 0, 0, 0⟩)
def r0 : Row := ⟨"_wall", "_wall", top 0, ["k"], ["k"], b0⟩
def r1 : Row := ⟨"is_word", "is_word", top 11, ["thing"], ["thing", "sign"], b1⟩
def r2 : Row := ⟨"is_reserved", "is_reserved", top 12, ["thing"], ["thing"], b2⟩
def r3 : Row := ⟨"is_name", "is_name", top 13, ["thing"], ["thing"], b3⟩
def r4 : Row := ⟨"words_of", "words_of", top 14, ["row"], ["row", "words"], b4⟩
def r5 : Row := ⟨"__init__", "Cursor.__init__", inClass (top 16) 0, ["self", "row", "words"], ["self", "row", "words"], b5⟩
def r6 : Row := ⟨"refuse", "Cursor.refuse", inClass (top 16) 1, ["self"], ["self"], b6⟩
def r7 : Row := ⟨"refuse_row", "Cursor.refuse_row", inClass (top 16) 3, ["self"], ["self"], b7⟩
def r8 : Row := ⟨"peek", "Cursor.peek", inClass (top 16) 4, ["self"], ["self"], b8⟩
def r9 : Row := ⟨"take_next", "Cursor.take_next", inClass (top 16) 5, ["self"], ["self", "word"], b9⟩
def r10 : Row := ⟨"skip", "Cursor.skip", inClass (top 16) 6, ["self", "word"], ["self", "word"], b10⟩
def r11 : Row := ⟨"take_word", "Cursor.take_word", inClass (top 16) 7, ["self", "word"], ["self", "word"], b11⟩
def r12 : Row := ⟨"take_one_of", "Cursor.take_one_of", inClass (top 16) 8, ["self", "words"], ["self", "words"], b12⟩
def r13 : Row := ⟨"take_name", "Cursor.take_name", inClass (top 16) 9, ["self"], ["self"], b13⟩
def r14 : Row := ⟨"take_figure", "Cursor.take_figure", inClass (top 16) 10, ["self", "least", "most"], ["self", "least", "most"], b14⟩
def r15 : Row := ⟨"finish", "Cursor.finish", inClass (top 16) 11, ["self"], ["self"], b15⟩
def r16 : Row := ⟨"__init__", "Clause.__init__", inClass (top 23) 0, ["self", "verb", "what", "link", "holder"], ["self", "verb", "what", "link", "holder"], b16⟩
def r17 : Row := ⟨"told", "Clause.told", inClass (top 23) 1, ["self"], ["self"], b17⟩
def r18 : Row := ⟨"clauses_of", "clauses_of", top 24, ["line"], ["line", "words", "word"], b18⟩
def r19 : Row := ⟨"read_clauses", "read_clauses", top 25, ["cursor"], ["cursor", "found"], b19⟩
def r20 : Row := ⟨"read_clause", "read_clause", top 26, ["cursor"], ["cursor", "verb", "phrase", "link"], b20⟩
def r21 : Row := ⟨"read_phrase", "read_phrase", top 27, ["cursor"], ["cursor"], b21⟩
def r22 : Row := ⟨"read_holder", "read_holder", top 28, ["cursor"], ["cursor"], b22⟩
def r23 : Row := ⟨"read_nouns", "read_nouns", top 29, ["cursor"], ["cursor", "found"], b23⟩
def r24 : Row := ⟨"read_noun", "read_noun", top 30, ["cursor"], ["cursor", "found"], b24⟩
def r25 : Row := ⟨"are_unlike", "are_unlike", top 31, ["words"], ["words"], b25⟩
def r26 : Row := ⟨"_law_mixed", "_law_mixed", top 33, ["_law_cell", "_law_k"], ["_law_cell", "_law_k", "_law_number"], b26⟩
def r27 : Row := ⟨"_law_cell_at", "_law_cell_at", top 34, ["_law_script", "_law_k"], ["_law_script", "_law_k"], b27⟩
def r28 : Row := ⟨"_law_alike", "_law_alike", top 35, ["_law_found", "_law_due"], ["_law_found", "_law_due", "_law_one", "_law_other"], b28⟩
def r29 : Row := ⟨"_law_word", "_law_word", top 36, ["_law_number"], ["_law_number", "_law_some"], b29⟩
def r30 : Row := ⟨"_law_noun", "_law_noun", top 37, ["_law_number"], ["_law_number", "_law_words", "_law_k", "_law_word_here"], b30⟩
def r31 : Row := ⟨"_law_nouns", "_law_nouns", top 38, ["_law_number"], ["_law_number", "_law_said", "_law_told", "_law_k", "_law_one"], b31⟩
def r32 : Row := ⟨"_law_phrase", "_law_phrase", top 39, ["_law_number"], ["_law_number", "_law_way", "_law_said", "_law_told"], b32⟩
def r33 : Row := ⟨"_law_clause", "_law_clause", top 40, ["_law_number"], ["_law_number", "_law_way", "_law_more", "_law_link", "_law_one", "_law_word_here", "_law_verb", "_law_said", "_law_told"], b33⟩
def r34 : Row := ⟨"_law_line", "_law_line", top 41, ["_law_script", "_law_first", "_law_most"], ["_law_script", "_law_first", "_law_most", "_law_said", "_law_told", "_law_k", "_law_words", "_law_clause_here"], b34⟩
def r35 : Row := ⟨"_law_right", "_law_right", top 42, ["_law_said", "_law_due"], ["_law_said", "_law_due", "_law_found", "_law_fields", "_law_one"], b35⟩
def r36 : Row := ⟨"law", "law", top 43, ["_law_script"], ["_law_script", "_law_lines", "_law_said", "_law_due", "_law_k", "_law_cell", "_law_told"], b36⟩
def r37 : Row := ⟨"refuse_at", "Cursor.refuse_at", inClass (top 16) 2, ["self", "word"], ["self", "word"], b37⟩
def tab : Tab := [(("_wall" : Str), r0), (("is_word" : Str), r1), (("is_reserved" : Str), r2), (("is_name" : Str), r3), (("words_of" : Str), r4), (("Cursor.__init__" : Str), r5), (("Cursor.refuse" : Str), r6), (("Cursor.refuse_row" : Str), r7), (("Cursor.peek" : Str), r8), (("Cursor.take_next" : Str), r9), (("Cursor.skip" : Str), r10), (("Cursor.take_word" : Str), r11), (("Cursor.take_one_of" : Str), r12), (("Cursor.take_name" : Str), r13), (("Cursor.take_figure" : Str), r14), (("Cursor.finish" : Str), r15), (("Clause.__init__" : Str), r16), (("Clause.told" : Str), r17), (("clauses_of" : Str), r18), (("read_clauses" : Str), r19), (("read_clause" : Str), r20), (("read_phrase" : Str), r21), (("read_holder" : Str), r22), (("read_nouns" : Str), r23), (("read_noun" : Str), r24), (("are_unlike" : Str), r25), (("_law_mixed" : Str), r26), (("_law_cell_at" : Str), r27), (("_law_alike" : Str), r28), (("_law_word" : Str), r29), (("_law_noun" : Str), r30), (("_law_nouns" : Str), r31), (("_law_phrase" : Str), r32), (("_law_clause" : Str), r33), (("_law_line" : Str), r34), (("_law_right" : Str), r35), (("law" : Str), r36), (("Cursor.refuse_at" : Str), r37)]
theorem tnd : (tab.map (·.1)).Nodup := by decide +kernel
theorem tT : Tab.T tab = T := Tab.T_eq tab rfl
theorem e0 : tab.lookup ("_wall" : Str) = some r0 := look_of 0 tnd rfl
theorem e1 : tab.lookup ("is_word" : Str) = some r1 := look_of 1 tnd rfl
theorem e2 : tab.lookup ("is_reserved" : Str) = some r2 := look_of 2 tnd rfl
theorem e3 : tab.lookup ("is_name" : Str) = some r3 := look_of 3 tnd rfl
theorem e4 : tab.lookup ("words_of" : Str) = some r4 := look_of 4 tnd rfl
theorem e5 : tab.lookup ("Cursor.__init__" : Str) = some r5 := look_of 5 tnd rfl
theorem e6 : tab.lookup ("Cursor.refuse" : Str) = some r6 := look_of 6 tnd rfl
theorem e7 : tab.lookup ("Cursor.refuse_row" : Str) = some r7 := look_of 7 tnd rfl
theorem e8 : tab.lookup ("Cursor.peek" : Str) = some r8 := look_of 8 tnd rfl
theorem e9 : tab.lookup ("Cursor.take_next" : Str) = some r9 := look_of 9 tnd rfl
theorem e10 : tab.lookup ("Cursor.skip" : Str) = some r10 := look_of 10 tnd rfl
theorem e11 : tab.lookup ("Cursor.take_word" : Str) = some r11 := look_of 11 tnd rfl
theorem e12 : tab.lookup ("Cursor.take_one_of" : Str) = some r12 := look_of 12 tnd rfl
theorem e13 : tab.lookup ("Cursor.take_name" : Str) = some r13 := look_of 13 tnd rfl
theorem e14 : tab.lookup ("Cursor.take_figure" : Str) = some r14 := look_of 14 tnd rfl
theorem e15 : tab.lookup ("Cursor.finish" : Str) = some r15 := look_of 15 tnd rfl
theorem e16 : tab.lookup ("Clause.__init__" : Str) = some r16 := look_of 16 tnd rfl
theorem e17 : tab.lookup ("Clause.told" : Str) = some r17 := look_of 17 tnd rfl
theorem e18 : tab.lookup ("clauses_of" : Str) = some r18 := look_of 18 tnd rfl
theorem e19 : tab.lookup ("read_clauses" : Str) = some r19 := look_of 19 tnd rfl
theorem e20 : tab.lookup ("read_clause" : Str) = some r20 := look_of 20 tnd rfl
theorem e21 : tab.lookup ("read_phrase" : Str) = some r21 := look_of 21 tnd rfl
theorem e22 : tab.lookup ("read_holder" : Str) = some r22 := look_of 22 tnd rfl
theorem e23 : tab.lookup ("read_nouns" : Str) = some r23 := look_of 23 tnd rfl
theorem e24 : tab.lookup ("read_noun" : Str) = some r24 := look_of 24 tnd rfl
theorem e25 : tab.lookup ("are_unlike" : Str) = some r25 := look_of 25 tnd rfl
theorem e26 : tab.lookup ("_law_mixed" : Str) = some r26 := look_of 26 tnd rfl
theorem e27 : tab.lookup ("_law_cell_at" : Str) = some r27 := look_of 27 tnd rfl
theorem e28 : tab.lookup ("_law_alike" : Str) = some r28 := look_of 28 tnd rfl
theorem e29 : tab.lookup ("_law_word" : Str) = some r29 := look_of 29 tnd rfl
theorem e30 : tab.lookup ("_law_noun" : Str) = some r30 := look_of 30 tnd rfl
theorem e31 : tab.lookup ("_law_nouns" : Str) = some r31 := look_of 31 tnd rfl
theorem e32 : tab.lookup ("_law_phrase" : Str) = some r32 := look_of 32 tnd rfl
theorem e33 : tab.lookup ("_law_clause" : Str) = some r33 := look_of 33 tnd rfl
theorem e34 : tab.lookup ("_law_line" : Str) = some r34 := look_of 34 tnd rfl
theorem e35 : tab.lookup ("_law_right" : Str) = some r35 := look_of 35 tnd rfl
theorem e36 : tab.lookup ("law" : Str) = some r36 := look_of 36 tnd rfl
theorem e37 : tab.lookup ("Cursor.refuse_at" : Str) = some r37 := look_of 37 tnd rfl
def gs : Gs := { glob := glob, blt := blt, fns := [(("is_word" : Str), (1 : Nat)), (("is_reserved" : Str), (1 : Nat)), (("is_name" : Str), (1 : Nat)), (("words_of" : Str), (1 : Nat)), (("clauses_of" : Str), (1 : Nat)), (("read_clauses" : Str), (1 : Nat)), (("read_clause" : Str), (1 : Nat)), (("read_phrase" : Str), (1 : Nat)), (("read_holder" : Str), (1 : Nat)), (("read_nouns" : Str), (1 : Nat)), (("read_noun" : Str), (1 : Nat)), (("are_unlike" : Str), (1 : Nat)), (("_law_mixed" : Str), (2 : Nat)), (("_law_cell_at" : Str), (2 : Nat)), (("_law_alike" : Str), (2 : Nat)), (("_law_word" : Str), (1 : Nat)), (("_law_noun" : Str), (1 : Nat)), (("_law_nouns" : Str), (1 : Nat)), (("_law_phrase" : Str), (1 : Nat)), (("_law_clause" : Str), (1 : Nat)), (("_law_line" : Str), (3 : Nat)), (("_law_right" : Str), (2 : Nat)), (("law" : Str), (1 : Nat))], noat := [("Cursor", "_at"), ("Cursor", "_words"), ("Cursor", "_row"), ("Clause", "holder"), ("Clause", "link"), ("Clause", "what"), ("Clause", "verb")], mets := [("Cursor", "refuse_at", "Cursor.refuse_at", 2), ("Cursor", "peek", "Cursor.peek", 1), ("Cursor", "take_next", "Cursor.take_next", 1), ("Cursor", "refuse", "Cursor.refuse", 1), ("Cursor", "finish", "Cursor.finish", 1), ("Cursor", "skip", "Cursor.skip", 2), ("Cursor", "take_one_of", "Cursor.take_one_of", 2), ("Cursor", "take_name", "Cursor.take_name", 1), ("Clause", "told", "Clause.told", 1)], mks := [("Cursor", "Cursor.__init__", 3), ("Clause", "Clause.__init__", 5)], isc := ["Clause"], gdic := [] }
theorem sc0 : FnScope r0.N r0.ps (defScope r0.st) := ⟨rfl, rfl, rfl, by decide +kernel, rfl, by decide +kernel, by decide +kernel⟩
theorem chk0 : chkB gs ⟨r0.N, defScope r0.st, none⟩ r0.body (defBody r0.st) = true := by decide +kernel
theorem sc1 : FnScope r1.N r1.ps (defScope r1.st) := ⟨rfl, rfl, rfl, by decide +kernel, rfl, by decide +kernel, by decide +kernel⟩
theorem chk1 : chkB gs ⟨r1.N, defScope r1.st, none⟩ r1.body (defBody r1.st) = true := by decide +kernel
theorem sc2 : FnScope r2.N r2.ps (defScope r2.st) := ⟨rfl, rfl, rfl, by decide +kernel, rfl, by decide +kernel, by decide +kernel⟩
theorem chk2 : chkB gs ⟨r2.N, defScope r2.st, none⟩ r2.body (defBody r2.st) = true := by decide +kernel
theorem sc3 : FnScope r3.N r3.ps (defScope r3.st) := ⟨rfl, rfl, rfl, by decide +kernel, rfl, by decide +kernel, by decide +kernel⟩
theorem chk3 : chkB gs ⟨r3.N, defScope r3.st, none⟩ r3.body (defBody r3.st) = true := by decide +kernel
theorem sc4 : FnScope r4.N r4.ps (defScope r4.st) := ⟨rfl, rfl, rfl, by decide +kernel, rfl, by decide +kernel, by decide +kernel⟩
theorem chk4 : chkB gs ⟨r4.N, defScope r4.st, none⟩ r4.body (defBody r4.st) = true := by decide +kernel
theorem sc5 : FnScope r5.N r5.ps (defScope r5.st) := ⟨rfl, rfl, rfl, by decide +kernel, rfl, by decide +kernel, by decide +kernel⟩
theorem chk5 : chkB gs ⟨r5.N, defScope r5.st, none⟩ r5.body (defBody r5.st) = true := by decide +kernel
theorem sc6 : FnScope r6.N r6.ps (defScope r6.st) := ⟨rfl, rfl, rfl, by decide +kernel, rfl, by decide +kernel, by decide +kernel⟩
theorem chk6 : chkB gs ⟨r6.N, defScope r6.st, none⟩ r6.body (defBody r6.st) = true := by decide +kernel
theorem sc7 : FnScope r7.N r7.ps (defScope r7.st) := ⟨rfl, rfl, rfl, by decide +kernel, rfl, by decide +kernel, by decide +kernel⟩
theorem chk7 : chkB gs ⟨r7.N, defScope r7.st, none⟩ r7.body (defBody r7.st) = true := by decide +kernel
theorem sc8 : FnScope r8.N r8.ps (defScope r8.st) := ⟨rfl, rfl, rfl, by decide +kernel, rfl, by decide +kernel, by decide +kernel⟩
theorem chk8 : chkB gs ⟨r8.N, defScope r8.st, none⟩ r8.body (defBody r8.st) = true := by decide +kernel
theorem sc9 : FnScope r9.N r9.ps (defScope r9.st) := ⟨rfl, rfl, rfl, by decide +kernel, rfl, by decide +kernel, by decide +kernel⟩
theorem chk9 : chkB gs ⟨r9.N, defScope r9.st, none⟩ r9.body (defBody r9.st) = true := by decide +kernel
theorem sc10 : FnScope r10.N r10.ps (defScope r10.st) := ⟨rfl, rfl, rfl, by decide +kernel, rfl, by decide +kernel, by decide +kernel⟩
theorem chk10 : chkB gs ⟨r10.N, defScope r10.st, none⟩ r10.body (defBody r10.st) = true := by decide +kernel
theorem sc11 : FnScope r11.N r11.ps (defScope r11.st) := ⟨rfl, rfl, rfl, by decide +kernel, rfl, by decide +kernel, by decide +kernel⟩
theorem chk11 : chkB gs ⟨r11.N, defScope r11.st, none⟩ r11.body (defBody r11.st) = true := by decide +kernel
theorem sc12 : FnScope r12.N r12.ps (defScope r12.st) := ⟨rfl, rfl, rfl, by decide +kernel, rfl, by decide +kernel, by decide +kernel⟩
theorem chk12 : chkB gs ⟨r12.N, defScope r12.st, none⟩ r12.body (defBody r12.st) = true := by decide +kernel
theorem sc13 : FnScope r13.N r13.ps (defScope r13.st) := ⟨rfl, rfl, rfl, by decide +kernel, rfl, by decide +kernel, by decide +kernel⟩
theorem chk13 : chkB gs ⟨r13.N, defScope r13.st, none⟩ r13.body (defBody r13.st) = true := by decide +kernel
theorem sc14 : FnScope r14.N r14.ps (defScope r14.st) := ⟨rfl, rfl, rfl, by decide +kernel, rfl, by decide +kernel, by decide +kernel⟩
theorem chk14 : chkB gs ⟨r14.N, defScope r14.st, none⟩ r14.body (defBody r14.st) = true := by decide +kernel
theorem sc15 : FnScope r15.N r15.ps (defScope r15.st) := ⟨rfl, rfl, rfl, by decide +kernel, rfl, by decide +kernel, by decide +kernel⟩
theorem chk15 : chkB gs ⟨r15.N, defScope r15.st, none⟩ r15.body (defBody r15.st) = true := by decide +kernel
theorem sc16 : FnScope r16.N r16.ps (defScope r16.st) := ⟨rfl, rfl, rfl, by decide +kernel, rfl, by decide +kernel, by decide +kernel⟩
theorem chk16 : chkB gs ⟨r16.N, defScope r16.st, none⟩ r16.body (defBody r16.st) = true := by decide +kernel
theorem sc17 : FnScope r17.N r17.ps (defScope r17.st) := ⟨rfl, rfl, rfl, by decide +kernel, rfl, by decide +kernel, by decide +kernel⟩
theorem chk17 : chkB gs ⟨r17.N, defScope r17.st, none⟩ r17.body (defBody r17.st) = true := by decide +kernel
theorem sc18 : FnScope r18.N r18.ps (defScope r18.st) := ⟨rfl, rfl, rfl, by decide +kernel, rfl, by decide +kernel, by decide +kernel⟩
theorem chk18 : chkB gs ⟨r18.N, defScope r18.st, none⟩ r18.body (defBody r18.st) = true := by decide +kernel
theorem sc19 : FnScope r19.N r19.ps (defScope r19.st) := ⟨rfl, rfl, rfl, by decide +kernel, rfl, by decide +kernel, by decide +kernel⟩
theorem chk19 : chkB gs ⟨r19.N, defScope r19.st, none⟩ r19.body (defBody r19.st) = true := by decide +kernel
theorem sc20 : FnScope r20.N r20.ps (defScope r20.st) := ⟨rfl, rfl, rfl, by decide +kernel, rfl, by decide +kernel, by decide +kernel⟩
theorem chk20 : chkB gs ⟨r20.N, defScope r20.st, none⟩ r20.body (defBody r20.st) = true := by decide +kernel
theorem sc21 : FnScope r21.N r21.ps (defScope r21.st) := ⟨rfl, rfl, rfl, by decide +kernel, rfl, by decide +kernel, by decide +kernel⟩
theorem chk21 : chkB gs ⟨r21.N, defScope r21.st, none⟩ r21.body (defBody r21.st) = true := by decide +kernel
theorem sc22 : FnScope r22.N r22.ps (defScope r22.st) := ⟨rfl, rfl, rfl, by decide +kernel, rfl, by decide +kernel, by decide +kernel⟩
theorem chk22 : chkB gs ⟨r22.N, defScope r22.st, none⟩ r22.body (defBody r22.st) = true := by decide +kernel
theorem sc23 : FnScope r23.N r23.ps (defScope r23.st) := ⟨rfl, rfl, rfl, by decide +kernel, rfl, by decide +kernel, by decide +kernel⟩
theorem chk23 : chkB gs ⟨r23.N, defScope r23.st, none⟩ r23.body (defBody r23.st) = true := by decide +kernel
theorem sc24 : FnScope r24.N r24.ps (defScope r24.st) := ⟨rfl, rfl, rfl, by decide +kernel, rfl, by decide +kernel, by decide +kernel⟩
theorem chk24 : chkB gs ⟨r24.N, defScope r24.st, none⟩ r24.body (defBody r24.st) = true := by decide +kernel
theorem sc25 : FnScope r25.N r25.ps (defScope r25.st) := ⟨rfl, rfl, rfl, by decide +kernel, rfl, by decide +kernel, by decide +kernel⟩
theorem chk25 : chkB gs ⟨r25.N, defScope r25.st, none⟩ r25.body (defBody r25.st) = true := by decide +kernel
theorem sc26 : FnScope r26.N r26.ps (defScope r26.st) := ⟨rfl, rfl, rfl, by decide +kernel, rfl, by decide +kernel, by decide +kernel⟩
theorem chk26 : chkB gs ⟨r26.N, defScope r26.st, none⟩ r26.body (defBody r26.st) = true := by decide +kernel
theorem sc27 : FnScope r27.N r27.ps (defScope r27.st) := ⟨rfl, rfl, rfl, by decide +kernel, rfl, by decide +kernel, by decide +kernel⟩
theorem chk27 : chkB gs ⟨r27.N, defScope r27.st, none⟩ r27.body (defBody r27.st) = true := by decide +kernel
theorem sc28 : FnScope r28.N r28.ps (defScope r28.st) := ⟨rfl, rfl, rfl, by decide +kernel, rfl, by decide +kernel, by decide +kernel⟩
theorem chk28 : chkB gs ⟨r28.N, defScope r28.st, none⟩ r28.body (defBody r28.st) = true := by decide +kernel
theorem sc29 : FnScope r29.N r29.ps (defScope r29.st) := ⟨rfl, rfl, rfl, by decide +kernel, rfl, by decide +kernel, by decide +kernel⟩
theorem chk29 : chkB gs ⟨r29.N, defScope r29.st, none⟩ r29.body (defBody r29.st) = true := by decide +kernel
theorem sc30 : FnScope r30.N r30.ps (defScope r30.st) := ⟨rfl, rfl, rfl, by decide +kernel, rfl, by decide +kernel, by decide +kernel⟩
theorem chk30 : chkB gs ⟨r30.N, defScope r30.st, none⟩ r30.body (defBody r30.st) = true := by decide +kernel
theorem sc31 : FnScope r31.N r31.ps (defScope r31.st) := ⟨rfl, rfl, rfl, by decide +kernel, rfl, by decide +kernel, by decide +kernel⟩
theorem chk31 : chkB gs ⟨r31.N, defScope r31.st, none⟩ r31.body (defBody r31.st) = true := by decide +kernel
theorem sc32 : FnScope r32.N r32.ps (defScope r32.st) := ⟨rfl, rfl, rfl, by decide +kernel, rfl, by decide +kernel, by decide +kernel⟩
theorem chk32 : chkB gs ⟨r32.N, defScope r32.st, none⟩ r32.body (defBody r32.st) = true := by decide +kernel
theorem sc33 : FnScope r33.N r33.ps (defScope r33.st) := ⟨rfl, rfl, rfl, by decide +kernel, rfl, by decide +kernel, by decide +kernel⟩
theorem chk33 : chkB gs ⟨r33.N, defScope r33.st, none⟩ r33.body (defBody r33.st) = true := by decide +kernel
theorem sc34 : FnScope r34.N r34.ps (defScope r34.st) := ⟨rfl, rfl, rfl, by decide +kernel, rfl, by decide +kernel, by decide +kernel⟩
theorem chk34 : chkB gs ⟨r34.N, defScope r34.st, none⟩ r34.body (defBody r34.st) = true := by decide +kernel
theorem sc35 : FnScope r35.N r35.ps (defScope r35.st) := ⟨rfl, rfl, rfl, by decide +kernel, rfl, by decide +kernel, by decide +kernel⟩
theorem chk35 : chkB gs ⟨r35.N, defScope r35.st, none⟩ r35.body (defBody r35.st) = true := by decide +kernel
theorem sc36 : FnScope r36.N r36.ps (defScope r36.st) := ⟨rfl, rfl, rfl, by decide +kernel, rfl, by decide +kernel, by decide +kernel⟩
theorem chk36 : chkB gs ⟨r36.N, defScope r36.st, none⟩ r36.body (defBody r36.st) = true := by decide +kernel
theorem sc37 : FnScope r37.N r37.ps (defScope r37.st) := ⟨rfl, rfl, rfl, by decide +kernel, rfl, by decide +kernel, by decide +kernel⟩
theorem chk37 : chkB gs ⟨r37.N, defScope r37.st, none⟩ r37.body (defBody r37.st) = true := by decide +kernel
theorem all_mk {w : World} {K : PySem.W.Frag} {h : Heap} {mg : Str → Option Value} (X : K.In h) (NG : h.Ns mainGlobals mg)
    {CClause : Addr}
    {CCursor : Addr}
    {f1 : Addr} {oc1 kV1 dc1 pm1 cd1 ct1 : Value} {od1 an1 : Option Addr} {sl1 : Array (Option Value)}
    {f2 : Addr} {oc2 kV2 dc2 pm2 cd2 ct2 : Value} {od2 an2 : Option Addr} {sl2 : Array (Option Value)}
    {f3 : Addr} {oc3 kV3 dc3 pm3 cd3 ct3 : Value} {od3 an3 : Option Addr} {sl3 : Array (Option Value)}
    {f4 : Addr} {oc4 kV4 dc4 pm4 cd4 ct4 : Value} {od4 an4 : Option Addr} {sl4 : Array (Option Value)}
    {f5 : Addr} {oc5 kV5 dc5 pm5 cd5 ct5 : Value} {od5 an5 : Option Addr} {sl5 : Array (Option Value)}
    {f6 : Addr} {oc6 kV6 dc6 pm6 cd6 ct6 : Value} {od6 an6 : Option Addr} {sl6 : Array (Option Value)}
    {f8 : Addr} {oc8 kV8 dc8 pm8 cd8 ct8 : Value} {od8 an8 : Option Addr} {sl8 : Array (Option Value)}
    {f9 : Addr} {oc9 kV9 dc9 pm9 cd9 ct9 : Value} {od9 an9 : Option Addr} {sl9 : Array (Option Value)}
    {f10 : Addr} {oc10 kV10 dc10 pm10 cd10 ct10 : Value} {od10 an10 : Option Addr} {sl10 : Array (Option Value)}
    {f12 : Addr} {oc12 kV12 dc12 pm12 cd12 ct12 : Value} {od12 an12 : Option Addr} {sl12 : Array (Option Value)}
    {f13 : Addr} {oc13 kV13 dc13 pm13 cd13 ct13 : Value} {od13 an13 : Option Addr} {sl13 : Array (Option Value)}
    {f15 : Addr} {oc15 kV15 dc15 pm15 cd15 ct15 : Value} {od15 an15 : Option Addr} {sl15 : Array (Option Value)}
    {f16 : Addr} {oc16 kV16 dc16 pm16 cd16 ct16 : Value} {od16 an16 : Option Addr} {sl16 : Array (Option Value)}
    {f17 : Addr} {oc17 kV17 dc17 pm17 cd17 ct17 : Value} {od17 an17 : Option Addr} {sl17 : Array (Option Value)}
    {f18 : Addr} {oc18 kV18 dc18 pm18 cd18 ct18 : Value} {od18 an18 : Option Addr} {sl18 : Array (Option Value)}
    {f19 : Addr} {oc19 kV19 dc19 pm19 cd19 ct19 : Value} {od19 an19 : Option Addr} {sl19 : Array (Option Value)}
    {f20 : Addr} {oc20 kV20 dc20 pm20 cd20 ct20 : Value} {od20 an20 : Option Addr} {sl20 : Array (Option Value)}
    {f21 : Addr} {oc21 kV21 dc21 pm21 cd21 ct21 : Value} {od21 an21 : Option Addr} {sl21 : Array (Option Value)}
    {f22 : Addr} {oc22 kV22 dc22 pm22 cd22 ct22 : Value} {od22 an22 : Option Addr} {sl22 : Array (Option Value)}
    {f23 : Addr} {oc23 kV23 dc23 pm23 cd23 ct23 : Value} {od23 an23 : Option Addr} {sl23 : Array (Option Value)}
    {f24 : Addr} {oc24 kV24 dc24 pm24 cd24 ct24 : Value} {od24 an24 : Option Addr} {sl24 : Array (Option Value)}
    {f25 : Addr} {oc25 kV25 dc25 pm25 cd25 ct25 : Value} {od25 an25 : Option Addr} {sl25 : Array (Option Value)}
    {f26 : Addr} {oc26 kV26 dc26 pm26 cd26 ct26 : Value} {od26 an26 : Option Addr} {sl26 : Array (Option Value)}
    {f27 : Addr} {oc27 kV27 dc27 pm27 cd27 ct27 : Value} {od27 an27 : Option Addr} {sl27 : Array (Option Value)}
    {f28 : Addr} {oc28 kV28 dc28 pm28 cd28 ct28 : Value} {od28 an28 : Option Addr} {sl28 : Array (Option Value)}
    {f29 : Addr} {oc29 kV29 dc29 pm29 cd29 ct29 : Value} {od29 an29 : Option Addr} {sl29 : Array (Option Value)}
    {f30 : Addr} {oc30 kV30 dc30 pm30 cd30 ct30 : Value} {od30 an30 : Option Addr} {sl30 : Array (Option Value)}
    {f31 : Addr} {oc31 kV31 dc31 pm31 cd31 ct31 : Value} {od31 an31 : Option Addr} {sl31 : Array (Option Value)}
    {f32 : Addr} {oc32 kV32 dc32 pm32 cd32 ct32 : Value} {od32 an32 : Option Addr} {sl32 : Array (Option Value)}
    {f33 : Addr} {oc33 kV33 dc33 pm33 cd33 ct33 : Value} {od33 an33 : Option Addr} {sl33 : Array (Option Value)}
    {f34 : Addr} {oc34 kV34 dc34 pm34 cd34 ct34 : Value} {od34 an34 : Option Addr} {sl34 : Array (Option Value)}
    {f35 : Addr} {oc35 kV35 dc35 pm35 cd35 ct35 : Value} {od35 an35 : Option Addr} {sl35 : Array (Option Value)}
    {f36 : Addr} {oc36 kV36 dc36 pm36 cd36 ct36 : Value} {od36 an36 : Option Addr} {sl36 : Array (Option Value)}
    {f37 : Addr} {oc37 kV37 dc37 pm37 cd37 ct37 : Value} {od37 an37 : Option Addr} {sl37 : Array (Option Value)}
    {t0 : Tok}
    {g1 : Addr} {od_1 : Option Addr} {its1 : Array Value} {n1 : Nat} {sl_1 : Array (Option Value)}
    {g2 : Addr} {od_2 : Option Addr} {its2 : Array Value} {n2 : Nat} {sl_2 : Array (Option Value)}
    {g3 : Addr} {od_3 : Option Addr} {its3 : Array Value} {n3 : Nat} {sl_3 : Array (Option Value)}
    {g4 : Addr} {od_4 : Option Addr} {its4 : Array Value} {n4 : Nat} {sl_4 : Array (Option Value)}
    {t5 : Tok}
    {t6 : Tok}
    {g7 : Addr} {od_7 : Option Addr} {its7 : Array Value} {n7 : Nat} {sl_7 : Array (Option Value)}
    {t8 : Tok}
    {t9 : Tok}
    (aCClause : PySem.W.nsIn K mainGlobals "Clause" = some (some (.ref CClause))) (pgClause : PySem.W.plainGet K CClause Str.empty = true) (hdClause : PySem.W.hasDictIn K CClause = true) (poClause : PySem.W.plainOver K CClause = true) (saClause : PySem.W.findIn K (.ref CClause) "__setattr__" = some (some (.builtin "object.__setattr__")))
    (mkClause : PySem.W.makesIn K CClause = true) (kcClause : PySem.W.keepIn K (.ref CClause) = true)
    (aCCursor : PySem.W.nsIn K mainGlobals "Cursor" = some (some (.ref CCursor))) (pgCursor : PySem.W.plainGet K CCursor Str.empty = true) (hdCursor : PySem.W.hasDictIn K CCursor = true) (poCursor : PySem.W.plainOver K CCursor = true) (saCursor : PySem.W.findIn K (.ref CCursor) "__setattr__" = some (some (.builtin "object.__setattr__")))
    (mkCursor : PySem.W.makesIn K CCursor = true) (kcCursor : PySem.W.keepIn K (.ref CCursor) = true)
    (ihn : PySem.W.specialIn K (.builtin "object.__class__") "__get__" = some (some (.builtin "getset_descriptor.__get__"))) (iht : PySem.W.takesIn K (.builtin "object.__class__") = some true)
    (iaClause : PySem.W.findIn K (.ref CClause) "__class__" = some (some (.builtin "object.__class__"))) (imClause : PySem.W.mroIn K CClause (.type "object") = some true)
    (no0 : PySem.W.findIn K (.ref CCursor) "_at" = some none)
    (no1 : PySem.W.findIn K (.ref CCursor) "_words" = some none)
    (no2 : PySem.W.findIn K (.ref CCursor) "_row" = some none)
    (no3 : PySem.W.findIn K (.ref CClause) "holder" = some none)
    (no4 : PySem.W.findIn K (.ref CClause) "link" = some none)
    (no5 : PySem.W.findIn K (.ref CClause) "what" = some none)
    (no6 : PySem.W.findIn K (.ref CClause) "verb" = some none)
    (a1 : PySem.W.nsIn K mainGlobals "is_word" = some (some (.ref f1)))
    (l1 : K.lookup f1 = some ⟨oc1, od1, .func (PySem.W.fnOf "is_word" "is_word" (defArgs (top 11)) (defBody (top 11)) (defScope (top 11)) .none kV1 dc1 pm1 an1 cd1 ct1), sl1⟩) (c1 : PySem.W.codeIn K cd1 "is_word" = true) (k1 : PySem.W.keepIn K (.ref f1) = true)
    (a2 : PySem.W.nsIn K mainGlobals "is_reserved" = some (some (.ref f2)))
    (l2 : K.lookup f2 = some ⟨oc2, od2, .func (PySem.W.fnOf "is_reserved" "is_reserved" (defArgs (top 12)) (defBody (top 12)) (defScope (top 12)) .none kV2 dc2 pm2 an2 cd2 ct2), sl2⟩) (c2 : PySem.W.codeIn K cd2 "is_reserved" = true) (k2 : PySem.W.keepIn K (.ref f2) = true)
    (a3 : PySem.W.nsIn K mainGlobals "is_name" = some (some (.ref f3)))
    (l3 : K.lookup f3 = some ⟨oc3, od3, .func (PySem.W.fnOf "is_name" "is_name" (defArgs (top 13)) (defBody (top 13)) (defScope (top 13)) .none kV3 dc3 pm3 an3 cd3 ct3), sl3⟩) (c3 : PySem.W.codeIn K cd3 "is_name" = true) (k3 : PySem.W.keepIn K (.ref f3) = true)
    (a4 : PySem.W.nsIn K mainGlobals "words_of" = some (some (.ref f4)))
    (l4 : K.lookup f4 = some ⟨oc4, od4, .func (PySem.W.fnOf "words_of" "words_of" (defArgs (top 14)) (defBody (top 14)) (defScope (top 14)) .none kV4 dc4 pm4 an4 cd4 ct4), sl4⟩) (c4 : PySem.W.codeIn K cd4 "words_of" = true) (k4 : PySem.W.keepIn K (.ref f4) = true)
    (a5 : PySem.W.findIn K (.ref CCursor) "__init__" = some (some (.ref f5))) (i5 : PySem.W.isFn K (.ref f5) = true)
    (l5 : K.lookup f5 = some ⟨oc5, od5, .func (PySem.W.fnOf "__init__" "Cursor.__init__" (defArgs (inClass (top 16) 0)) (defBody (inClass (top 16) 0)) (defScope (inClass (top 16) 0)) .none kV5 dc5 pm5 an5 cd5 ct5), sl5⟩) (c5 : PySem.W.codeIn K cd5 "Cursor.__init__" = true) (k5 : PySem.W.keepIn K (.ref f5) = true)
    (a6 : PySem.W.findIn K (.ref CCursor) "refuse" = some (some (.ref f6))) (i6 : PySem.W.isFn K (.ref f6) = true)
    (l6 : K.lookup f6 = some ⟨oc6, od6, .func (PySem.W.fnOf "refuse" "Cursor.refuse" (defArgs (inClass (top 16) 1)) (defBody (inClass (top 16) 1)) (defScope (inClass (top 16) 1)) .none kV6 dc6 pm6 an6 cd6 ct6), sl6⟩) (c6 : PySem.W.codeIn K cd6 "Cursor.refuse" = true) (k6 : PySem.W.keepIn K (.ref f6) = true)
    (a8 : PySem.W.findIn K (.ref CCursor) "peek" = some (some (.ref f8))) (i8 : PySem.W.isFn K (.ref f8) = true)
    (l8 : K.lookup f8 = some ⟨oc8, od8, .func (PySem.W.fnOf "peek" "Cursor.peek" (defArgs (inClass (top 16) 4)) (defBody (inClass (top 16) 4)) (defScope (inClass (top 16) 4)) .none kV8 dc8 pm8 an8 cd8 ct8), sl8⟩) (c8 : PySem.W.codeIn K cd8 "Cursor.peek" = true) (k8 : PySem.W.keepIn K (.ref f8) = true)
    (a9 : PySem.W.findIn K (.ref CCursor) "take_next" = some (some (.ref f9))) (i9 : PySem.W.isFn K (.ref f9) = true)
    (l9 : K.lookup f9 = some ⟨oc9, od9, .func (PySem.W.fnOf "take_next" "Cursor.take_next" (defArgs (inClass (top 16) 5)) (defBody (inClass (top 16) 5)) (defScope (inClass (top 16) 5)) .none kV9 dc9 pm9 an9 cd9 ct9), sl9⟩) (c9 : PySem.W.codeIn K cd9 "Cursor.take_next" = true) (k9 : PySem.W.keepIn K (.ref f9) = true)
    (a10 : PySem.W.findIn K (.ref CCursor) "skip" = some (some (.ref f10))) (i10 : PySem.W.isFn K (.ref f10) = true)
    (l10 : K.lookup f10 = some ⟨oc10, od10, .func (PySem.W.fnOf "skip" "Cursor.skip" (defArgs (inClass (top 16) 6)) (defBody (inClass (top 16) 6)) (defScope (inClass (top 16) 6)) .none kV10 dc10 pm10 an10 cd10 ct10), sl10⟩) (c10 : PySem.W.codeIn K cd10 "Cursor.skip" = true) (k10 : PySem.W.keepIn K (.ref f10) = true)
    (a12 : PySem.W.findIn K (.ref CCursor) "take_one_of" = some (some (.ref f12))) (i12 : PySem.W.isFn K (.ref f12) = true)
    (l12 : K.lookup f12 = some ⟨oc12, od12, .func (PySem.W.fnOf "take_one_of" "Cursor.take_one_of" (defArgs (inClass (top 16) 8)) (defBody (inClass (top 16) 8)) (defScope (inClass (top 16) 8)) .none kV12 dc12 pm12 an12 cd12 ct12), sl12⟩) (c12 : PySem.W.codeIn K cd12 "Cursor.take_one_of" = true) (k12 : PySem.W.keepIn K (.ref f12) = true)
    (a13 : PySem.W.findIn K (.ref CCursor) "take_name" = some (some (.ref f13))) (i13 : PySem.W.isFn K (.ref f13) = true)
    (l13 : K.lookup f13 = some ⟨oc13, od13, .func (PySem.W.fnOf "take_name" "Cursor.take_name" (defArgs (inClass (top 16) 9)) (defBody (inClass (top 16) 9)) (defScope (inClass (top 16) 9)) .none kV13 dc13 pm13 an13 cd13 ct13), sl13⟩) (c13 : PySem.W.codeIn K cd13 "Cursor.take_name" = true) (k13 : PySem.W.keepIn K (.ref f13) = true)
    (a15 : PySem.W.findIn K (.ref CCursor) "finish" = some (some (.ref f15))) (i15 : PySem.W.isFn K (.ref f15) = true)
    (l15 : K.lookup f15 = some ⟨oc15, od15, .func (PySem.W.fnOf "finish" "Cursor.finish" (defArgs (inClass (top 16) 11)) (defBody (inClass (top 16) 11)) (defScope (inClass (top 16) 11)) .none kV15 dc15 pm15 an15 cd15 ct15), sl15⟩) (c15 : PySem.W.codeIn K cd15 "Cursor.finish" = true) (k15 : PySem.W.keepIn K (.ref f15) = true)
    (a16 : PySem.W.findIn K (.ref CClause) "__init__" = some (some (.ref f16))) (i16 : PySem.W.isFn K (.ref f16) = true)
    (l16 : K.lookup f16 = some ⟨oc16, od16, .func (PySem.W.fnOf "__init__" "Clause.__init__" (defArgs (inClass (top 23) 0)) (defBody (inClass (top 23) 0)) (defScope (inClass (top 23) 0)) .none kV16 dc16 pm16 an16 cd16 ct16), sl16⟩) (c16 : PySem.W.codeIn K cd16 "Clause.__init__" = true) (k16 : PySem.W.keepIn K (.ref f16) = true)
    (a17 : PySem.W.findIn K (.ref CClause) "told" = some (some (.ref f17))) (i17 : PySem.W.isFn K (.ref f17) = true)
    (l17 : K.lookup f17 = some ⟨oc17, od17, .func (PySem.W.fnOf "told" "Clause.told" (defArgs (inClass (top 23) 1)) (defBody (inClass (top 23) 1)) (defScope (inClass (top 23) 1)) .none kV17 dc17 pm17 an17 cd17 ct17), sl17⟩) (c17 : PySem.W.codeIn K cd17 "Clause.told" = true) (k17 : PySem.W.keepIn K (.ref f17) = true)
    (a18 : PySem.W.nsIn K mainGlobals "clauses_of" = some (some (.ref f18)))
    (l18 : K.lookup f18 = some ⟨oc18, od18, .func (PySem.W.fnOf "clauses_of" "clauses_of" (defArgs (top 24)) (defBody (top 24)) (defScope (top 24)) .none kV18 dc18 pm18 an18 cd18 ct18), sl18⟩) (c18 : PySem.W.codeIn K cd18 "clauses_of" = true) (k18 : PySem.W.keepIn K (.ref f18) = true)
    (a19 : PySem.W.nsIn K mainGlobals "read_clauses" = some (some (.ref f19)))
    (l19 : K.lookup f19 = some ⟨oc19, od19, .func (PySem.W.fnOf "read_clauses" "read_clauses" (defArgs (top 25)) (defBody (top 25)) (defScope (top 25)) .none kV19 dc19 pm19 an19 cd19 ct19), sl19⟩) (c19 : PySem.W.codeIn K cd19 "read_clauses" = true) (k19 : PySem.W.keepIn K (.ref f19) = true)
    (a20 : PySem.W.nsIn K mainGlobals "read_clause" = some (some (.ref f20)))
    (l20 : K.lookup f20 = some ⟨oc20, od20, .func (PySem.W.fnOf "read_clause" "read_clause" (defArgs (top 26)) (defBody (top 26)) (defScope (top 26)) .none kV20 dc20 pm20 an20 cd20 ct20), sl20⟩) (c20 : PySem.W.codeIn K cd20 "read_clause" = true) (k20 : PySem.W.keepIn K (.ref f20) = true)
    (a21 : PySem.W.nsIn K mainGlobals "read_phrase" = some (some (.ref f21)))
    (l21 : K.lookup f21 = some ⟨oc21, od21, .func (PySem.W.fnOf "read_phrase" "read_phrase" (defArgs (top 27)) (defBody (top 27)) (defScope (top 27)) .none kV21 dc21 pm21 an21 cd21 ct21), sl21⟩) (c21 : PySem.W.codeIn K cd21 "read_phrase" = true) (k21 : PySem.W.keepIn K (.ref f21) = true)
    (a22 : PySem.W.nsIn K mainGlobals "read_holder" = some (some (.ref f22)))
    (l22 : K.lookup f22 = some ⟨oc22, od22, .func (PySem.W.fnOf "read_holder" "read_holder" (defArgs (top 28)) (defBody (top 28)) (defScope (top 28)) .none kV22 dc22 pm22 an22 cd22 ct22), sl22⟩) (c22 : PySem.W.codeIn K cd22 "read_holder" = true) (k22 : PySem.W.keepIn K (.ref f22) = true)
    (a23 : PySem.W.nsIn K mainGlobals "read_nouns" = some (some (.ref f23)))
    (l23 : K.lookup f23 = some ⟨oc23, od23, .func (PySem.W.fnOf "read_nouns" "read_nouns" (defArgs (top 29)) (defBody (top 29)) (defScope (top 29)) .none kV23 dc23 pm23 an23 cd23 ct23), sl23⟩) (c23 : PySem.W.codeIn K cd23 "read_nouns" = true) (k23 : PySem.W.keepIn K (.ref f23) = true)
    (a24 : PySem.W.nsIn K mainGlobals "read_noun" = some (some (.ref f24)))
    (l24 : K.lookup f24 = some ⟨oc24, od24, .func (PySem.W.fnOf "read_noun" "read_noun" (defArgs (top 30)) (defBody (top 30)) (defScope (top 30)) .none kV24 dc24 pm24 an24 cd24 ct24), sl24⟩) (c24 : PySem.W.codeIn K cd24 "read_noun" = true) (k24 : PySem.W.keepIn K (.ref f24) = true)
    (a25 : PySem.W.nsIn K mainGlobals "are_unlike" = some (some (.ref f25)))
    (l25 : K.lookup f25 = some ⟨oc25, od25, .func (PySem.W.fnOf "are_unlike" "are_unlike" (defArgs (top 31)) (defBody (top 31)) (defScope (top 31)) .none kV25 dc25 pm25 an25 cd25 ct25), sl25⟩) (c25 : PySem.W.codeIn K cd25 "are_unlike" = true) (k25 : PySem.W.keepIn K (.ref f25) = true)
    (a26 : PySem.W.nsIn K mainGlobals "_law_mixed" = some (some (.ref f26)))
    (l26 : K.lookup f26 = some ⟨oc26, od26, .func (PySem.W.fnOf "_law_mixed" "_law_mixed" (defArgs (top 33)) (defBody (top 33)) (defScope (top 33)) .none kV26 dc26 pm26 an26 cd26 ct26), sl26⟩) (c26 : PySem.W.codeIn K cd26 "_law_mixed" = true) (k26 : PySem.W.keepIn K (.ref f26) = true)
    (a27 : PySem.W.nsIn K mainGlobals "_law_cell_at" = some (some (.ref f27)))
    (l27 : K.lookup f27 = some ⟨oc27, od27, .func (PySem.W.fnOf "_law_cell_at" "_law_cell_at" (defArgs (top 34)) (defBody (top 34)) (defScope (top 34)) .none kV27 dc27 pm27 an27 cd27 ct27), sl27⟩) (c27 : PySem.W.codeIn K cd27 "_law_cell_at" = true) (k27 : PySem.W.keepIn K (.ref f27) = true)
    (a28 : PySem.W.nsIn K mainGlobals "_law_alike" = some (some (.ref f28)))
    (l28 : K.lookup f28 = some ⟨oc28, od28, .func (PySem.W.fnOf "_law_alike" "_law_alike" (defArgs (top 35)) (defBody (top 35)) (defScope (top 35)) .none kV28 dc28 pm28 an28 cd28 ct28), sl28⟩) (c28 : PySem.W.codeIn K cd28 "_law_alike" = true) (k28 : PySem.W.keepIn K (.ref f28) = true)
    (a29 : PySem.W.nsIn K mainGlobals "_law_word" = some (some (.ref f29)))
    (l29 : K.lookup f29 = some ⟨oc29, od29, .func (PySem.W.fnOf "_law_word" "_law_word" (defArgs (top 36)) (defBody (top 36)) (defScope (top 36)) .none kV29 dc29 pm29 an29 cd29 ct29), sl29⟩) (c29 : PySem.W.codeIn K cd29 "_law_word" = true) (k29 : PySem.W.keepIn K (.ref f29) = true)
    (a30 : PySem.W.nsIn K mainGlobals "_law_noun" = some (some (.ref f30)))
    (l30 : K.lookup f30 = some ⟨oc30, od30, .func (PySem.W.fnOf "_law_noun" "_law_noun" (defArgs (top 37)) (defBody (top 37)) (defScope (top 37)) .none kV30 dc30 pm30 an30 cd30 ct30), sl30⟩) (c30 : PySem.W.codeIn K cd30 "_law_noun" = true) (k30 : PySem.W.keepIn K (.ref f30) = true)
    (a31 : PySem.W.nsIn K mainGlobals "_law_nouns" = some (some (.ref f31)))
    (l31 : K.lookup f31 = some ⟨oc31, od31, .func (PySem.W.fnOf "_law_nouns" "_law_nouns" (defArgs (top 38)) (defBody (top 38)) (defScope (top 38)) .none kV31 dc31 pm31 an31 cd31 ct31), sl31⟩) (c31 : PySem.W.codeIn K cd31 "_law_nouns" = true) (k31 : PySem.W.keepIn K (.ref f31) = true)
    (a32 : PySem.W.nsIn K mainGlobals "_law_phrase" = some (some (.ref f32)))
    (l32 : K.lookup f32 = some ⟨oc32, od32, .func (PySem.W.fnOf "_law_phrase" "_law_phrase" (defArgs (top 39)) (defBody (top 39)) (defScope (top 39)) .none kV32 dc32 pm32 an32 cd32 ct32), sl32⟩) (c32 : PySem.W.codeIn K cd32 "_law_phrase" = true) (k32 : PySem.W.keepIn K (.ref f32) = true)
    (a33 : PySem.W.nsIn K mainGlobals "_law_clause" = some (some (.ref f33)))
    (l33 : K.lookup f33 = some ⟨oc33, od33, .func (PySem.W.fnOf "_law_clause" "_law_clause" (defArgs (top 40)) (defBody (top 40)) (defScope (top 40)) .none kV33 dc33 pm33 an33 cd33 ct33), sl33⟩) (c33 : PySem.W.codeIn K cd33 "_law_clause" = true) (k33 : PySem.W.keepIn K (.ref f33) = true)
    (a34 : PySem.W.nsIn K mainGlobals "_law_line" = some (some (.ref f34)))
    (l34 : K.lookup f34 = some ⟨oc34, od34, .func (PySem.W.fnOf "_law_line" "_law_line" (defArgs (top 41)) (defBody (top 41)) (defScope (top 41)) .none kV34 dc34 pm34 an34 cd34 ct34), sl34⟩) (c34 : PySem.W.codeIn K cd34 "_law_line" = true) (k34 : PySem.W.keepIn K (.ref f34) = true)
    (a35 : PySem.W.nsIn K mainGlobals "_law_right" = some (some (.ref f35)))
    (l35 : K.lookup f35 = some ⟨oc35, od35, .func (PySem.W.fnOf "_law_right" "_law_right" (defArgs (top 42)) (defBody (top 42)) (defScope (top 42)) .none kV35 dc35 pm35 an35 cd35 ct35), sl35⟩) (c35 : PySem.W.codeIn K cd35 "_law_right" = true) (k35 : PySem.W.keepIn K (.ref f35) = true)
    (a36 : PySem.W.nsIn K mainGlobals "law" = some (some (.ref f36)))
    (l36 : K.lookup f36 = some ⟨oc36, od36, .func (PySem.W.fnOf "law" "law" (defArgs (top 43)) (defBody (top 43)) (defScope (top 43)) .none kV36 dc36 pm36 an36 cd36 ct36), sl36⟩) (c36 : PySem.W.codeIn K cd36 "law" = true) (k36 : PySem.W.keepIn K (.ref f36) = true)
    (a37 : PySem.W.findIn K (.ref CCursor) "refuse_at" = some (some (.ref f37))) (i37 : PySem.W.isFn K (.ref f37) = true)
    (l37 : K.lookup f37 = some ⟨oc37, od37, .func (PySem.W.fnOf "refuse_at" "Cursor.refuse_at" (defArgs (inClass (top 16) 2)) (defBody (inClass (top 16) 2)) (defScope (inClass (top 16) 2)) .none kV37 dc37 pm37 an37 cd37 ct37), sl37⟩) (c37 : PySem.W.codeIn K cd37 "Cursor.refuse_at" = true) (k37 : PySem.W.keepIn K (.ref f37) = true)
    (g0_a : PySem.W.nsIn K mainGlobals "LONGEST_WORD" = some (some (.int 8 t0)))
    (g1_a : PySem.W.nsIn K mainGlobals "TALE_WORDS" = some (some (.ref g1))) (g1_l : K.lookup g1 = some ⟨.type "tuple", od_1, .seq its1 n1, sl_1⟩) (g1_v : Vals ((["always", "any", "say", "set", "move", "stop"] : List Str).map V.str) its1.toList)
    (g2_a : PySem.W.nsIn K mainGlobals "LINE_WORDS" = some (some (.ref g2))) (g2_l : K.lookup g2 = some ⟨.type "tuple", od_2, .seq its2 n2, sl_2⟩) (g2_v : Vals ((["the", "all", "but", "and", "then", "it", "them", "in", "on", "is", "at", "you", "with", "not", "nowhere"] : List Str).map V.str) its2.toList)
    (g3_a : PySem.W.nsIn K mainGlobals "DIRECTIONS" = some (some (.ref g3))) (g3_l : K.lookup g3 = some ⟨.type "tuple", od_3, .seq its3 n3, sl_3⟩) (g3_v : Vals ((["down", "east", "north", "south", "up", "west"] : List Str).map V.str) its3.toList)
    (g4_a : PySem.W.nsIn K mainGlobals "COMMANDS" = some (some (.ref g4))) (g4_l : K.lookup g4 = some ⟨.type "tuple", od_4, .seq its4 n4, sl_4⟩) (g4_v : Vals ((["take", "drop", "put", "open", "shut", "wear", "doff", "look", "go", "list", "wait", "undo"] : List Str).map V.str) its4.toList)
    (g5_a : PySem.W.nsIn K mainGlobals "MOST_WORDS" = some (some (.int 40 t5)))
    (g6_a : PySem.W.nsIn K mainGlobals "MOST_CLAUSES" = some (some (.int 8 t6)))
    (g7_a : PySem.W.nsIn K mainGlobals "LONE_VERBS" = some (some (.ref g7))) (g7_l : K.lookup g7 = some ⟨.type "tuple", od_7, .seq its7 n7, sl_7⟩) (g7_v : Vals ((["look", "list", "wait", "undo"] : List Str).map V.str) its7.toList)
    (g8_a : PySem.W.nsIn K mainGlobals "MOST_NOUNS" = some (some (.int 3 t8)))
    (g9_a : PySem.W.nsIn K mainGlobals "MOST_NOUN_WORDS" = some (some (.int 4 t9)))
    (z0 : PySem.W.nsIn K mainGlobals "all" = some none)
    (z1 : PySem.W.nsIn K mainGlobals "bool" = some none)
    (z2 : PySem.W.nsIn K mainGlobals "enumerate" = some none)
    (z3 : PySem.W.nsIn K mainGlobals "int" = some none)
    (z4 : PySem.W.nsIn K mainGlobals "isinstance" = some none)
    (z5 : PySem.W.nsIn K mainGlobals "len" = some none)
    (z6 : PySem.W.nsIn K mainGlobals "list" = some none)
    (z7 : PySem.W.nsIn K mainGlobals "range" = some none)
    (z8 : PySem.W.nsIn K mainGlobals "set" = some none)
    (z9 : PySem.W.nsIn K mainGlobals "str" = some none)
    (z10 : PySem.W.nsIn K mainGlobals "tuple" = some none)
    (z11 : PySem.W.nsIn K mainGlobals "zip" = some none) :
    TopOk w K mg gs tab ∧ ∃ f fd, mg "law" = some (.ref f) ∧ Fun K r36.nm r36.qual r36.st f fd ∧ ∀ (s : Shared) (u : Value), BindsTo s fd ⟨[u], []⟩ [("_law_script", u)] := by
  have clClause : Cls K CClause := ⟨pgClause, hdClause, poClause, saClause⟩
  have clCursor : Cls K CCursor := ⟨pgCursor, hdCursor, poCursor, saCursor⟩
  refine ⟨⟨defs_of (.cons (⟨sc0, chk0⟩) (.cons (⟨sc1, chk1⟩) (.cons (⟨sc2, chk2⟩) (.cons (⟨sc3, chk3⟩) (.cons (⟨sc4, chk4⟩) (.cons (⟨sc5, chk5⟩) (.cons (⟨sc6, chk6⟩) (.cons (⟨sc7, chk7⟩) (.cons (⟨sc8, chk8⟩) (.cons (⟨sc9, chk9⟩) (.cons (⟨sc10, chk10⟩) (.cons (⟨sc11, chk11⟩) (.cons (⟨sc12, chk12⟩) (.cons (⟨sc13, chk13⟩) (.cons (⟨sc14, chk14⟩) (.cons (⟨sc15, chk15⟩) (.cons (⟨sc16, chk16⟩) (.cons (⟨sc17, chk17⟩) (.cons (⟨sc18, chk18⟩) (.cons (⟨sc19, chk19⟩) (.cons (⟨sc20, chk20⟩) (.cons (⟨sc21, chk21⟩) (.cons (⟨sc22, chk22⟩) (.cons (⟨sc23, chk23⟩) (.cons (⟨sc24, chk24⟩) (.cons (⟨sc25, chk25⟩) (.cons (⟨sc26, chk26⟩) (.cons (⟨sc27, chk27⟩) (.cons (⟨sc28, chk28⟩) (.cons (⟨sc29, chk29⟩) (.cons (⟨sc30, chk30⟩) (.cons (⟨sc31, chk31⟩) (.cons (⟨sc32, chk32⟩) (.cons (⟨sc33, chk33⟩) (.cons (⟨sc34, chk34⟩) (.cons (⟨sc35, chk35⟩) (.cons (⟨sc36, chk36⟩) (.cons (⟨sc37, chk37⟩) (.nil))))))))))))))))))))))))))))))))))))))), fns_of (.cons (fn_mk (r := r1) X NG e1 a1 l1 c1 k1 (fun _ _ _ _ _ _ us hl => match us, hl with | [_], _ => rfl)) (.cons (fn_mk (r := r2) X NG e2 a2 l2 c2 k2 (fun _ _ _ _ _ _ us hl => match us, hl with | [_], _ => rfl)) (.cons (fn_mk (r := r3) X NG e3 a3 l3 c3 k3 (fun _ _ _ _ _ _ us hl => match us, hl with | [_], _ => rfl)) (.cons (fn_mk (r := r4) X NG e4 a4 l4 c4 k4 (fun _ _ _ _ _ _ us hl => match us, hl with | [_], _ => rfl)) (.cons (fn_mk (r := r18) X NG e18 a18 l18 c18 k18 (fun _ _ _ _ _ _ us hl => match us, hl with | [_], _ => rfl)) (.cons (fn_mk (r := r19) X NG e19 a19 l19 c19 k19 (fun _ _ _ _ _ _ us hl => match us, hl with | [_], _ => rfl)) (.cons (fn_mk (r := r20) X NG e20 a20 l20 c20 k20 (fun _ _ _ _ _ _ us hl => match us, hl with | [_], _ => rfl)) (.cons (fn_mk (r := r21) X NG e21 a21 l21 c21 k21 (fun _ _ _ _ _ _ us hl => match us, hl with | [_], _ => rfl)) (.cons (fn_mk (r := r22) X NG e22 a22 l22 c22 k22 (fun _ _ _ _ _ _ us hl => match us, hl with | [_], _ => rfl)) (.cons (fn_mk (r := r23) X NG e23 a23 l23 c23 k23 (fun _ _ _ _ _ _ us hl => match us, hl with | [_], _ => rfl)) (.cons (fn_mk (r := r24) X NG e24 a24 l24 c24 k24 (fun _ _ _ _ _ _ us hl => match us, hl with | [_], _ => rfl)) (.cons (fn_mk (r := r25) X NG e25 a25 l25 c25 k25 (fun _ _ _ _ _ _ us hl => match us, hl with | [_], _ => rfl)) (.cons (fn_mk (r := r26) X NG e26 a26 l26 c26 k26 (fun _ _ _ _ _ _ us hl => match us, hl with | [_, _], _ => rfl)) (.cons (fn_mk (r := r27) X NG e27 a27 l27 c27 k27 (fun _ _ _ _ _ _ us hl => match us, hl with | [_, _], _ => rfl)) (.cons (fn_mk (r := r28) X NG e28 a28 l28 c28 k28 (fun _ _ _ _ _ _ us hl => match us, hl with | [_, _], _ => rfl)) (.cons (fn_mk (r := r29) X NG e29 a29 l29 c29 k29 (fun _ _ _ _ _ _ us hl => match us, hl with | [_], _ => rfl)) (.cons (fn_mk (r := r30) X NG e30 a30 l30 c30 k30 (fun _ _ _ _ _ _ us hl => match us, hl with | [_], _ => rfl)) (.cons (fn_mk (r := r31) X NG e31 a31 l31 c31 k31 (fun _ _ _ _ _ _ us hl => match us, hl with | [_], _ => rfl)) (.cons (fn_mk (r := r32) X NG e32 a32 l32 c32 k32 (fun _ _ _ _ _ _ us hl => match us, hl with | [_], _ => rfl)) (.cons (fn_mk (r := r33) X NG e33 a33 l33 c33 k33 (fun _ _ _ _ _ _ us hl => match us, hl with | [_], _ => rfl)) (.cons (fn_mk (r := r34) X NG e34 a34 l34 c34 k34 (fun _ _ _ _ _ _ us hl => match us, hl with | [_, _, _], _ => rfl)) (.cons (fn_mk (r := r35) X NG e35 a35 l35 c35 k35 (fun _ _ _ _ _ _ us hl => match us, hl with | [_, _], _ => rfl)) (.cons (fn_mk (r := r36) X NG e36 a36 l36 c36 k36 (fun _ _ _ _ _ _ us hl => match us, hl with | [_], _ => rfl)) (.nil)))))))))))))))))))))))), globs_of (.cons (glob_int X NG g0_a) (.cons (glob_tup (ys := ["always", "any", "say", "set", "move", "stop"]) X NG g1_a g1_l g1_v (by decide)) (.cons (glob_tup (ys := ["the", "all", "but", "and", "then", "it", "them", "in", "on", "is", "at", "you", "with", "not", "nowhere"]) X NG g2_a g2_l g2_v (by decide)) (.cons (glob_tup (ys := ["down", "east", "north", "south", "up", "west"]) X NG g3_a g3_l g3_v (by decide)) (.cons (glob_tup (ys := ["take", "drop", "put", "open", "shut", "wear", "doff", "look", "go", "list", "wait", "undo"]) X NG g4_a g4_l g4_v (by decide)) (.cons (glob_int X NG g5_a) (.cons (glob_int X NG g6_a) (.cons (glob_tup (ys := ["look", "list", "wait", "undo"]) X NG g7_a g7_l g7_v (by decide)) (.cons (glob_int X NG g8_a) (.cons (glob_int X NG g9_a) (.nil))))))))))), blts_of (.cons (PySem.W.mg_none_of X NG z0) (.cons (PySem.W.mg_none_of X NG z1) (.cons (PySem.W.mg_none_of X NG z2) (.cons (PySem.W.mg_none_of X NG z3) (.cons (PySem.W.mg_none_of X NG z4) (.cons (PySem.W.mg_none_of X NG z5) (.cons (PySem.W.mg_none_of X NG z6) (.cons (PySem.W.mg_none_of X NG z7) (.cons (PySem.W.mg_none_of X NG z8) (.cons (PySem.W.mg_none_of X NG z9) (.cons (PySem.W.mg_none_of X NG z10) (.cons (PySem.W.mg_none_of X NG z11) (.nil))))))))))))), noat_of (.cons (no_mk X NG aCCursor clCursor no0) (.cons (no_mk X NG aCCursor clCursor no1) (.cons (no_mk X NG aCCursor clCursor no2) (.cons (no_mk X NG aCClause clClause no3) (.cons (no_mk X NG aCClause clClause no4) (.cons (no_mk X NG aCClause clClause no5) (.cons (no_mk X NG aCClause clClause no6) (.nil)))))))), mets_of (.cons (met_mk (r := r37) X NG e37 aCCursor clCursor a37 i37 l37 c37 k37 (fun _ _ _ _ _ _ us hl => match us, hl with | [_, _], _ => rfl)) (.cons (met_mk (r := r8) X NG e8 aCCursor clCursor a8 i8 l8 c8 k8 (fun _ _ _ _ _ _ us hl => match us, hl with | [_], _ => rfl)) (.cons (met_mk (r := r9) X NG e9 aCCursor clCursor a9 i9 l9 c9 k9 (fun _ _ _ _ _ _ us hl => match us, hl with | [_], _ => rfl)) (.cons (met_mk (r := r6) X NG e6 aCCursor clCursor a6 i6 l6 c6 k6 (fun _ _ _ _ _ _ us hl => match us, hl with | [_], _ => rfl)) (.cons (met_mk (r := r15) X NG e15 aCCursor clCursor a15 i15 l15 c15 k15 (fun _ _ _ _ _ _ us hl => match us, hl with | [_], _ => rfl)) (.cons (met_mk (r := r10) X NG e10 aCCursor clCursor a10 i10 l10 c10 k10 (fun _ _ _ _ _ _ us hl => match us, hl with | [_, _], _ => rfl)) (.cons (met_mk (r := r12) X NG e12 aCCursor clCursor a12 i12 l12 c12 k12 (fun _ _ _ _ _ _ us hl => match us, hl with | [_, _], _ => rfl)) (.cons (met_mk (r := r13) X NG e13 aCCursor clCursor a13 i13 l13 c13 k13 (fun _ _ _ _ _ _ us hl => match us, hl with | [_], _ => rfl)) (.cons (met_mk (r := r17) X NG e17 aCClause clClause a17 i17 l17 c17 k17 (fun _ _ _ _ _ _ us hl => match us, hl with | [_], _ => rfl)) (.nil)))))))))), mks_of (.cons (mk_mk (r := r5) X NG e5 aCCursor a5 i5 mkCursor kcCursor l5 c5 k5 (fun _ _ _ _ _ _ us hl => match us, hl with | [_, _, _], _ => rfl)) (.cons (mk_mk (r := r16) X NG e16 aCClause a16 i16 mkClause kcClause l16 c16 k16 (fun _ _ _ _ _ _ us hl => match us, hl with | [_, _, _, _, _], _ => rfl)) (.nil))), isc_of (.cons (⟨_, PySem.W.mg_of X NG aCClause, ⟨clClause, iaClause, ihn, iht, imClause, if_pos (beq_self_eq_true _)⟩⟩) (.nil)), gdic_of (.nil)⟩, f36, _, PySem.W.mg_of X NG a36, fun_mk (st := top 43) l36 c36 k36, fun s u => .of_eq rfl⟩
end K3

open PySem PySem.W PyProof.Rows in
set_option maxHeartbeats 0 in
theorem PySem.Challenge.cw_worldtale_k13_lines_parted_holds : PySem.Challenge.rw_worldtale_k13_lines_parted.Holds := by
  w_on; o_law; k_head; (case hw => w_witness2)
  k_fill
  refine Z.walk (l := PySem.Challenge.rw_worldtale_k13_lines_parted) (G := K3.gs) (t := K3.tab) (k := 20) (r := K3.r36) (x := "law") (p := "_law_script") rfl rfl rfl ⟨rfl, by decide, by decide⟩ (fun w h Y => PySem.W.kIn_of Y) K3.e36 rfl (K3.tT ▸ K3.run) ?F
  case F =>
    intro w mg h KX NG
    refine' K3.all_mk (w := w) KX NG ?aCClause ?pgClause ?hdClause ?poClause ?saClause ?mkClause ?kcClause ?aCCursor ?pgCursor ?hdCursor ?poCursor ?saCursor ?mkCursor ?kcCursor ?ihn ?iht ?iaClause ?imClause ?no0 ?no1 ?no2 ?no3 ?no4 ?no5 ?no6 ?a1 ?l1 ?c1 ?k1 ?a2 ?l2 ?c2 ?k2 ?a3 ?l3 ?c3 ?k3 ?a4 ?l4 ?c4 ?k4 ?a5 ?i5 ?l5 ?c5 ?k5 ?a6 ?i6 ?l6 ?c6 ?k6 ?a8 ?i8 ?l8 ?c8 ?k8 ?a9 ?i9 ?l9 ?c9 ?k9 ?a10 ?i10 ?l10 ?c10 ?k10 ?a12 ?i12 ?l12 ?c12 ?k12 ?a13 ?i13 ?l13 ?c13 ?k13 ?a15 ?i15 ?l15 ?c15 ?k15 ?a16 ?i16 ?l16 ?c16 ?k16 ?a17 ?i17 ?l17 ?c17 ?k17 ?a18 ?l18 ?c18 ?k18 ?a19 ?l19 ?c19 ?k19 ?a20 ?l20 ?c20 ?k20 ?a21 ?l21 ?c21 ?k21 ?a22 ?l22 ?c22 ?k22 ?a23 ?l23 ?c23 ?k23 ?a24 ?l24 ?c24 ?k24 ?a25 ?l25 ?c25 ?k25 ?a26 ?l26 ?c26 ?k26 ?a27 ?l27 ?c27 ?k27 ?a28 ?l28 ?c28 ?k28 ?a29 ?l29 ?c29 ?k29 ?a30 ?l30 ?c30 ?k30 ?a31 ?l31 ?c31 ?k31 ?a32 ?l32 ?c32 ?k32 ?a33 ?l33 ?c33 ?k33 ?a34 ?l34 ?c34 ?k34 ?a35 ?l35 ?c35 ?k35 ?a36 ?l36 ?c36 ?k36 ?a37 ?i37 ?l37 ?c37 ?k37 ?g0_a ?g1_a ?g1_l ?g1_v ?g2_a ?g2_l ?g2_v ?g3_a ?g3_l ?g3_v ?g4_a ?g4_l ?g4_v ?g5_a ?g6_a ?g7_a ?g7_l ?g7_v ?g8_a ?g9_a ?z0 ?z1 ?z2 ?z3 ?z4 ?z5 ?z6 ?z7 ?z8 ?z9 ?z10 ?z11
    (case aCClause => k_is)
    (case pgClause => k_is)
    (case hdClause => k_is)
    (case poClause => k_is)
    (case saClause => k_is)
    (case mkClause => k_is)
    (case kcClause => k_is)
    (case aCCursor => k_is)
    (case pgCursor => k_is)
    (case hdCursor => k_is)
    (case poCursor => k_is)
    (case saCursor => k_is)
    (case mkCursor => k_is)
    (case kcCursor => k_is)
    (case ihn => k_is)
    (case iht => k_is)
    (case iaClause => k_is)
    (case imClause => k_is)
    (case no0 => k_is)
    (case no1 => k_is)
    (case no2 => k_is)
    (case no3 => k_is)
    (case no4 => k_is)
    (case no5 => k_is)
    (case no6 => k_is)
    (case a1 => k_is)
    (case l1 => k_is)
    (case c1 => k_is)
    (case k1 => k_is)
    (case a2 => k_is)
    (case l2 => k_is)
    (case c2 => k_is)
    (case k2 => k_is)
    (case a3 => k_is)
    (case l3 => k_is)
    (case c3 => k_is)
    (case k3 => k_is)
    (case a4 => k_is)
    (case l4 => k_is)
    (case c4 => k_is)
    (case k4 => k_is)
    (case a5 => k_is)
    (case i5 => k_is)
    (case l5 => k_is)
    (case c5 => k_is)
    (case k5 => k_is)
    (case a6 => k_is)
    (case i6 => k_is)
    (case l6 => k_is)
    (case c6 => k_is)
    (case k6 => k_is)
    (case a8 => k_is)
    (case i8 => k_is)
    (case l8 => k_is)
    (case c8 => k_is)
    (case k8 => k_is)
    (case a9 => k_is)
    (case i9 => k_is)
    (case l9 => k_is)
    (case c9 => k_is)
    (case k9 => k_is)
    (case a10 => k_is)
    (case i10 => k_is)
    (case l10 => k_is)
    (case c10 => k_is)
    (case k10 => k_is)
    (case a12 => k_is)
    (case i12 => k_is)
    (case l12 => k_is)
    (case c12 => k_is)
    (case k12 => k_is)
    (case a13 => k_is)
    (case i13 => k_is)
    (case l13 => k_is)
    (case c13 => k_is)
    (case k13 => k_is)
    (case a15 => k_is)
    (case i15 => k_is)
    (case l15 => k_is)
    (case c15 => k_is)
    (case k15 => k_is)
    (case a16 => k_is)
    (case i16 => k_is)
    (case l16 => k_is)
    (case c16 => k_is)
    (case k16 => k_is)
    (case a17 => k_is)
    (case i17 => k_is)
    (case l17 => k_is)
    (case c17 => k_is)
    (case k17 => k_is)
    (case a18 => k_is)
    (case l18 => k_is)
    (case c18 => k_is)
    (case k18 => k_is)
    (case a19 => k_is)
    (case l19 => k_is)
    (case c19 => k_is)
    (case k19 => k_is)
    (case a20 => k_is)
    (case l20 => k_is)
    (case c20 => k_is)
    (case k20 => k_is)
    (case a21 => k_is)
    (case l21 => k_is)
    (case c21 => k_is)
    (case k21 => k_is)
    (case a22 => k_is)
    (case l22 => k_is)
    (case c22 => k_is)
    (case k22 => k_is)
    (case a23 => k_is)
    (case l23 => k_is)
    (case c23 => k_is)
    (case k23 => k_is)
    (case a24 => k_is)
    (case l24 => k_is)
    (case c24 => k_is)
    (case k24 => k_is)
    (case a25 => k_is)
    (case l25 => k_is)
    (case c25 => k_is)
    (case k25 => k_is)
    (case a26 => k_is)
    (case l26 => k_is)
    (case c26 => k_is)
    (case k26 => k_is)
    (case a27 => k_is)
    (case l27 => k_is)
    (case c27 => k_is)
    (case k27 => k_is)
    (case a28 => k_is)
    (case l28 => k_is)
    (case c28 => k_is)
    (case k28 => k_is)
    (case a29 => k_is)
    (case l29 => k_is)
    (case c29 => k_is)
    (case k29 => k_is)
    (case a30 => k_is)
    (case l30 => k_is)
    (case c30 => k_is)
    (case k30 => k_is)
    (case a31 => k_is)
    (case l31 => k_is)
    (case c31 => k_is)
    (case k31 => k_is)
    (case a32 => k_is)
    (case l32 => k_is)
    (case c32 => k_is)
    (case k32 => k_is)
    (case a33 => k_is)
    (case l33 => k_is)
    (case c33 => k_is)
    (case k33 => k_is)
    (case a34 => k_is)
    (case l34 => k_is)
    (case c34 => k_is)
    (case k34 => k_is)
    (case a35 => k_is)
    (case l35 => k_is)
    (case c35 => k_is)
    (case k35 => k_is)
    (case a36 => k_is)
    (case l36 => k_is)
    (case c36 => k_is)
    (case k36 => k_is)
    (case a37 => k_is)
    (case i37 => k_is)
    (case l37 => k_is)
    (case c37 => k_is)
    (case k37 => k_is)
    (case g0_a => k_is)
    (case g1_a => k_is)
    (case g1_l => k_is)
    (case g1_v => repeat (first | exact .nil | refine .cons ⟨_, rfl⟩ ?_))
    (case g2_a => k_is)
    (case g2_l => k_is)
    (case g2_v => repeat (first | exact .nil | refine .cons ⟨_, rfl⟩ ?_))
    (case g3_a => k_is)
    (case g3_l => k_is)
    (case g3_v => repeat (first | exact .nil | refine .cons ⟨_, rfl⟩ ?_))
    (case g4_a => k_is)
    (case g4_l => k_is)
    (case g4_v => repeat (first | exact .nil | refine .cons ⟨_, rfl⟩ ?_))
    (case g5_a => k_is)
    (case g6_a => k_is)
    (case g7_a => k_is)
    (case g7_l => k_is)
    (case g7_v => repeat (first | exact .nil | refine .cons ⟨_, rfl⟩ ?_))
    (case g8_a => k_is)
    (case g9_a => k_is)
    (case z0 => k_is)
    (case z1 => k_is)
    (case z2 => k_is)
    (case z3 => k_is)
    (case z4 => k_is)
    (case z5 => k_is)
    (case z6 => k_is)
    (case z7 => k_is)
    (case z8 => k_is)
    (case z9 => k_is)
    (case z10 => k_is)
    (case z11 => k_is)
