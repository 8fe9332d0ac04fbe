import PyProof.Rows.All
import Wide.All
import OpenK.AllK
import Wide.FinOn
import PyProof.EqAt
import PyProof.EqKinds
import PyProof.TupleCall
import HandS.Base
import HandS.Call
import HandS.List
import HandS.ForMost
import HandS.ForExc
import HandS.RaiseMore
import HandS.FStr
import HandS.MakeKwOnly
import HandS.Property
import HandS.IsInst
import HandS.Evl
import HandS.Deep
import HandS.TupSets
import HandS.SetFor
import KE.KExcSuper
import HandS.ExcInit
import HandS.Nested
import HandS.ExcIs
import HandS.ExcField
import HandS.TryMany
import KE.KExcIs
import HandS.ExcOwn
import HandS.Strs
import HandS.TupAny
import KE.RegKIsAll
import KE.RegKSuper
import PySem.Challenge.RW_everyfire_k01_questions
set_option Elab.async false
set_option linter.all false
set_option maxRecDepth 100000
set_option maxHeartbeats 4000000
/-! len(set(xs)) of any number of texts -/
namespace EvS
open PySem PySem.Spec PyProof.Rows
/-- the different ones, each where it came first -/
def dd {α : Type} [DecidableEq α] : List α → List α → List α
  | acc, [] => acc
  | acc, x :: r => dd (if x ∈ acc then acc else acc ++ [x]) r
theorem dd_len_le {α : Type} [DecidableEq α] : ∀ (l acc : List α), (dd acc l).length ≤ acc.length + l.length
  | [], acc => Nat.le_refl _
  | x :: r, acc => by
    unfold dd
    by_cases h : x ∈ acc
    · rw [if_pos h]
      have := dd_len_le r acc
      simp only [List.length_cons]
      omega
    · rw [if_neg h]
      have := dd_len_le r (acc ++ [x])
      simp only [List.length_cons, List.length_append, List.length_nil] at this ⊢
      omega
theorem dd_len_eq {α : Type} [DecidableEq α] : ∀ (l acc : List α), acc.Nodup → ((dd acc l).length = acc.length + l.length ↔ (acc ++ l).Nodup)
  | [], acc, h => by simp [dd, h]
  | x :: r, acc, h => by
    unfold dd
    by_cases hx : x ∈ acc
    · rw [if_pos hx]
      have h1 := dd_len_le r acc
      constructor
      · intro e
        simp only [List.length_cons] at e
        omega
      · intro e
        have := (List.nodup_append.mp e).2.2 x hx x (List.mem_cons_self ..)
        exact absurd rfl this
    · rw [if_neg hx]
      have hn : (acc ++ [x]).Nodup := by
        rw [List.nodup_append]
        refine ⟨h, by simp, fun a ha b hb => ?_⟩
        rw [List.mem_singleton] at hb
        subst hb
        exact fun e => hx (e ▸ ha)
      have ih := dd_len_eq r (acc ++ [x]) hn
      simp only [List.length_cons, List.length_append, List.length_nil, List.append_assoc, List.singleton_append] at ih ⊢
      rw [← ih]
      omega
theorem dd_snoc {α : Type} [DecidableEq α] (x : α) : ∀ (l acc : List α), dd acc (l ++ [x]) = (if x ∈ dd acc l then dd acc l else dd acc l ++ [x])
  | [], acc => rfl
  | y :: r, acc => by
    show dd _ (r ++ [x]) = _
    rw [dd_snoc x r]
    rfl
section
variable {prog : Program} {w : World} {A : Around} {R : Result → Shared → Prop} {I : Addr} {fp wr : List Addr} {G : Array GenState → Array GenState → Prop} {n : Nat} {P : Nat → Value → Prop} {St : Nat → Shared → Prop}
variable {κ : Type} [DecidableEq κ] {kd : KeyKind prog w κ}
theorem turnK (W : WalksS prog w A.in1 I fp wr G n P St) (S : Addr) (hSf : S ∉ fp) (ks : List κ) (hlen : ks.length = n) (hmax : n < 4000)
    (hat : ∀ i v k, P i v → ks[i]? = some k → kd.is k v = true ∧ v.scannable = true) :
    ∀ (m i : Nat) (s : Shared), n - i = m → i ≤ n → St i s →
      Heap.SetOf kd s.heap S (fun k => decide (k ∈ dd [] (ks.take i))) (dd [] (ks.take i)).length →
      (∀ s', Moved (S :: wr) G s s' → Heap.SetOf kd s'.heap S (fun k => decide (k ∈ dd [] ks)) (dd [] ks).length → R (.ok (.ret .none)) s') →
      codeAny (model prog w) A (.builtin "set.update.loop" ⟨[.ref S, .ref I], []⟩) R s := by
  have nw : S ∉ wr := fun q => hSf (W.sub _ q)
  have up : ∀ c ∈ wr, c ∈ S :: wr := fun c hc => List.mem_cons_of_mem _ hc
  intro m
  induction m with
  | zero =>
    intro i s hm hi hst hS hR
    obtain rfl : i = n := by omega
    refine codeAny_builtin PyProof.Rows.F.entry_set_update_loop ?_
    rw [Around.under_plainId PyProof.Rows.F.plain_set_update_loop _]
    show wpAny _ A.in1 (pyNext (.ref I) >>= _) _ _ s
    refine wpAny_bind (W.done s _ _ hst fun s1 mv => ?_)
    refine wpAny_pure (hR s1 (mv.mono up) ?_)
    rw [← hlen, List.take_length] at hS
    obtain ⟨o, es, ep, t, ho, more⟩ := hS
    exact ⟨o, es, ep, t, mv.heap S _ nw ho, more⟩
  | succ m ih =>
    intro i s hm hi hst hS hR
    have lt : i < n := by omega
    obtain ⟨k0, hk0⟩ : ∃ k, ks[i]? = some k := ⟨ks[i]'(by omega), List.getElem?_eq_getElem (by omega)⟩
    refine codeAny_builtin PyProof.Rows.F.entry_set_update_loop ?_
    rw [Around.under_plainId PyProof.Rows.F.plain_set_update_loop _]
    show wpAny _ A.in1 (pyNext (.ref I) >>= _) _ _ s
    refine wpAny_bind (W.item i s _ _ lt hst fun v s1 hP hst1 mv => ?_)
    obtain ⟨hv, hsc⟩ := hat i v k0 hP hk0
    have hS1 : Heap.SetOf kd s1.heap S (fun k => decide (k ∈ dd [] (ks.take i))) (dd [] (ks.take i)).length := by
      obtain ⟨o, es, ep, t, ho, more⟩ := hS
      exact ⟨o, es, ep, t, mv.heap S _ nw ho, more⟩
    show wpAny _ A.in1 (holding [v] (setAdd S v) >>= _) _ _ s1
    refine wpAny_bind (wpAny_holding ?_)
    unfold setAdd
    refine wpAny_holding ?_
    refine wpAny_bind (kd.pyHash (k := k0) hv ?_)
    have small : (dd [] (ks.take i)).length + 1 < scanBound := by
      have q := dd_len_le (ks.take i) []
      rw [List.length_take, List.length_nil] at q
      unfold scanBound
      omega
    refine wpAny_setAddHashed_of (knd := kd) (s := { s1 with toks := s1.toks + 1 }) hv hsc hS1 small fun h2 sb hS2 => ?_
    have et : ks.take (i + 1) = ks.take i ++ [k0] := by
      rw [List.take_add_one, hk0] <;> rfl
    have hS3 : Heap.SetOf kd h2 S (fun k => decide (k ∈ dd [] (ks.take (i + 1)))) (dd [] (ks.take (i + 1))).length := by
      rw [et, dd_snoc]
      by_cases hin : k0 ∈ dd [] (ks.take i)
      · rw [if_pos hin]
        rw [if_pos (decide_eq_true hin)] at hS2
        have e : (fun k' => decide (k' ∈ dd [] (ks.take i)) || decide (k' = k0)) = fun k => decide (k ∈ dd [] (ks.take i)) := by
          funext k'
          by_cases q : k' = k0
          · subst q
            simp [hin]
          · simp [q]
        rw [e] at hS2
        exact hS2
      · rw [if_neg hin]
        rw [if_neg (by simpa using hin)] at hS2
        have e : (fun k' => decide (k' ∈ dd [] (ks.take i)) || decide (k' = k0)) = fun k => decide (k ∈ dd [] (ks.take i) ++ [k0]) := by
          funext k'
          simp [List.mem_append]
        rw [e] at hS2
        rw [List.length_append]
        exact hS2
    refine wpAny_pure ⟨plainId_quiet PyProof.Rows.F.plain_set_update_loop _, ih (i + 1) _ (by omega) lt (W.frame _ s1 _ _ hst1 (Nat.le_succ _) fun c hc o e => ?_) hS3 fun s3 mv3 hS4 => ?_⟩
    · rw [sb.2 c (fun z : c = S => hSf (by rw [← z]; exact hc))]
      exact e
    · refine hR s3 (Moved.trans W.gtrans ((mv.mono up).then_heap (Nat.le_succ _) fun c o hc e => ?_) mv3) hS4
      rw [sb.2 c (fun z : c = S => hc (by rw [z]; exact List.mem_cons_self))]
      exact e
end
section
variable {prog : Program} {w : World} {A : Around} {E : Value → Shared → Prop} {s : Shared} {κ : Type} [DecidableEq κ] {kd : KeyKind prog w κ}
def blankSet (led : Bool) : Obj := { cls := .type "set", dict := none, data := .set #[] 0 (.fresh 0 0 led) }
/-- set(l), l a list (isT false) or a tuple (isT true) -/
theorem call_setK {l : Addr} {its : Array Value} {ks : List κ} {Q : Value → Shared → Prop} (hA : A.handled = none) (hl : s.heap.IsList l its ∨ s.heap.IsTuple l its)
    (hlen : ks.length = its.size) (hmax : its.size < 4000) (hat : ∀ (i : Nat) (v : Value) (k : κ), its[i]? = some v → ks[i]? = some k → kd.is k v = true ∧ v.scannable = true)
    (h : ∀ (h' : Heap) (tk : Nat), Heap.SetOf kd h' s.heap.objs.size (fun k => decide (k ∈ dd [] ks)) (dd [] ks).length →
      (∀ c o, c < s.heap.objs.size → s.heap.get? c = some o → h'.get? c = some o) → Q (.ref s.heap.objs.size) { s with heap := h', toks := tk }) :
    wpAny (model prog w) A (call (.type "set") [.ref l]) Q E s := by
  obtain ⟨c, tl, hmro⟩ := PySem.F.called_set.mro
  have hmade := PySem.F.called_set.made
  have hsub := PySem.F.called_set.sub
  refine wpAny_call (codeAny_of_tree ?_)
  show wpAny _ _ (callAny (.type "set") _) _ _ _
  refine wpAny_pure ⟨Code.quiet_builtin _ (by decide +kernel), codeAny_builtin PySem.F.entry_type_call ?_⟩
  rw [Around.under_plain (weight_type_call_type "set" [.ref l] []) rfl]
  have h1 := PySem.F.called_set.notType
  have h2 := PySem.F.called_set.canCreate
  have hct := PySem.F.typeCall_set_1 (.ref l)
  repeat (any_goals (first | assumption | wp_step))
  refine codeAny_mono (code_set_new_1 (.ref l) (E := E) (Q₁ := fun b s₁ => ∃ led : Bool, b = .ref s.heap.objs.size ∧ s₁ = { s with heap := s.heap.push (blankSet led) }) fun led => ⟨led, rfl, rfl⟩) fun r s₁ hr => ?_
  cases r with
  | error e => exact hr
  | ok fl =>
    cases fl with
    | ret b =>
      obtain ⟨led, rfl, rfl⟩ := hr
      have hS : (s.heap.push (blankSet led)).get? s.heap.objs.size = some (blankSet led) := Heap.get?_push_size _ rfl
      have hT : Shared.TypeIs { s with heap := s.heap.push (blankSet led) } (.ref s.heap.objs.size) "set" := ⟨_, hS, rfl⟩
      have hli := PySem.F.called_set.init.lookup
      have hbi := PySem.F.called_set.init.bind (.ref s.heap.objs.size)
      repeat (any_goals (first | assumption | wp_step))
      refine codeAny_mono (codeAny_call_builtin (R := wants (fun r s₂ => r = .none ∧ ∃ h' tk, s₂ = { s with heap := h', toks := tk } ∧
          Heap.SetOf kd h' s.heap.objs.size (fun k => decide (k ∈ dd [] ks)) (dd [] ks).length ∧
          (∀ c o, c < s.heap.objs.size → s.heap.get? c = some o → h'.get? c = some o)) E) PySem.F.called_set.init.plain PySem.F.entry_set_init (check_set_init_1 hT ?_)) fun r₂ s₂ hr₂ => ?_
      · have fin : ∀ (s1 : Shared) (I : Addr), I ≠ s.heap.objs.size → s.heap.objs.size < I → Moved [s.heap.objs.size, I] (fun a b => a = b) { s with heap := (s.heap.push (blankSet led)) } s1 → True := fun _ _ _ _ _ => trivial
        clear fin
        rcases hl with hl | hl
        · obtain ⟨ol, hol, hcl, nl, hdl⟩ := hl
          obtain ⟨ocls, odict, odata, oslots⟩ := ol
          simp only at hcl hdl
          subst hcl; subst hdl
          have hol' : (s.heap.push (blankSet led)).get? l = some { cls := .type "list", dict := odict, data := .seq its nl, slots := oslots } := Heap.get?_push_of_some _ hol
          have hsls := PySem.F.sub_list_set
          have hslf := PySem.F.sub_list_frozenset
          have hne : (Value.type "list" == Value.type "dict") = false := by decide
          have hl1 : (s.heap.push (blankSet led)).IsList l its := ⟨_, hol', rfl, nl, rfl⟩
          unfold Builtin.«set.__init__» noKeywords Builtin.Frozenset.updateFrom
          generalize hPI : pyIter = PI
          wp_walk
          subst hPI
          refine wpAny_pyIter_list hl1 ?_
          refine wpAny_bind (wpAny_runValue ?_)
          have hlS : l < s.heap.objs.size := Heap.lt_size hol
          have h3 : A.in1.in1.in1.handled = none := by simp [hA]
          have nI : l ≠ (s.heap.push (blankSet led)).objs.size := by
            rw [Heap.size_push]; exact Nat.ne_of_lt (Nat.lt_succ_of_lt hlS)
          have nS : s.heap.objs.size ∉ [(s.heap.push (blankSet led)).objs.size, l] := by
            rw [Heap.size_push]; simp only [List.mem_cons, List.mem_singleton, List.not_mem_nil, or_false, not_or]
            exact ⟨Nat.ne_of_lt (Nat.lt_succ_self _), Nat.ne_of_gt hlS⟩
          refine turnK (kd := kd) ((Walks.list h3 _ l nI its).toS) s.heap.objs.size nS ks hlen hmax (fun i v k hv hk => hat i v k hv hk) (its.size - 0) 0 _ (by omega) (Nat.zero_le _) ⟨⟨_, Heap.get?_push_size _ rfl, rfl, rfl⟩, (hl1.push _)⟩ ?hS0 ?hR
          case hS0 =>
            have hget : ((s.heap.push (blankSet led)).push { cls := .type "list_iterator", data := .fields #[.ref l, .int 0 0] }).get? s.heap.objs.size = some (blankSet led) := Heap.get?_push_of_some _ hS
            exact PyProof.Rows.SetOf_congr ((PyProof.Rows.setObjOf_fresh (knd := kd) led).setOf hget (by unfold scanBound; omega)) (fun _ => rfl) rfl
          case hR =>
            intro s' mv hS'
            obtain ⟨h', g', d', tk', os'⟩ := s'
            obtain rfl : g' = s.gens := mv.gens
            obtain rfl : d' = s.drawn := mv.drawn
            obtain rfl : os' = s.os := mv.os
            show wpAny _ _ _ _ _ _
            refine wpAny_pure ?_
            show wpAny _ _ (ret Value.none) _ _ _
            refine wpAny_pure ⟨rfl, h', tk', rfl, hS', fun c o hc e => ?_⟩
            have n1 : c ≠ s.heap.objs.size := Nat.ne_of_lt hc
            have n2 : c ≠ (s.heap.push (blankSet led)).objs.size := by
              rw [Heap.size_push]; exact Nat.ne_of_lt (Nat.lt_succ_of_lt hc)
            exact mv.heap c o (by simp only [List.mem_cons, List.mem_singleton, List.not_mem_nil, or_false, not_or]; exact ⟨n1, n2⟩) (Heap.get?_push_of_some _ (Heap.get?_push_of_some _ e))
        · obtain ⟨ol, hol, hcl, nl, hdl⟩ := hl
          obtain ⟨ocls, odict, odata, oslots⟩ := ol
          simp only at hcl hdl
          subst hcl; subst hdl
          have hol' : (s.heap.push (blankSet led)).get? l = some { cls := .type "tuple", dict := odict, data := .seq its nl, slots := oslots } := Heap.get?_push_of_some _ hol
          have hsls := PySem.F.sub_tuple_set
          have hslf := PySem.F.sub_tuple_frozenset
          have hne : (Value.type "tuple" == Value.type "dict") = false := by decide
          have hl1 : (s.heap.push (blankSet led)).IsTuple l its := ⟨_, hol', rfl, nl, rfl⟩
          unfold Builtin.«set.__init__» noKeywords Builtin.Frozenset.updateFrom
          generalize hPI : pyIter = PI
          wp_walk
          subst hPI
          refine wpAny_pyIter_tuple hl1 ?_
          refine wpAny_bind (wpAny_runValue ?_)
          have hlS : l < s.heap.objs.size := Heap.lt_size hol
          have h3 : A.in1.in1.in1.handled = none := by simp [hA]
          have nI : l ≠ (s.heap.push (blankSet led)).objs.size := by
            rw [Heap.size_push]; exact Nat.ne_of_lt (Nat.lt_succ_of_lt hlS)
          have nS : s.heap.objs.size ∉ [(s.heap.push (blankSet led)).objs.size, l] := by
            rw [Heap.size_push]; simp only [List.mem_cons, List.mem_singleton, List.not_mem_nil, or_false, not_or]
            exact ⟨Nat.ne_of_lt (Nat.lt_succ_self _), Nat.ne_of_gt hlS⟩
          refine turnK (kd := kd) ((Walks.tuple h3 _ l nI its).toS) s.heap.objs.size nS ks hlen hmax (fun i v k hv hk => hat i v k hv hk) (its.size - 0) 0 _ (by omega) (Nat.zero_le _) ⟨⟨_, Heap.get?_push_size _ rfl, rfl, rfl⟩, (hl1.push _)⟩ ?hS0 ?hR
          case hS0 =>
            have hget : ((s.heap.push (blankSet led)).push { cls := .type "tuple_iterator", data := .fields #[.ref l, .int 0 0] }).get? s.heap.objs.size = some (blankSet led) := Heap.get?_push_of_some _ hS
            exact PyProof.Rows.SetOf_congr ((PyProof.Rows.setObjOf_fresh (knd := kd) led).setOf hget (by unfold scanBound; omega)) (fun _ => rfl) rfl
          case hR =>
            intro s' mv hS'
            obtain ⟨h', g', d', tk', os'⟩ := s'
            obtain rfl : g' = s.gens := mv.gens
            obtain rfl : d' = s.drawn := mv.drawn
            obtain rfl : os' = s.os := mv.os
            show wpAny _ _ _ _ _ _
            refine wpAny_pure ?_
            show wpAny _ _ (ret Value.none) _ _ _
            refine wpAny_pure ⟨rfl, h', tk', rfl, hS', fun c o hc e => ?_⟩
            have n1 : c ≠ s.heap.objs.size := Nat.ne_of_lt hc
            have n2 : c ≠ (s.heap.push (blankSet led)).objs.size := by
              rw [Heap.size_push]; exact Nat.ne_of_lt (Nat.lt_succ_of_lt hc)
            exact mv.heap c o (by simp only [List.mem_cons, List.mem_singleton, List.not_mem_nil, or_false, not_or]; exact ⟨n1, n2⟩) (Heap.get?_push_of_some _ (Heap.get?_push_of_some _ e))
      · cases r₂ with
        | error e => exact hr₂
        | ok fl₂ =>
          cases fl₂ with
          | ret r =>
            obtain ⟨rfl, h', tk, rfl, hS', hk'⟩ := hr₂
            repeat (any_goals (first | assumption | wp_step))
            exact h _ _ hS' hk'
          | _ => exact hr₂.elim
    | _ => exact hr.elim
end
end EvS
namespace L2
open PySem PySem.Spec PyProof.Rows EvS
section
variable {X : Cx}
/-- len(set(xs)), xs a list or a tuple of texts -/
def tLenSetS (K : PySem.W.Frag) (ta : TE) : TE := fun σ H Q => ta σ H fun x H1 => ∃ (l : Addr) (xs : List Str), x = .ref l ∧ (SqL K H1 l (xs.map V.str) ∨ SqT K H1 l (xs.map V.str)) ∧ xs.length < 4000 ∧ Q (.int ((dd [] xs).length : Nat)) H1
theorem texts_at : ∀ {xs : List Str} {us : List Value}, Vals (xs.map V.str) us → ∀ (i : Nat) (v : Value) (k : Str), us[i]? = some v → xs[i]? = some k → ∃ t, v = Value.str k t
  | [], _, _, i, v, k, _, h => by simp at h
  | x :: xs, _, .cons r t, 0, v, k, h1, h2 => by
    obtain ⟨tk, rfl⟩ := r
    simp only [List.getElem?_cons_zero, Option.some.injEq] at h1 h2
    subst h1 h2
    exact ⟨tk, rfl⟩
  | x :: xs, _, .cons r t, i + 1, v, k, h1, h2 => by
    simp only [List.getElem?_cons_succ] at h1 h2
    exact texts_at t i v k h1 h2
theorem pe_lenSetS {a : Expr} {ta : TE} {p p2 q pos : Pos} (hc : X.calm = true) (hg : Gl X "len") (hm : X.mg "len" = none) (hg2 : Gl X "set") (hm2 : X.mg "set" = none) (ha : PE X a ta)
    (na : starEach [a] X.env = (false, eval a X.env) :: starEach [] X.env := by rfl) : PE X (.Call (.Name "len" p) [.Call (.Name "set" p2) [a] [] q] [] pos) (tLenSetS X.K ta) := by
  refine ⟨fun pins s σ H Q I h => ?_⟩
  refine Call_ (ld_blt I hg hm boot_len ?_)
  refine PyProof.Rows.callWith_builtin1 (PyProof.Rows.args_cons ?_ rfl) rfl rfl
  refine Call_ (ld_blt I hg2 hm2 boot_set ?_)
  refine PyProof.Rows.callWith_type1 (PyProof.Rows.args_cons (thn (ha.run pins s σ H _ I h) fun v s1 ⟨x, H1, I1, r1, q1⟩ => PyProof.Rows.args_nil ?_) na) na rfl
  obtain ⟨l, xs, rfl, hq, hmax, q1⟩ := q1
  cases r1
  have go : ∀ (its : List Value), Vals (xs.map V.str) its → (s1.heap.IsList l its.toArray ∨ s1.heap.IsTuple l its.toArray) →
      wpAny (model X.prog X.w) X.A (call (.type "set") [.ref l]) (fun v s₂ => wpAny (model X.prog X.w) X.A (spliced (backTo pos (starEach [] X.env))) (fun vs s₃ => wpAny (model X.prog X.w) X.A (call (.builtin "len") (v :: vs)) (EP X pins σ Q) X.xe s₃) X.xe s₂) X.xe s1 := fun its r pl => by
    have hl : its.toArray.size = xs.length := by rw [List.size_toArray, ← r.length, List.length_map]
    refine call_setK (kd := PySem.strKind X.prog X.w) (ks := xs) (I1.ok.hd hc) pl hl.symm (by rw [hl]; exact hmax) (fun i v k hv hk => ?_) fun h' tk hS hk => ?_
    · obtain ⟨t, rfl⟩ := texts_at r i v k (by rw [List.getElem?_toArray] at hv; exact hv) hk
      exact ⟨strKind_is _ _ _ _, rfl⟩
    · refine PyProof.Rows.args_nil ?_
      obtain ⟨o, es, ep, t, ho, hex, hd, _, _, _, hf, hn⟩ := hS
      have I2 : Inv X pins σ H1 { s1 with heap := h', toks := tk } := I1.kept fun c o e => hk c o (Heap.lt_size e) e
      have sm := dd_len_le xs []
      rw [List.length_nil] at sm
      exact call_len_set ho hex hd hf (by rw [hn] <;> omega) ⟨.int ((dd [] xs).length : Nat), H1, I2.tok _, ⟨_, by rw [hn]⟩, q1⟩
  rcases hq with hq | hq
  · obtain ⟨its, r, pl, hz⟩ := I1.list hq
    exact go its r (.inl pl.isList)
  · obtain ⟨its, r, pl, hz⟩ := I1.tuple hq
    exact go its r (.inr pl)
end
end L2

set_option Elab.async false
set_option linter.all false
set_option maxRecDepth 100000
set_option maxHeartbeats 4000000
namespace EvS
open PySem PySem.Spec PyProof.Rows L2
section
variable {X : Cx}
def rTupK (K : PySem.W.Frag) : List V → Hp → VK → Prop := fun xs H Q => ∃ p ys, xs = [.ref p] ∧ ((SqL K H p ys ∧ ∀ l, H l = none → Q (.ref l) (upd H l (.tup ys))) ∨ (SqT K H p ys ∧ Q (.ref p) H))
theorem call_tupK : CallR X (.type "tuple") (rTupK X.K) := call_tuple_of
/-- tuple(xs), xs a list or a tuple -/
def rTupS (K : PySem.W.Frag) : List V → Hp → VK → Prop := fun xs H Q => ∃ p ys, xs = [.ref p] ∧ (SqL K H p ys ∨ SqT K H p ys) ∧ ∀ u H', Evl.Ex H H' → SqT K H' u ys → Q (.ref u) H'
theorem call_tupS : CallR X (.type "tuple") (rTupS X.K) := fun pins s σ H xs us Q I r h => by
  obtain ⟨p, ys, e, hs, q⟩ := h
  refine call_tuple_of pins s σ H xs us Q I r ⟨p, ys, e, ?_⟩
  rcases hs with hs | hs
  · exact .inl ⟨hs, fun l hl => q l _ (Evl.Ex.new hl) (Evl.st_of upd_same)⟩
  · exact .inr ⟨hs, q p H (Evl.Ex.refl H) hs⟩
def rLstK (K : PySem.W.Frag) : List V → Hp → VK → Prop := fun xs H Q => ∃ p ys, xs = [.ref p] ∧ (SqL K H p ys ∨ SqT K H p ys) ∧ ∀ l, H l = none → Q (.ref l) (upd H l (.lst ys))
theorem call_lstK : CallR X (.type "list") (rLstK X.K) := call_list_of
/-- what is never reached -/
theorem pss_any {b : List Stmt} : PSs X b (fun _ _ _ => False) := ⟨fun _ _ _ _ _ _ q => q.elim⟩
theorem ps_any {b : Stmt} : PS X b (fun _ _ _ => False) := ⟨fun _ _ _ _ _ _ q => q.elim⟩
theorem pe_any {e : Expr} : PE X e (fun _ _ _ => False) := ⟨fun _ _ _ _ _ _ q => q.elim⟩
theorem pt_any {e : Expr} : PT X e (fun _ _ _ => False) := ⟨fun _ _ _ _ _ _ q => q.elim⟩
/-- the one way or the other -/
theorem pi_or {tg it : Expr} {w1 w2 : TI} (a : PI X tg it w1) (b : PI X tg it w2) : PI X tg it (fun σ H R => w1 σ H R ∨ w2 σ H R) :=
  ⟨fun pins s σ H R I h => h.elim (fun q => a.run pins s σ H R I q) (fun q => b.run pins s σ H R I q)⟩
theorem pe_or2 {e : Expr} {t1 t2 : TE} (a : PE X e t1) (b : PE X e t2) : PE X e (fun σ H Q => t1 σ H Q ∨ t2 σ H Q) :=
  ⟨fun pins s σ H Q I h => h.elim (fun q => a.run pins s σ H Q I q) (fun q => b.run pins s σ H Q I q)⟩
end
section
variable {X : Cx}
theorem pe_gI {x : Str} {n : Int} {pos : Pos} (hg : Gl X x) (h : ∃ t, X.mg x = some (.int n t)) (hd : (x == ("__debug__" : Str)) = false := by decide) : PE X (.Name x pos) (tC (.int n)) := by
  obtain ⟨t, e⟩ := h
  exact pe_glob hg e ⟨t, rfl⟩ hd
theorem pe_gS {x : Str} {z : Str} {pos : Pos} (hg : Gl X x) (h : ∃ t, X.mg x = some (.str z t)) (hd : (x == ("__debug__" : Str)) = false := by decide) : PE X (.Name x pos) (tC (.str z)) := by
  obtain ⟨t, e⟩ := h
  exact pe_glob hg e ⟨t, rfl⟩ hd
end
/-- a op b op c op d, as a test -/
def tChain3 (r1 r2 r3 : R2) (ta tb tc td : TE) : TE := fun σ H Q => ta σ H fun x H1 => tb σ H1 fun y H2 => r1 x y H2 fun z H3 => ∃ k, z = .bl k ∧ (if k = true then tc σ H3 fun u H4 => r2 y u H4 fun z' H5 => ∃ k', z' = .bl k' ∧ (if k' = true then td σ H5 fun v H6 => r3 u v H6 Q else Q (.bl false) H5) else Q (.bl false) H3)
theorem pt_chain3 {X : Cx} {a b c d : Expr} {ta tb tc td : TE} {pos : Pos} {o1 o2 o3 : CmpOp} {r1 r2 r3 : R2} (h1 : OpR X (compareOp o1) r1) (h2 : OpR X (compareOp o2) r2) (h3 : OpR X (compareOp o3) r3) (ha : PE X a ta) (hb : PE X b tb) (hc : PE X c tc) (hd : PE X d td)
    (hm : lastMarks [o1, o2, o3] [b, c, d] = false := by with_unfolding_all rfl) : PT X (.Compare a [o1, o2, o3] [b, c, d] pos) (tTest (tChain3 r1 r2 r3 ta tb tc td)) := by
  refine ⟨fun pins s σ H Q I h => ?_⟩
  refine isTrue_chain (thn (ha.run pins s σ H _ I h) fun v1 s1 ⟨x, H1, I1, y1, q1⟩ => test_link (thn (hb.run pins s1 σ H1 _ I1 q1) fun v2 s2 ⟨y, H2, I2, y2, q2⟩ => thn (h1 pins s2 σ H2 x y v1 v2 _ I2 y1 y2 q2) fun v3 s3 ⟨z, H3, I3, y3, k, e, q3⟩ => ?_)) hm
  subst e
  cases y3
  refine wpAny_truthy_bool ?_
  cases k with
  | false =>
    obtain ⟨k', e', q'⟩ := q3
    cases e'
    exact ite_ff ⟨H3, I3, q'⟩
  | true =>
    refine ite_tt (test_link (thn (hc.run pins s3 σ H3 _ I3 q3) fun v4 s4 ⟨u, H4, I4, y4, q4⟩ => thn (h2 pins s4 σ H4 y u v2 v4 _ I4 y2 y4 q4) fun v5 s5 ⟨z', H5, I5, y5, k', e', q5⟩ => ?_))
    subst e'
    cases y5
    refine wpAny_truthy_bool ?_
    cases k' with
    | false =>
      obtain ⟨k2, e2, q2'⟩ := q5
      cases e2
      exact ite_ff ⟨H5, I5, q2'⟩
    | true =>
      refine ite_tt (test_last (thn (hd.run pins s5 σ H5 _ I5 q5) fun v6 s6 ⟨v, H6, I6, y6, q6⟩ => thn (h3 pins s6 σ H6 u v v4 v6 _ I6 y4 y6 q6) fun v7 s7 ⟨z2, H7, I7, y7, k2, e2, q7⟩ => ?_))
      subst e2
      cases y7
      exact wpAny_truthy_bool ⟨H7, I7, q7⟩
theorem for_sign {x : Str} {g : TG} {tb : TS} {D : Ends} {σ : L2.St} {H : Hp} (Pv : Nat → L2.St → Hp → Prop) (h0 : Pv 0 σ H)
    (hs : ∀ i c σ H, x.cps[i]? = some c → Pv i σ H → g (.str ⟨#[c]⟩) σ H fun σ2 H2 => tb { D with nx := Pv (i + 1), ct := Pv (i + 1), bk := D.nx } σ2 H2) (hd : ∀ σ H, Pv x.cps.size σ H → D.nx σ H) :
    ∃ W : Nat → Nat → L2.St → Hp → Prop, (∃ m, W 0 m σ H) ∧ ∀ i m σ H, W i m σ H → ((Its x).stop i H ∧ D.nx σ H) ∨
      ((Its x).go i H ∧ ∃ N : L2.St → Hp → Prop, (∀ σ' H', N σ' H' → ∃ m', m' < m ∧ W (i + 1) m' σ' H') ∧ ∀ v H', (Its x).yld i H v H' → g v σ H' fun σ2 H2 => tb { D with nx := N, ct := N, bk := D.nx } σ2 H2) := by
  refine ⟨fun i m σ H => m = x.cps.size - i ∧ i ≤ x.cps.size ∧ Pv i σ H, ⟨x.cps.size, rfl, Nat.zero_le _, h0⟩, ?_⟩
  rintro i m σ H ⟨rfl, hi, p⟩
  by_cases lt : i < x.cps.size
  · refine .inr ⟨lt, Pv (i + 1), fun σ' H' p' => ⟨x.cps.size - (i + 1), by omega, rfl, lt, p'⟩, fun v H' y => ?_⟩
    obtain ⟨rfl, c, hc, rfl⟩ := y
    exact hs i c σ _ hc p
  · obtain rfl : i = x.cps.size := by omega
    exact .inl ⟨Nat.le_refl _, hd σ H p⟩
theorem lc_sign {x : Str} {g : TG} {tt : TT} {te : TE} {vs : List Nat} {σ : L2.St} {H1 : Hp} {D : Addr} {Qd : Hp → Prop} (Pv : Nat → Hp → Prop) (h0 : Pv 0 (upd H1 D (.lst [])))
    (hs : ∀ i c H, x.cps[i]? = some c → Pv i H → g (.str ⟨#[c]⟩) (wipe σ vs) H fun σ2 H2 => wipe σ2 vs = wipe σ vs ∧ tt σ2 H2 fun b H3 =>
      if b = true then te σ2 H3 fun y H4 => ∃ acc, H4 D = some (.lst acc) ∧ acc.length < sizeLine ∧ Pv (i + 1) (upd H4 D (.lst (acc ++ [y]))) else Pv (i + 1) H3) (hd : ∀ H, Pv x.cps.size H → Qd H) :
    ∃ W : Nat → Nat → Hp → Prop, (∃ m, W 0 m (upd H1 D (.lst []))) ∧ ∀ i m H, W i m H → ((Its x).stop i H ∧ Qd H) ∨
      ((Its x).go i H ∧ ∃ Nx : Hp → Prop, (∀ H', Nx H' → ∃ m', m' < m ∧ W (i + 1) m' H') ∧ ∀ v H', (Its x).yld i H v H' → g v (wipe σ vs) H' fun σ2 H2 => wipe σ2 vs = wipe σ vs ∧ tt σ2 H2 fun b H3 =>
        if b = true then te σ2 H3 fun y H4 => ∃ acc, H4 D = some (.lst acc) ∧ acc.length < sizeLine ∧ Nx (upd H4 D (.lst (acc ++ [y]))) else Nx H3) := by
  refine ⟨fun i m H => m = x.cps.size - i ∧ i ≤ x.cps.size ∧ Pv i H, ⟨x.cps.size, rfl, Nat.zero_le _, h0⟩, ?_⟩
  rintro i m H ⟨rfl, hi, p⟩
  by_cases lt : i < x.cps.size
  · refine .inr ⟨lt, Pv (i + 1), fun H' p' => ⟨x.cps.size - (i + 1), by omega, rfl, lt, p'⟩, fun v H' y => ?_⟩
    obtain ⟨rfl, c, hc, rfl⟩ := y
    exact hs i c _ hc p
  · obtain rfl : i = x.cps.size := by omega
    exact .inl ⟨Nat.le_refl _, hd H p⟩
/-- the same of a comprehension without a test -/
theorem lcY_sign {x : Str} {g : TG} {te : TE} {vs : List Nat} {σ : L2.St} {H1 : Hp} {D : Addr} {Qd : Hp → Prop} (Pv : Nat → Hp → Prop) (h0 : Pv 0 (upd H1 D (.lst [])))
    (hs : ∀ i c H, x.cps[i]? = some c → Pv i H → g (.str ⟨#[c]⟩) (wipe σ vs) H fun σ2 H2 => wipe σ2 vs = wipe σ vs ∧ te σ2 H2 fun y H4 => ∃ acc, H4 D = some (.lst acc) ∧ acc.length < sizeLine ∧ Pv (i + 1) (upd H4 D (.lst (acc ++ [y])))) (hd : ∀ H, Pv x.cps.size H → Qd H) :
    ∃ W : Nat → Nat → Hp → Prop, (∃ m, W 0 m (upd H1 D (.lst []))) ∧ ∀ i m H, W i m H → ((Its x).stop i H ∧ Qd H) ∨
      ((Its x).go i H ∧ ∃ Nx : Hp → Prop, (∀ H', Nx H' → ∃ m', m' < m ∧ W (i + 1) m' H') ∧ ∀ v H', (Its x).yld i H v H' → g v (wipe σ vs) H' fun σ2 H2 => wipe σ2 vs = wipe σ vs ∧ tYes σ2 H2 fun b H3 =>
        if b = true then te σ2 H3 fun y H4 => ∃ acc, H4 D = some (.lst acc) ∧ acc.length < sizeLine ∧ Nx (upd H4 D (.lst (acc ++ [y]))) else Nx H3) :=
  lc_sign Pv h0 (fun i c H hc p => hs i c H hc p) hd
theorem lcY_list {K : PySem.W.Frag} {a : Addr} {xs : List V} {g : TG} {te : TE} {vs : List Nat} {σ : L2.St} {H1 : Hp} {D : Addr} {Qd : Hp → Prop} (Pv : Nat → Hp → Prop) (h0 : Pv 0 (upd H1 D (.lst []))) (hl : ∀ i H, i ≤ xs.length → Pv i H → SqL K H a xs)
    (hs : ∀ i x H, xs[i]? = some x → Pv i H → g x (wipe σ vs) H fun σ2 H2 => wipe σ2 vs = wipe σ vs ∧ te σ2 H2 fun y H4 => ∃ acc, H4 D = some (.lst acc) ∧ acc.length < sizeLine ∧ Pv (i + 1) (upd H4 D (.lst (acc ++ [y])))) (hd : ∀ H, Pv xs.length H → Qd H) :
    ∃ W : Nat → Nat → Hp → Prop, (∃ m, W 0 m (upd H1 D (.lst []))) ∧ ∀ i m H, W i m H → ((Itl K a).stop i H ∧ Qd H) ∨
      ((Itl K a).go i H ∧ ∃ Nx : Hp → Prop, (∀ H', Nx H' → ∃ m', m' < m ∧ W (i + 1) m' H') ∧ ∀ x H', (Itl K a).yld i H x H' → g x (wipe σ vs) H' fun σ2 H2 => wipe σ2 vs = wipe σ vs ∧ tYes σ2 H2 fun b H3 =>
        if b = true then te σ2 H3 fun y H4 => ∃ acc, H4 D = some (.lst acc) ∧ acc.length < sizeLine ∧ Nx (upd H4 D (.lst (acc ++ [y]))) else Nx H3) :=
  lc_list Pv h0 hl (fun i c H hc p => hs i c H hc p) hd
theorem lcY_tup {K : PySem.W.Frag} {a : Addr} {xs : List V} {g : TG} {te : TE} {vs : List Nat} {σ : L2.St} {H1 : Hp} {D : Addr} {Qd : Hp → Prop} (Pv : Nat → Hp → Prop) (h0 : Pv 0 (upd H1 D (.lst []))) (hl : ∀ i H, i ≤ xs.length → Pv i H → SqT K H a xs)
    (hs : ∀ i x H, xs[i]? = some x → Pv i H → g x (wipe σ vs) H fun σ2 H2 => wipe σ2 vs = wipe σ vs ∧ te σ2 H2 fun y H4 => ∃ acc, H4 D = some (.lst acc) ∧ acc.length < sizeLine ∧ Pv (i + 1) (upd H4 D (.lst (acc ++ [y])))) (hd : ∀ H, Pv xs.length H → Qd H) :
    ∃ W : Nat → Nat → Hp → Prop, (∃ m, W 0 m (upd H1 D (.lst []))) ∧ ∀ i m H, W i m H → ((Itt K a).stop i H ∧ Qd H) ∨
      ((Itt K a).go i H ∧ ∃ Nx : Hp → Prop, (∀ H', Nx H' → ∃ m', m' < m ∧ W (i + 1) m' H') ∧ ∀ x H', (Itt K a).yld i H x H' → g x (wipe σ vs) H' fun σ2 H2 => wipe σ2 vs = wipe σ vs ∧ tYes σ2 H2 fun b H3 =>
        if b = true then te σ2 H3 fun y H4 => ∃ acc, H4 D = some (.lst acc) ∧ acc.length < sizeLine ∧ Nx (upd H4 D (.lst (acc ++ [y]))) else Nx H3) :=
  lc_tup Pv h0 hl (fun i c H hc p => hs i c H hc p) hd
theorem exc_self {K : PySem.W.Frag} {S : Addr} (h1 : PySem.W.subIn K (.ref S) (.type "BaseException") = some true) (h2 : PySem.W.isClsIn K S = true) (h3 : PySem.W.typeIn K (.ref S) = some (.type "type")) (h4 : PySem.W.subIn K (.ref S) (.ref S) = some true) :
    PySem.W.exmOne K (.ref S) (.ref S) = some true := by
  have e1 : (PySem.W.subIn K (.ref S) (.type "BaseException") == some true) = true := by rw [h1] <;> rfl
  have e2 : ((PySem.W.clsIn K S).isSome && PySem.W.typeIn K (.ref S) == some (.type "type")) = true := by
    have h2' : (PySem.W.clsIn K S).isSome = true := h2
    rw [h2', h3] <;> rfl
  show (if (PySem.W.subIn K (.ref S) (.type "BaseException") == some true) = true then (if ((PySem.W.clsIn K S).isSome && PySem.W.typeIn K (.ref S) == some (.type "type")) = true then PySem.W.subIn K (.ref S) (.ref S) else none) else none) = some true
  rw [if_pos e1, if_pos e2]
  exact h4
end EvS
namespace EvS
open PySem PySem.Spec PyProof.Rows L2
theorem r65 {k : Nat} {A : Around} (r : Room k A) : A.units + 65 < cLine := by have := r.un; omega
theorem blkOk_nest {X : Cx} {s : Shared} {H : Hp} {scope inner : Scope} {C : Addr} {cl : List (Str × Addr)} {fp : List Addr} {own : List (Str × Nat)} {N : List Str} {sc : Scope} (hN : X.N = N) (hs : X.env.scope = sc) (h : blkC N (relS scope sc) inner own = true) :
    BlkOk (X.blk s H scope (compEnvC scope cl C X.env) fp).N (X.blk s H scope (compEnvC scope cl C X.env) fp).env.scope inner own := by
  subst hN hs
  exact blkOk_by h
end EvS

set_option Elab.async false
set_option linter.all false
set_option maxRecDepth 100000
set_option maxHeartbeats 4000000
/-! len(set(xs)), xs a list of different tuples of texts (fewer than 64) -/
namespace TxSet
open PySem PySem.Spec PyProof.Rows L2
section
variable {P : Program} {w : World} {A : Around} {E : Value → Shared → Prop} {s : Shared}
abbrev TwAt (P : Program) (w : World) (h : Heap) (k : List Str) (b : Addr) : Prop := IsTupleKey (PySem.strKind P w) h k b
abbrev hs (P : Program) (w : World) (k : List Str) : Int := tupleKeyHash (PySem.strKind P w) k
abbrev go0 (t : SetTable) (h : Int) : SetTable.Probe := runAt t.mask (SetTable.bits h % (t.mask + 1)) (SetTable.bits h)
theorem words_of {k : List Str} {vs : List Value} (h : ItemsAre (PySem.strKind P w) k vs) : ∀ v ∈ vs, ∃ z t, v = Value.str z t := by
  induction h with
  | nil => exact fun v hv => by cases hv
  | @cons k0 u ks us h1 _ ih =>
    intro v hv
    cases hv with
    | head =>
      obtain ⟨t, e⟩ := Value.isStrOf_shape h1
      exact ⟨k0, t, e⟩
    | tail _ q => exact ih v q
theorem noClass (n : Nat) (z : Str) (t : Tok) : ofAClassStatement n (.str z t) = pure false := by cases n <;> rfl
theorem byVal (n : Nat) (z : Str) (t : Tok) : hashByValue n (.str z t) = pure false := by cases n <;> rfl
theorem noClassT {k : List Str} {b : Addr} {Q : Bool → Shared → Prop} (hk : TwAt P w s.heap k b) (q : Q false s) : wpAny (model P w) A (ofAClassStatement 8 (.ref b)) Q E s := by
  have ty := hk.typeIs
  obtain ⟨o, its, n, ho, _, hd, hi⟩ := hk
  have all := words_of hi
  unfold ofAClassStatement
  refine wpAny_bind (wpAny_typeOf ty ?_)
  dsimp only
  simp only [show (("tuple" : String) == "tuple") = true by decide, if_true, Bool.not_true, Bool.false_eq_true, if_false]
  try refine wpAny_bind (wpAny_pure ?_)
  try simp only [Bool.not_true, Bool.false_eq_true, if_false]
  refine wpAny_bind (m := seqItems? (.ref b)) (wpAny_seqItems ho hd ?_)
  dsimp only
  refine wpAny_bind (m := forIn its _ _) ?_
  rw [← Array.forIn_toList]
  refine wpAny_forIn_list _ (fun l r s' => (∀ v ∈ l, ∃ z t, v = Value.str z t) ∧ r.1 = none ∧ s' = s) _ ?_ ?_ _ _ ⟨all, rfl, rfl⟩
  · rintro v l r s' ⟨hl, hr, rfl⟩
    obtain ⟨z, t, rfl⟩ := hl v List.mem_cons_self
    rw [noClass]
    refine wpAny_bind (wpAny_pure ?_)
    simp only [Bool.false_eq_true, if_false]
    exact wpAny_pure ⟨fun u hu => hl u (List.mem_cons_of_mem _ hu), rfl, rfl⟩
  · rintro ⟨r1, r2⟩ s' ⟨_, hr, rfl⟩
    simp only at hr
    subst hr
    exact wpAny_pure q
theorem byValT {k : List Str} {b : Addr} {Q : Bool → Shared → Prop} (hk : TwAt P w s.heap k b) (q : ∀ v, Q v s) : wpAny (model P w) A (hashByValue 8 (.ref b)) Q E s := by
  have ty := hk.typeIs
  obtain ⟨o, its, n, ho, _, hd, hi⟩ := hk
  have all := words_of hi
  unfold hashByValue
  refine wpAny_bind (wpAny_specialOf ty F.slot_tuple_hash.lookup ?_)
  refine wpAny_bind (m := seqItems? (.ref b)) (wpAny_seqItems ho hd ?_)
  refine wpAny_bind (m := forIn its _ _) ?_
  rw [← Array.forIn_toList]
  refine wpAny_forIn_list _ (fun l r s' => (∀ v ∈ l, ∃ z t, v = Value.str z t) ∧ r.1 = none ∧ s' = s) _ ?_ ?_ _ _ ⟨all, rfl, rfl⟩
  · rintro v l r s' ⟨hl, hr, rfl⟩
    obtain ⟨z, t, rfl⟩ := hl v List.mem_cons_self
    rw [byVal]
    refine wpAny_bind (wpAny_pure ?_)
    simp only [Bool.not_false, if_true]
    exact wpAny_pure (wpAny_pure (q false))
  · rintro ⟨r1, r2⟩ s' ⟨_, hr, rfl⟩
    simp only at hr
    subst hr
    exact wpAny_pure (q true)
/-- nothing of the table is shown -/
theorem hidden {k : List Str} {b : Addr} {Q : Bool → Shared → Prop} (hk : TwAt P w s.heap k b) {ys : List Value} (hy : ∀ y ∈ ys, ∃ c k2, y = Value.ref c ∧ TwAt P w s.heap k2 c) (q : Q false s) :
    wpAny (model P w) A (searchCouldBeSeen (.ref b) ys) Q E s := by
  unfold searchCouldBeSeen
  refine wpAny_bind (wpAny_forIn_list _ (fun l r s' => (∀ y ∈ l, ∃ c k2, y = Value.ref c ∧ TwAt P w s.heap k2 c) ∧ r.1 = none ∧ s' = s) _ ?_ ?_ _ _ ⟨hy, rfl, rfl⟩)
  · rintro v l r s' ⟨hl, hr, rfl⟩
    obtain ⟨c, k2, rfl, hc⟩ := hl v List.mem_cons_self
    have more := fun u hu => hl u (List.mem_cons_of_mem _ hu)
    dsimp only
    by_cases e : (b == c || (carriedByValue (.ref b) && carriedByValue (.ref c))) = true
    · exact wp_if_pos e (wpAny_pure ⟨more, rfl, rfl⟩)
    · refine wp_if_neg e (wpAny_bind (wpAny_eqIsQuiet_tuple hk ?_))
      simp only [Bool.not_true, Bool.false_eq_true, if_false]
      refine wpAny_bind (wpAny_eqIsQuiet_tuple hc ?_)
      simp only [Bool.not_true, Bool.false_eq_true, if_false]
      refine wpAny_bind (noClassT hk ?_)
      simp only [Bool.false_eq_true, if_false]
      refine wpAny_bind (noClassT hc ?_)
      simp only [Bool.false_eq_true, if_false]
      exact wpAny_pure ⟨more, rfl, rfl⟩
  · rintro ⟨r1, r2⟩ s' ⟨_, hr, rfl⟩
    simp only at hr
    subst hr
    exact wpAny_pure q
/-! ### the set as it grows -/
def cells (P : Program) (w : World) (L : List (Addr × List Str)) : List (Int × Value) := L.map fun p => (hs P w p.2, Value.ref p.1)
theorem cells_len (L : List (Addr × List Str)) : (cells P w L).length = L.length := List.length_map ..
structure Bag (P : Program) (w : World) (h : Heap) (a : Addr) (L : List (Addr × List Str)) (es : Array (Int × Value)) (ep : Nat) (t : SetTable) : Prop where
  obj : ∃ o, h.get? a = some o ∧ o.ExactSet ∧ o.data = .set es ep t
  cel : es.toList = cells P w L
  tab : TabOk t (L.map fun p => hs P w p.2)
  key : ∀ p ∈ L, TwAt P w h p.2 p.1
  lrn : w.params.followText "set-order" = true ∨ t.led = true
  rom : L.length * 5 < t.mask * 3
  sml : L.length < 64
variable {a : Addr} {L : List (Addr × List Str)} {es : Array (Int × Value)} {ep : Nat} {t : SetTable}
theorem Bag.size (B : Bag P w s.heap a L es ep t) : es.size = L.length := by
  rw [← Array.length_toList, B.cel, cells_len]
theorem Bag.places (B : Bag P w s.heap a L es ep t) : t.place.toList.length = L.length := by
  rw [Array.length_toList, B.tab.sz, List.length_map]
theorem Bag.fit (B : Bag P w s.heap a L es ep t) : t.fits es.size = true := by
  have q1 := B.places
  have q2 := B.size
  have q3 := B.rom
  rw [Array.length_toList] at q1
  unfold SetTable.fits SetTable.fill
  rw [B.tab.dm, Bool.and_eq_true, beq_iff_eq, decide_eq_true_eq]
  constructor
  · omega
  · show t.place.size + 0 ≤ t.mask
    omega
theorem Bag.cell (B : Bag P w s.heap a L es ep t) {i : Nat} {p : Addr × List Str} (h : L[i]? = some p) : es[i]? = some (hs P w p.2, Value.ref p.1) := by
  rw [← Array.getElem?_toList, B.cel]
  unfold cells
  rw [List.getElem?_map, h]
  rfl
theorem nth_plain (m : Nat) : ∀ (n : Nat) (p : SetTable.Probe), p.dummy = none → (nth m p n).dummy = none
  | 0, _, h => h
  | n + 1, p, h => by
    refine nth_plain m n (adv m p) ?_
    unfold adv
    split <;> exact h
/-- the search for what isn't there ends at the first empty slot of its way -/
theorem seek (B : Bag P w s.heap a L es ep t) {x : Addr} {k : List Str} (hx : TwAt P w s.heap k x) (hu : A.units < cLine) (away : ∀ p ∈ L, p.2 ≠ k) {K : Nat} (hK : K < 10 * SetTable.turns t.mask)
    (hfree : way t.mask (hs P w k) K ∉ t.place.toList) (hbusy : ∀ c, c < K → way t.mask (hs P w k) c ∈ t.place.toList) {Q : SetFound → Shared → Prop} (q : Q (.free (way t.mask (hs P w k) K) false) s) :
    ∀ (f c : Nat) (st : Option SetTable.Probe), st.getD (t.probeStart (hs P w k)) = nth t.mask (go0 t (hs P w k)) c → c ≤ K → K - c < f → wpAny (model P w) A (setSearchFrom a (.ref x) (hs P w k) true f st) Q E s := by
  intro f
  induction f with
  | zero => intro c st _ _ h; exact absurd h (Nat.not_lt_zero _)
  | succ f ih =>
    intro c st hst hc hf
    obtain ⟨o, ho, hex, hd⟩ := B.obj
    rw [setSearchFrom_succ]
    refine wpAny_bind (wpAny_setState_of ho hd B.fit ?_)
    dsimp only
    refine wp_if_neg (by unfold SetTable.gaveWay; rw [mask_odd B.tab.mok]; decide) ?_
    try refine wpAny_bind (wpAny_pure ?_)
    have shift : ∀ n, nth t.mask (nth t.mask (go0 t (hs P w k)) c) n = nth t.mask (go0 t (hs P w k)) (c + n) := fun n => (nth_add t.mask c _ n).symm
    have at_ : ∀ n, (nth t.mask (nth t.mask (go0 t (hs P w k)) c) n).j = way t.mask (hs P w k) (c + n) := fun n => congrArg SetTable.Probe.j (shift n)
    have back : c + (K - c) = K := by omega
    rcases go_spec t B.tab.ris B.tab.dm (fun i => (es[i]?.map (·.1)).getD 0) (hs P w k) (10 * SetTable.turns t.mask) (K - c) _ (nth_plain t.mask c _ rfl) (by omega) (fun n hn => by rw [at_]; exact hbusy _ (by omega)) (by rw [at_, back]; exact hfree) with ⟨n, i, hn, hi, _, _, e⟩ | ⟨_, e⟩
    · have e' : t.probe (fun i => (es[i]?.map (·.1)).getD 0) (hs P w k) (st.getD (t.probeStart (hs P w k))) = some (.candidate (way t.mask (hs P w k) (c + n)) i (nth t.mask (go0 t (hs P w k)) (c + (n + 1)))) := by
        rw [hst, ← at_, ← shift]
        exact e
      rw [e']
      dsimp only
      rw [at_] at hi
      have il : i < L.length := by
        rw [← B.places]
        exact (List.getElem?_eq_some_iff.mp hi).1
      obtain ⟨p, hp⟩ : ∃ p, L[i]? = some p := ⟨_, List.getElem?_eq_getElem il⟩
      have pin := List.mem_of_getElem? hp
      have other := away p pin
      have go : wpAny (model P w) A (searchRest a (.ref x) (hs P w k) true f es t (way t.mask (hs P w k) (c + n)) i (nth t.mask (go0 t (hs P w k)) (c + (n + 1)))) Q E s := by
        unfold searchRest
        rw [B.cell hp]
        dsimp only
        refine wpAny_bind (wpAny_holding (wpAny_eqBool_tuple hu (B.key p pin) hx ?_))
        refine wpAny_bind (wpAny_setState_of ho hd B.fit ?_)
        dsimp only
        refine wp_if_neg (by simp [other]) ?_
        try refine wpAny_bind (wpAny_pure ?_)
        rw [sameMem]
        dsimp only
        simp only [if_true, slot_live B.tab.ris hi, B.cell hp]
        refine wpAny_bind (wpAny_isSame_ref_self (wpAny_bind (wpAny_pure ?_)))
        simp only [if_true]
        refine wp_if_neg (by simp [other]) ?_
        exact ih (c + (n + 1)) _ rfl (by omega) (by omega)
      by_cases hl : t.led = true
      · refine wp_if_neg (by simp [hl]) ?_
        try refine wpAny_bind (wpAny_pure ?_)
        exact go
      · refine wp_if_pos (by simp [hl]) (wpAny_bind (hidden hx (fun y hy => ?_) ?_))
        · obtain ⟨d, hd1, hd2⟩ := List.mem_map.mp hy
          have m1 : d ∈ es.toList := by
            have : d ∈ es ∧ d.1 = hs P w k := by simpa using hd1
            simpa using this.1
          rw [B.cel] at m1
          obtain ⟨p2, m2, e2⟩ := List.mem_map.mp m1
          exact ⟨p2.1, p2.2, by rw [← hd2, ← e2], B.key p2 m2⟩
        · refine wp_if_neg (by decide) ?_
          try refine wpAny_bind (wpAny_pure ?_)
          exact go
    · have e' : t.probe (fun i => (es[i]?.map (·.1)).getD 0) (hs P w k) (st.getD (t.probeStart (hs P w k))) = some (.empty (way t.mask (hs P w k) K) none) := by
        have z := at_ (K - c)
        rw [back] at z
        rw [hst, ← z]
        exact e
      rw [e']
      dsimp only
      exact wpAny_pure q
/-! ### the set grows by one -/
theorem still {h h' : Heap} {k : List Str} {c : Addr} {o : Obj} (hk : TwAt P w h k c) (ho : h.get? a = some o) (hd : o.data = .set es ep t) (sb : Heap.SameBut a h h') : TwAt P w h' k c := by
  obtain ⟨u, its, n, hu, hc, hi, hw⟩ := hk
  refine ⟨u, its, n, ?_, hc, hi, hw⟩
  rw [sb.2 c fun z => ?_]
  · exact hu
  · rw [z, ho] at hu
    rw [← Option.some.inj hu, hd] at hi
    cases hi
theorem range_get {α : Type} (L : List α) : ∀ n, n ≤ L.length → (List.range n).filterMap (fun i => L[i]?) = L.take n
  | 0, _ => rfl
  | n + 1, h => by
    have lt : n < L.length := h
    rw [List.range_succ, List.filterMap_append, range_get L n (Nat.le_of_lt lt), List.take_add_one, List.getElem?_eq_getElem lt]
    simp [List.getElem?_eq_getElem lt]
theorem chosen (hc : es.toList = cells P w L) : ∀ l : List Nat, (∀ i ∈ l, i < L.length) → l.filterMap (fun i => es[i]?) = cells P w (l.filterMap fun i => L[i]?) ∧ (l.filterMap fun i => L[i]?).map (fun p => hs P w p.2) = l.map fun i => (es.map (·.1)).getD i 0
  | [], _ => ⟨rfl, rfl⟩
  | i :: l, h => by
    obtain ⟨e1, e2⟩ := chosen hc l fun j hj => h j (List.mem_cons_of_mem _ hj)
    have il := h i List.mem_cons_self
    have gL : L[i]? = some L[i] := List.getElem?_eq_getElem il
    have gE : es[i]? = some (hs P w (L[i]).2, Value.ref (L[i]).1) := by
      rw [← Array.getElem?_toList, hc]
      unfold cells
      rw [List.getElem?_map, gL]
      rfl
    have gD : (es.map (·.1)).getD i 0 = hs P w (L[i]).2 := by
      have z : (es.map (·.1))[i]? = some (hs P w (L[i]).2) := by
        rw [Array.getElem?_map, gE]
        rfl
      rw [Array.getD_eq_getD_getElem?, z]
      rfl
    rw [List.filterMap_cons_some gE, List.filterMap_cons_some gL, e1, List.map_cons, List.map_cons, e2, gD]
    exact ⟨rfl, rfl⟩
/-- the table is laid anew, larger -/
theorem relaid_new {o : Obj} (ho : s.heap.get? a = some o) (hex : o.ExactSet) (hd : o.data = .set es ep t) (hc : es.toList = cells P w L) (hp : t.place.size = es.size) (hdm : t.dummies = #[]) (hfl : es.size ≤ t.mask)
    (key : ∀ p ∈ L, TwAt P w s.heap p.2 p.1) (ld : w.params.followText "set-order" = true ∨ t.led = true) (few : L.length < 64) {wanted M : Nat} (hw : SetTable.sizeAbove wanted - 1 = M) (hM : MaskOk M) (hw2 : SetTable.sizeAbove wanted ≤ 128)
    (hn : L.length * 5 < M * 3) {Q : Unit → Shared → Prop} (q : ∀ h' L' es' ep' t', Heap.SameBut a s.heap h' → Bag P w h' a L' es' ep' t' → L'.Perm L → Q () { s with heap := h' }) : wpAny (model P w) A (setRelay a wanted) Q E s := by
  have hl : es.size = L.length := by rw [← Array.length_toList, hc, cells_len]
  have hfit : t.fits es.size = true := by
    unfold SetTable.fits SetTable.fill
    rw [hdm, Bool.and_eq_true, beq_iff_eq, decide_eq_true_eq]
    exact ⟨hp, by show t.place.size + 0 ≤ t.mask; omega⟩
  have hsz : (es.map (·.1)).size = L.length := by rw [Array.size_map, hl]
  obtain ⟨t', ord, e, pm, T, em, el, _, _⟩ := relaid_ok t (hs := es.map (·.1)) (wanted := wanted) hw hM (by rw [hsz]; omega)
  rw [hsz] at pm
  obtain ⟨c1, c2⟩ := chosen (P := P) (w := w) (L := L) hc ord.toList fun i hi => List.mem_range.mp (pm.mem_iff.mp hi)
  have pL : (ord.toList.filterMap fun i => L[i]?).Perm L := by
    have z := pm.filterMap fun i => L[i]?
    rw [range_get L L.length (Nat.le_refl _), List.take_length] at z
    exact z
  generalize ord.toList.filterMap (fun i => L[i]?) = L2 at c1 c2 pL
  rw [← c2] at T
  have cl : (ord.filterMap (es[·]?)).toList = cells P w L2 := by first | (rw [Array.toList_filterMap]; exact c1) | simpa using c1
  have sz2 : (ord.filterMap (es[·]?)).size = es.size := by rw [← Array.length_toList, cl, cells_len, pL.length_eq, hl]
  rw [setRelay_eq]
  refine wpAny_bind (wpAny_setState_of ho hd hfit ?_)
  dsimp only
  refine wp_if_neg (by rw [sizeLine_eq]; omega) ?_
  try refine wpAny_bind (wpAny_pure ?_)
  rw [e]
  dsimp only
  refine wpAny_bind ?_
  refine wp_if_neg (by rw [sz2]; simp) ?_
  try refine wpAny_bind (wpAny_pure ?_)
  refine wpAny_pure ?_
  dsimp only
  refine wpAny_storeSet_of ho hd ?_ (by rw [sz2, hl, sizeLine_eq]; omega)
  have sb : Heap.SameBut a s.heap (s.heap.update a (Obj.putSet (ord.filterMap (es[·]?)) t')) := Heap.SameBut.update ..
  refine q _ L2 (ord.filterMap (es[·]?)) (ep + 1) t' sb ⟨⟨_, store_at ho hd, ⟨hex.1, hex.2.1, hex.2.2⟩, rfl⟩, cl, T, fun p hp => still (key p (pL.mem_iff.mp hp)) ho hd sb, by rw [el]; exact ld, by rw [pL.length_eq, em]; exact hn, by rw [pL.length_eq]; exact few⟩ pL
theorem add_new (B : Bag P w s.heap a L es ep t) {x : Addr} {k : List Str} (hx : TwAt P w s.heap k x) (hu : A.units < cLine) (away : ∀ p ∈ L, p.2 ≠ k) (few : L.length + 1 < 64) {Q : Bool → Shared → Prop}
    (q : ∀ h' L' es' ep' t', Heap.SameBut a s.heap h' → Bag P w h' a L' es' ep' t' → L'.Perm ((x, k) :: L) → Q true { s with heap := h' }) : wpAny (model P w) A (setAddHashed a (.ref x) (hs P w k)) Q E s := by
  obtain ⟨o, ho, hex, hd⟩ := B.obj
  have hl := B.size
  have rom := B.rom
  have lenT : (L.map fun p => hs P w p.2).length = L.length := List.length_map ..
  obtain ⟨K, hK, hfree, hbusy⟩ := B.tab.first (by rw [lenT]; omega) (hs P w k)
  have big : K < 100000 := by
    have z : 10 * SetTable.turns t.mask ≤ 1420 := by
      unfold SetTable.turns
      rcases B.tab.mok with e | e | e <;> omega
    omega
  unfold setAddHashed
  refine wpAny_holding ?_
  rw [show (100000 : Nat) = 99999 + 1 from rfl, setAddHashedIn_succ]
  refine wpAny_bind (wpAny_setState_of ho hd B.fit ?_)
  dsimp only
  refine wp_if_neg (by simp [byScan, Value.scannable]) ?_
  try refine wpAny_bind (wpAny_pure ?_)
  refine wpAny_bind (m := setSearch a (.ref x) (hs P w k) true) ?_
  unfold setSearch
  refine seek B hx hu away hK hfree hbusy ?_ 100000 0 none rfl (Nat.zero_le _) (by omega)
  dsimp only
  refine wpAny_bind (wpAny_setState_of ho hd B.fit ?_)
  dsimp only
  obtain ⟨g1, g2, g3, g4, g5, _, _, _, g9⟩ := B.tab.put hfree hbusy
  generalize hpt : t.put (way t.mask (hs P w k) K) = pt at g1 g3 g4 g5 g9 ⊢
  obtain ⟨t1, p⟩ := pt
  dsimp only at g1 g3 g4 g5 g9 ⊢
  subst g1
  generalize SetTable.below t.place (way t.mask (hs P w k) K) = p at g2 g3 ⊢
  have pm : (L.take p ++ (x, k) :: L.drop p).Perm ((x, k) :: L) := put_perm L p (x, k)
  have cl : (SetTable.insertAt es p (hs P w k, Value.ref x)).toList = cells P w (L.take p ++ (x, k) :: L.drop p) := by
    rw [SetTable.toList_insertAt, B.cel]
    unfold cells
    rw [List.map_append, List.map_cons, List.map_take, List.map_drop]
  have ht : (L.take p ++ (x, k) :: L.drop p).map (fun p => hs P w p.2) = (L.map fun p => hs P w p.2).take p ++ hs P w k :: (L.map fun p => hs P w p.2).drop p := by
    rw [List.map_append, List.map_cons, List.map_take, List.map_drop]
  rw [← ht] at g3
  rw [lenT] at g9
  generalize L.take p ++ (x, k) :: L.drop p = L1 at pm cl g3
  have len1 : L1.length = L.length + 1 := pm.length_eq
  have sz1 : (SetTable.insertAt es p (hs P w k, Value.ref x)).size = L.length + 1 := by rw [← Array.length_toList, cl, cells_len, len1]
  generalize SetTable.insertAt es p (hs P w k, Value.ref x) = es1 at cl sz1 ⊢
  -- behind the question whether its hash goes by value
  have rest : ∀ t2 : SetTable, TabOk t2 (L1.map fun p => hs P w p.2) → t2.mask = t.mask → t2.led = t.led → t2.fill = L.length + 1 → wpAny (model P w) A (do
      storeSet a es1 t2
      if !false && t2.tooFull then setRelay a (SetTable.grown (es.size + 1))
      return true) Q E s := fun t2 T2 m2 l2 f2 => by
    refine wpAny_bind (wpAny_storeSet_of ho hd ?_ (by rw [sz1, sizeLine_eq]; omega))
    have sb : Heap.SameBut a s.heap (s.heap.update a (Obj.putSet es1 t2)) := Heap.SameBut.update ..
    have ho1 := store_at (es' := es1) (t' := t2) ho hd
    generalize s.heap.update a (Obj.putSet es1 t2) = h1 at sb ho1 ⊢
    have key1 : ∀ p ∈ L1, TwAt P w h1 p.2 p.1 := fun p hp => by
      rcases List.mem_cons.mp (pm.mem_iff.mp hp) with e | hp
      · rw [e]
        exact still hx ho hd sb
      · exact still (B.key p hp) ho hd sb
    have ld1 : w.params.followText "set-order" = true ∨ t2.led = true := by rw [l2]; exact B.lrn
    by_cases hf : t2.tooFull = true
    · have full : (L.length + 1) * 5 ≥ t2.mask * 3 := by
        have z := hf
        unfold SetTable.tooFull at z
        rw [decide_eq_true_eq, f2] at z
        exact z
      have places : t2.place.size = es1.size := by
        have z := T2.sz
        rw [List.length_map, len1] at z
        rw [z, sz1]
      have two : (t.mask = 7 ∧ L.length = 4) ∨ (t.mask = 31 ∧ L.length = 18) := by
        rw [m2] at full
        rcases B.tab.mok with e | e | e <;> rw [e] at full rom
        · exact .inl ⟨e, by omega⟩
        · exact .inr ⟨e, by omega⟩
        · omega
      have laid : ∀ M, SetTable.sizeAbove (SetTable.grown (es.size + 1)) - 1 = M → MaskOk M → SetTable.sizeAbove (SetTable.grown (es.size + 1)) ≤ 128 → (L.length + 1) * 5 < M * 3 →
          wpAny (model P w) A (setRelay a (SetTable.grown (es.size + 1))) (fun _ s' => wpAny (model P w) A (pure true) Q E s') E { s with heap := h1 } := fun M z1 z2 z3 z4 => by
        refine relaid_new (s := { s with heap := h1 }) ho1 ⟨hex.1, hex.2.1, hex.2.2⟩ rfl cl places T2.dm (by rw [sz1, m2]; rcases two with ⟨y1, y2⟩ | ⟨y1, y2⟩ <;> omega) key1 ld1 (by rw [len1]; exact few) z1 z2 z3 (by rw [len1]; exact z4) ?_
        exact fun h2 L2 es2 ep2 t3 sb2 B2 pm2 => wpAny_pure (q h2 L2 es2 ep2 t3 (sb.trans sb2) B2 (pm2.trans pm))
      have fin : wpAny (model P w) A (setRelay a (SetTable.grown (es.size + 1))) (fun _ s' => wpAny (model P w) A (pure true) Q E s') E { s with heap := h1 } := by
        rcases two with ⟨_, y⟩ | ⟨_, y⟩
        · exact laid 31 (by rw [hl, y, size_20]) (.inr (.inl rfl)) (by rw [hl, y, size_20]; decide) (by omega)
        · exact laid 127 (by rw [hl, y, size_76]) (.inr (.inr rfl)) (by rw [hl, y, size_76]; decide) (by omega)
      first
        | (refine wpAny_bind ?_; refine wp_if_pos (by simp [hf]) ?_; exact fin)
        | (refine wp_if_pos (by simp [hf]) ?_; refine wpAny_bind ?_; exact fin)
    · have done := q h1 L1 es1 (ep + 1) t2 sb ⟨⟨_, ho1, ⟨hex.1, hex.2.1, hex.2.2⟩, rfl⟩, cl, T2, key1, ld1, (by
          have z := hf
          unfold SetTable.tooFull at z
          rw [decide_eq_true_eq, f2] at z
          rw [len1]
          omega), by rw [len1]; exact few⟩ pm
      first
        | (refine wp_if_neg (by simp [hf]) ?_; exact wpAny_pure done)
        | (refine wpAny_bind ?_; refine wp_if_neg (by simp [hf]) ?_; refine wpAny_pure ?_; exact wpAny_pure done)
  have both : ∀ v : Bool, wpAny (model P w) A (do
      storeSet a es1 (if v then t1 else { t1 with plain := false })
      if !false && (if v then t1 else { t1 with plain := false }).tooFull then setRelay a (SetTable.grown (es.size + 1))
      return true) Q E s := fun v => by
    cases v with
    | true => exact rest t1 g3 g4 g5 g9
    | false => exact rest { t1 with plain := false } ⟨g3.ris, g3.dm, g3.sz, g3.mok, g3.bd, g3.reach⟩ g4 g5 g9
  by_cases hpl : t1.plain = true
  · first
      | (refine wpAny_bind ?_; refine wp_if_pos hpl ?_; exact byValT hx both)
      | exact wp_if_pos hpl (wpAny_bind (byValT hx both))
  · first
      | (refine wpAny_bind ?_; refine wp_if_neg hpl ?_; exact wpAny_pure (both true))
      | exact wp_if_neg hpl (wpAny_bind (wpAny_pure (both true)))
/-! ### set(xs) -/
def fresh0 (w : World) : Obj := { cls := .type "set", dict := none, data := .set #[] 0 (.fresh 0 0 (!w.params.followText "set-order")) }
theorem bag0 {h : Heap} (ho : h.get? a = some (fresh0 w)) : Bag P w h a [] #[] 0 (.fresh 0 0 (!w.params.followText "set-order")) where
  obj := ⟨_, ho, ⟨rfl, rfl, rfl⟩, rfl⟩
  cel := rfl
  tab := ⟨List.Pairwise.nil, rfl, rfl, .inl rfl, fun x hx => (by cases hx), fun i h j hi => (by simp at hi)⟩
  key := fun p hp => (by cases hp)
  lrn := by
    show _ ∨ (!w.params.followText "set-order") = true
    cases w.params.followText "set-order"
    · exact .inr rfl
    · exact .inl rfl
  rom := by
    show 0 * 5 < 7 * 3
    decide
  sml := by
    show 0 < 64
    decide
theorem there {h h' : Heap} {k : List Str} {c : Addr} (hk : TwAt P w h k c) (kp : ∀ b o, h.get? b = some o → h'.get? b = some o) : TwAt P w h' k c := by
  obtain ⟨u, its, n, hu, more⟩ := hk
  exact ⟨u, its, n, kp c u hu, more⟩
theorem grow {I : Addr} {fp wr : List Addr} {G : Array GenState → Array GenState → Prop} {n : Nat} {Pv : Nat → Value → Prop} {St : Nat → Shared → Prop} {R : Result → Shared → Prop}
    (W : WalksS P w A.in1 I fp wr G n Pv St) (S : Addr) (nf : S ∉ fp) (ks : List (Addr × List Str)) (hn : ks.length = n) (few : n < 64) (diff : (ks.map (·.2)).Nodup) (hat : ∀ i v, Pv i v → ∃ p, ks[i]? = some p ∧ v = .ref p.1)
    (g : Heap) (hk : ∀ p ∈ ks, TwAt P w g p.2 p.1) (gS : g.get? S = none) (gw : ∀ b ∈ wr, g.get? b = none) (hu : A.in1.units < cLine) :
    ∀ (m i : Nat) (s : Shared), n - i = m → i ≤ n → St i s → (∀ b o, g.get? b = some o → s.heap.get? b = some o) → (∃ L es ep t, Bag P w s.heap S L es ep t ∧ L.Perm (ks.take i)) →
      (∀ s' L es ep t, Moved (S :: wr) G s s' → Bag P w s'.heap S L es ep t → L.Perm ks → R (.ok (.ret .none)) s') → codeAny (model P w) A (.builtin "set.update.loop" ⟨[.ref S, .ref I], []⟩) R s := by
  have nw : S ∉ wr := fun q => nf (W.sub _ q)
  have up : ∀ c ∈ wr, c ∈ S :: wr := fun c hc => List.mem_cons_of_mem _ hc
  have onward : ∀ {s s' : Shared}, Moved wr G s s' → (∀ b o, g.get? b = some o → s.heap.get? b = some o) → ∀ b o, g.get? b = some o → s'.heap.get? b = some o := fun mv kp b o e => by
    refine mv.heap b o (fun hb => ?_) (kp b o e)
    rw [gw b hb] at e
    cases e
  have hold : ∀ {s s' : Shared} {L : List (Addr × List Str)} {es : Array (Int × Value)} {ep : Nat} {t : SetTable} {i : Nat}, Moved wr G s s' → (∀ b o, g.get? b = some o → s'.heap.get? b = some o) → L.Perm (ks.take i) → Bag P w s.heap S L es ep t → Bag P w s'.heap S L es ep t := fun {s s' L es ep t i} mv kp pm B => by
    obtain ⟨o, ho, more⟩ := B.obj
    exact ⟨⟨o, mv.heap S o nw ho, more⟩, B.cel, B.tab, fun p hp => there (hk p (List.mem_of_mem_take (pm.mem_iff.mp hp))) kp, B.lrn, B.rom, B.sml⟩
  intro m
  induction m with
  | zero =>
    intro i s hm hi hst kp ⟨L, es, ep, t, B, pm⟩ hR
    obtain rfl : i = n := by omega
    refine codeAny_builtin F.entry_set_update_loop ?_
    rw [Around.under_plainId F.plain_set_update_loop _]
    refine wpAny_bind (m := pyNext (.ref I)) (W.done s _ _ hst fun s1 mv => ?_)
    have B1 := hold mv (onward mv kp) pm B
    rw [← hn, List.take_length] at pm
    exact wpAny_pure (hR s1 L es ep t (mv.mono up) B1 pm)
  | succ m ih =>
    intro i s hm hi hst kp ⟨L, es, ep, t, B, pm⟩ hR
    have lt : i < n := by omega
    refine codeAny_builtin F.entry_set_update_loop ?_
    rw [Around.under_plainId F.plain_set_update_loop _]
    refine wpAny_bind (m := pyNext (.ref I)) (W.item i s _ _ lt hst fun v s1 hP hst1 mv => ?_)
    obtain ⟨p, hp, rfl⟩ := hat i v hP
    have kp1 := onward mv kp
    have B1 := hold mv kp1 pm B
    have hx : TwAt P w s1.heap p.2 p.1 := there (hk p (List.mem_of_getElem? hp)) kp1
    have nxt : ks.take (i + 1) = ks.take i ++ [p] := by
      rw [List.take_add_one, hp]
      rfl
    have away : ∀ q ∈ L, q.2 ≠ p.2 := fun q hq e => by
      have d := diff.sublist (((List.take_sublist (i + 1) ks).map (·.2)))
      rw [nxt, List.map_append, List.nodup_append] at d
      exact d.2.2 q.2 (List.mem_map.mpr ⟨q, pm.mem_iff.mp hq, rfl⟩) p.2 (by simp) e
    have ll : L.length ≤ i := by
      rw [pm.length_eq, List.length_take]
      omega
    show wpAny _ A.in1 (holding [Value.ref p.1] (setAdd S (.ref p.1)) >>= _) _ _ s1
    refine wpAny_bind (wpAny_holding ?_)
    unfold setAdd
    refine wpAny_holding (wpAny_bind (wpAny_pyHash_tuple hu hx ?_))
    refine add_new (s := { s1 with toks := s1.toks + (p.2.length + 1) }) B1 hx hu away (by omega) fun h2 L2 es2 ep2 t2 sb B2 pm2 => ?_
    have pm3 : L2.Perm (ks.take (i + 1)) := by
      rw [nxt]
      exact pm2.trans ((pm.cons p).trans (List.perm_append_singleton p (ks.take i)).symm)
    have kp2 : ∀ b o, g.get? b = some o → h2.get? b = some o := fun b o e => by
      refine (sb.2 b fun z => ?_).trans (kp1 b o e)
      rw [z, gS] at e
      cases e
    refine wpAny_pure ⟨plainId_quiet F.plain_set_update_loop _, ih (i + 1) _ (by omega) lt (W.frame _ s1 _ _ hst1 (Nat.le_add_right _ _) fun c hc o e => ?_) kp2 ⟨L2, es2, ep2, t2, B2, pm3⟩ fun s3 L3 es3 ep3 t3 mv3 B3 pm4 => ?_⟩
    · rw [sb.2 c (fun z : c = S => nf (by rw [← z]; exact hc))]
      exact e
    · refine hR s3 L3 es3 ep3 t3 (Moved.trans W.gtrans ((mv.mono up).then_heap (Nat.le_add_right _ _) fun c o hc e => ?_) mv3) B3 pm4
      rw [sb.2 c (fun z : c = S => hc (by rw [z]; exact List.mem_cons_self))]
      exact e
theorem call_setT {l : Addr} {its : Array Value} (ks : List (Addr × List Str)) {Q : Value → Shared → Prop} (hA : A.handled = none) (hl : s.heap.IsList l its) (hit : its.toList = ks.map fun p => Value.ref p.1) (hk : ∀ p ∈ ks, TwAt P w s.heap p.2 p.1)
    (few : ks.length < 64) (diff : (ks.map (·.2)).Nodup) (hu : A.units + 3 < cLine)
    (q : ∀ (h' : Heap) (tk : Nat) L es ep t, Bag P w h' s.heap.objs.size L es ep t → L.Perm ks → (∀ c o, c < s.heap.objs.size → s.heap.get? c = some o → h'.get? c = some o) → Q (.ref s.heap.objs.size) { s with heap := h', toks := tk }) :
    wpAny (model P w) A (call (.type "set") [.ref l]) Q E s := by
  have hlen : ks.length = its.size := by
    have z := congrArg List.length hit
    rw [Array.length_toList, List.length_map] at z
    exact z.symm
  obtain ⟨c, tl, hmro⟩ := PySem.F.called_set.mro
  have hmade := PySem.F.called_set.made
  have hsub := PySem.F.called_set.sub
  refine wpAny_call (codeAny_of_tree ?_)
  show wpAny _ _ (callAny (.type "set") _) _ _ _
  refine wpAny_pure ⟨Code.quiet_builtin _ (by decide +kernel), codeAny_builtin PySem.F.entry_type_call ?_⟩
  rw [Around.under_plain (weight_type_call_type "set" [.ref l] []) rfl]
  have h1 := PySem.F.called_set.notType
  have h2 := PySem.F.called_set.canCreate
  have hct := PySem.F.typeCall_set_1 (.ref l)
  repeat (any_goals (first | assumption | wp_step))
  refine codeAny_mono (code_set_led1 (.ref l) (E := E) (Q₁ := fun b s₁ => b = .ref s.heap.objs.size ∧ s₁ = { s with heap := s.heap.push (fresh0 w) }) ⟨rfl, rfl⟩) fun r s₁ hr => ?_
  cases r with
  | error e => exact hr
  | ok fl =>
    cases fl with
    | ret b =>
      obtain ⟨rfl, rfl⟩ := hr
      have hS : (s.heap.push (fresh0 w)).get? s.heap.objs.size = some (fresh0 w) := Heap.get?_push_size _ rfl
      have hT : Shared.TypeIs { s with heap := s.heap.push (fresh0 w) } (.ref s.heap.objs.size) "set" := ⟨_, hS, rfl⟩
      have hli := PySem.F.called_set.init.lookup
      have hbi := PySem.F.called_set.init.bind (.ref s.heap.objs.size)
      repeat (any_goals (first | assumption | wp_step))
      refine codeAny_mono (codeAny_call_builtin (R := wants (fun r s₂ => r = .none ∧ ∃ h' tk L es ep t, s₂ = { s with heap := h', toks := tk } ∧ Bag P w h' s.heap.objs.size L es ep t ∧ L.Perm ks ∧
          (∀ c o, c < s.heap.objs.size → s.heap.get? c = some o → h'.get? c = some o)) E) PySem.F.called_set.init.plain PySem.F.entry_set_init (check_set_init_1 hT ?_)) fun r₂ s₂ hr₂ => ?_
      · obtain ⟨ol, hol, hcl, nl, hdl⟩ := hl
        obtain ⟨ocls, odict, odata, oslots⟩ := ol
        simp only at hcl hdl
        subst hcl; subst hdl
        have hol' : (s.heap.push (fresh0 w)).get? l = some { cls := .type "list", dict := odict, data := .seq its nl, slots := oslots } := Heap.get?_push_of_some _ hol
        have hsls := PySem.F.sub_list_set
        have hslf := PySem.F.sub_list_frozenset
        have hne : (Value.type "list" == Value.type "dict") = false := by decide
        have hl1 : (s.heap.push (fresh0 w)).IsList l its := ⟨_, hol', rfl, nl, rfl⟩
        unfold Builtin.«set.__init__» noKeywords Builtin.Frozenset.updateFrom
        generalize hPI : pyIter = PI
        wp_walk
        subst hPI
        refine wpAny_pyIter_list hl1 ?_
        refine wpAny_bind (wpAny_runValue ?_)
        have hlS : l < s.heap.objs.size := Heap.lt_size hol
        have h3 : A.in1.in1.in1.handled = none := by simp [hA]
        have nI : l ≠ (s.heap.push (fresh0 w)).objs.size := by
          rw [Heap.size_push]; exact Nat.ne_of_lt (Nat.lt_succ_of_lt hlS)
        have nS : s.heap.objs.size ∉ [(s.heap.push (fresh0 w)).objs.size, l] := by
          rw [Heap.size_push]; simp only [List.mem_cons, List.mem_singleton, List.not_mem_nil, or_false, not_or]
          exact ⟨Nat.ne_of_lt (Nat.lt_succ_self _), Nat.ne_of_gt hlS⟩
        have none_of : ∀ b, s.heap.objs.size ≤ b → s.heap.get? b = none := fun b hb => by
          cases z : s.heap.get? b with
          | none => rfl
          | some o => exact absurd (Nat.lt_of_lt_of_le (Heap.lt_size z) hb) (Nat.lt_irrefl _)
        have hat : ∀ (i : Nat) (v : Value), its[i]? = some v → ∃ p, ks[i]? = some p ∧ v = .ref p.1 := fun i v hv => by
          have z : its.toList[i]? = some v := by rw [Array.getElem?_toList]; exact hv
          rw [hit, List.getElem?_map] at z
          cases y : ks[i]? with
          | none =>
            rw [y] at z
            cases z
          | some p =>
            rw [y] at z
            exact ⟨p, rfl, (Option.some.inj z).symm⟩
        refine grow ((Walks.list h3 _ l nI its).toS) s.heap.objs.size nS ks hlen (by rw [← hlen]; exact few) diff hat s.heap hk (none_of _ (Nat.le_refl _)) (fun b hb => none_of b (by
            rw [List.mem_singleton.mp hb, Heap.size_push]
            exact Nat.le_succ _)) hu (its.size - 0) 0 _ (by omega) (Nat.zero_le _) ⟨⟨_, Heap.get?_push_size _ rfl, rfl, rfl⟩, (hl1.push _)⟩ (fun b o e => Heap.get?_push_of_some _ (Heap.get?_push_of_some _ e)) ?hS0 ?hR
        case hS0 =>
          have hget : ((s.heap.push (fresh0 w)).push { cls := .type "list_iterator", data := .fields #[.ref l, .int 0 0] }).get? s.heap.objs.size = some (fresh0 w) := Heap.get?_push_of_some _ hS
          exact ⟨[], #[], 0, _, bag0 hget, by rw [List.take_zero]⟩
        case hR =>
          intro s' L es ep t mv B pm
          obtain ⟨h', g', d', tk', os'⟩ := s'
          obtain rfl : g' = s.gens := mv.gens
          obtain rfl : d' = s.drawn := mv.drawn
          obtain rfl : os' = s.os := mv.os
          show wpAny _ _ _ _ _ _
          refine wpAny_pure ?_
          show wpAny _ _ (ret Value.none) _ _ _
          refine wpAny_pure ⟨rfl, h', tk', L, es, ep, t, rfl, B, pm, fun c o hc e => ?_⟩
          have n1 : c ≠ s.heap.objs.size := Nat.ne_of_lt hc
          have n2 : c ≠ (s.heap.push (fresh0 w)).objs.size := by
            rw [Heap.size_push]; exact Nat.ne_of_lt (Nat.lt_succ_of_lt hc)
          exact mv.heap c o (by simp only [List.mem_cons, List.mem_singleton, List.not_mem_nil, or_false, not_or]; exact ⟨n1, n2⟩) (Heap.get?_push_of_some _ (Heap.get?_push_of_some _ e))
      · cases r₂ with
        | error e => exact hr₂
        | ok fl₂ =>
          cases fl₂ with
          | ret r =>
            obtain ⟨rfl, h', tk, L, es, ep, t, rfl, B, pm, hk'⟩ := hr₂
            repeat (any_goals (first | assumption | wp_step))
            exact q _ _ _ _ _ _ B pm hk'
          | _ => exact hr₂.elim
    | _ => exact hr.elim
end
section
variable {X : Cx}
/-- len(set(xs)), xs a list of different tuples of texts -/
def tLenSetT (K : PySem.W.Frag) (ta : TE) : TE := fun σ H Q => ta σ H fun x H1 => ∃ (l : Addr) (ks : List (Addr × List Str)), x = .ref l ∧ SqL K H1 l (ks.map fun p => V.ref p.1) ∧ (∀ p ∈ ks, SqT K H1 p.1 (p.2.map V.str)) ∧ ks.length < 64 ∧ (ks.map (·.2)).Nodup ∧ Q (.int (ks.length : Nat)) H1
theorem words_is {P : Program} {w : World} : ∀ {k : List Str} {us : List Value}, Vals (k.map V.str) us → ItemsAre (PySem.strKind P w) k us
  | [], _, .nil => .nil
  | z :: k, _, .cons r t => by
    obtain ⟨tk, rfl⟩ := r
    exact .cons (strKind_is _ _ _ _) (words_is t)
theorem refs_is : ∀ {ks : List (Addr × List Str)} {us : List Value}, Vals (ks.map fun p => V.ref p.1) us → us = ks.map fun p => Value.ref p.1
  | [], _, .nil => rfl
  | p :: ks, _, .cons r t => by
    cases r
    rw [List.map_cons, ← refs_is t]
theorem pe_lenSetT {a : Expr} {ta : TE} {p p2 q pos : Pos} {k : Nat} (hr : Room k X.A) (hc : X.calm = true) (hg : Gl X "len") (hm : X.mg "len" = none) (hg2 : Gl X "set") (hm2 : X.mg "set" = none) (ha : PE X a ta)
    (na : starEach [a] X.env = (false, eval a X.env) :: starEach [] X.env := by rfl) : PE X (.Call (.Name "len" p) [.Call (.Name "set" p2) [a] [] q] [] pos) (tLenSetT X.K ta) := by
  refine ⟨fun pins s σ H Q I h => ?_⟩
  refine Call_ (ld_blt I hg hm boot_len ?_)
  refine PyProof.Rows.callWith_builtin1 (PyProof.Rows.args_cons ?_ rfl) rfl rfl
  refine Call_ (ld_blt I hg2 hm2 boot_set ?_)
  refine PyProof.Rows.callWith_type1 (PyProof.Rows.args_cons (thn (ha.run pins s σ H _ I h) fun v s1 ⟨x, H1, I1, r1, q1⟩ => PyProof.Rows.args_nil ?_) na) na rfl
  obtain ⟨l, ks, rfl, hq, ht, few, diff, q1⟩ := q1
  cases r1
  obtain ⟨its, r, pl, hz⟩ := I1.list hq
  have hu := hr.units
  refine call_setT (P := X.prog) (w := X.w) ks (I1.ok.hd hc) pl.isList (by simpa using refs_is r) (fun p hp => ?_) few diff (by omega) fun h' tk L es ep t B pm hk => ?_
  · obtain ⟨ts, rt, pt, _⟩ := I1.tuple (ht p hp)
    obtain ⟨o, ho, hcl, n, hd⟩ := pt
    exact ⟨o, ts.toArray, n, ho, hcl, hd, words_is rt⟩
  · refine PyProof.Rows.args_nil ?_
    obtain ⟨o, ho, hex, hd⟩ := B.obj
    have I2 : Inv X pins σ H1 { s1 with heap := h', toks := tk } := I1.kept fun c o e => hk c o (Heap.lt_size e) e
    have hn : es.size = ks.length := by
      have z : es.size = L.length := by rw [← Array.length_toList, B.cel, cells_len]
      rw [z, pm.length_eq]
    refine call_len_set ho hex hd (B.fit (s := { s1 with heap := h', toks := tk })) (by rw [hn] <;> omega) ⟨.int (ks.length : Nat), H1, I2.tok _, ⟨_, by rw [hn]⟩, q1⟩
end
end TxSet

set_option Elab.async false
set_option linter.all false
set_option maxRecDepth 100000
set_option maxHeartbeats 4000000
/-! An own exception's __init__ over ValueError: super().__init__(e), then one more statement. -/
namespace SupX
open PySem PySem.Spec PyProof.Rows L2 NdefX LamX
/-- the body of such an __init__ -/
abbrev supBody (e : Expr) (st2 : Stmt) (p0 p1 p2 p3 p4 : Pos) : List Stmt :=
  [.Expr (.Call (.Attribute (.Call (.Name "super" p0) [] [] p1) "__init__" p2) [e] [] p3) p4, st2]
abbrev supF (name qual : Str) (params : Arguments) (body : List Stmt) (scope : Scope) (cc cda : Addr) : NF := ⟨name, qual, params, body, scope, [("__class__", cc)], cda⟩
/-- what the written part says of it -/
structure SupC (P : Program) (K : PySem.W.Frag) (mg : Str → Option Value) (C f cc cda : Addr) (name qual arg2 : Str) (params : Arguments) (body : List Stmt) (scope : Scope) (fd : FuncData) : Prop where
  lk : ∃ (oc : Value) (od : Option Addr) (dV kV doc pm : Value) (an : Option Addr) (ct : Value) (osl : Array (Option Value)), fd = PySem.W.fnX name qual params body scope [("__class__", cc)] dV kV doc pm an (.ref cda) ct ∧ K.lookup f = some ⟨oc, od, .func fd, osl⟩
  hcd : PySem.W.codeIn K (.ref cda) qual = true
  code : ∃ (ccl : Value) (cdd : Option Addr) (vs : Array Value) (ccs : Array (Option Value)) (file : Str) (tf : Tok), K.lookup cda = some ⟨ccl, cdd, .fields vs, ccs⟩ ∧ vs[2]? = some (.str file tf) ∧ ((P.main.file : Str) == file) = true
  cell : ∃ (cl : Value) (cld : Option Addr) (csl : Array (Option Value)), K.lookup cc = some ⟨cl, cld, .cell (some (.ref C)), csl⟩
  S : NScope ["self", arg2, "__class__"] ["self", arg2] ["__class__"] scope
  hp : ∃ ar : Arg, (params.posonlyargs ++ params.args).head? = some ar ∧ ar.arg = "self"
  hsup : scope.names.lookup ("super" : Str) = some .globalImplicit
  T : OexC K C
  cls : ∃ cd, PySem.W.clsIn K C = some cd
  sub : PySem.W.mroIn K C (.ref C) = some true
  ve : PySem.W.subIn K (.ref C) (.type "ValueError") = some true
  along : PySem.W.ks_superIn K C C "__init__" = some (some (.builtin "ValueError.__init__"))
  opq : PySem.W.nsIn K cStatics "thirdparty.any" = some none
  msup : mg "super" = none
  top : (P.main.scope.names.lookup ("super" : Str)).isSome = false
section
variable {P : Program} {w : World} {K : PySem.W.Frag} {mg : Str → Option Value} {base : Heap} {CX : CXT} {k : Nat}
/-- the built-in __init__ by its method-wrapper, upon an exception that is being made -/
theorem call_mw {X : Cx} {pins : List (Addr × Obj)} {σ : L2.St} {H : Hp} {s : Shared} {a C u : Addr} {us : List Value} {A : Around} {E : Value → Shared → Prop} {Q : Value → Shared → Prop} (T : OexC X.K C) (I : Inv X pins σ H s) (e : H a = some (exo a C none)) (hl : us.length ≤ sizeLine)
    (hu : s.heap.get? u = some (PySem.W.kxs_mw "ValueError.__init__" a)) (h : ∀ s', Inv X pins σ H s' → Q .none s') : wpAny (model X.prog X.w) A (call (.ref u) us) Q E s := by
  obtain ⟨nm, q, N, bs, bm, sn, sub, ab, col, dd, k0, k1, k2, k3, k5, hC, hbm⟩ := T.cls
  obtain ⟨t1, ho⟩ := exo_at I.hok e
  have hC' := I.kIn _ _ hC
  obtain ⟨hh, g, d, t, os⟩ := s
  refine wpAny_call (codeAny_of_tree ?_)
  show wpAny _ A.in1 (callAny (.ref u) ⟨us, []⟩) _ _ _
  simp only [callAny]
  refine wpAny_bind (wpAny_load hu ?_)
  simp only [PySem.W.kxs_mw, show (Value.type "method-wrapper" == Value.type "method" || Value.type "method-wrapper" == Value.type "builtin_function_or_method" || Value.type "method-wrapper" == Value.type "method-wrapper") = true by decide, if_true]
  refine PySem.W.KFB.if_so (by decide) ?_
  refine wpAny_bind (PySem.W.check_bound_init PySem.F.excBase_ValueError.toExcCallFacts hC' ho rfl ?_)
  refine wpAny_bind (wpAny_pure (wpAny_pure ?_))
  refine ⟨plainId_quiet PySem.F.excBase_ValueError.init.plain _, codeAny_builtin PySem.F.excBase_ValueError.initEntry ?_⟩
  refine PySem.W.exc_init_tree (cls := .ref C) (t0 := t1) (dv := none) (c2 := .none) (c3 := .none) (b4 := .bool false) ho hl (fun h' k hx _ => ?_)
  have J := I.write (t' := t) (x := a) (e := a) (o := exo a C none) (by rw [e]; exact True.intro) (.inl rfl) k ⟨_, hx⟩ (exo_ok hx)
  have eu : upd H a (exo a C none) = H := by
    funext b
    by_cases hb : b = a
    · rw [hb, upd_same, e]
    · rw [upd_ne hb]
  rw [eu] at J
  exact h _ J
theorem callWith_mw {M : Model} {A : Around} {E : Value → Shared → Prop} {s : Shared} {i : String} {u x : Addr} {pos : Pos} {env : Env} {e : Expr} {Q : Value → Shared → Prop}
    (h : wpAny M A (spliced (backTo pos (starEach [e] env))) (fun vs s₁ => PySem.W.KxsAt i u x s₁.heap ∧ wpAny M A (call (.ref u) vs) Q E s₁) E s)
    (he : starEach [e] env = [(false, eval e env)]) : wpAny M A (callWith pos (.ref u) [] (backTo pos (starEach [e] env)) []) Q E s := by
  rw [he] at h ⊢
  refine PySem.W.kxs_callWith (i := i) (x := x) rfl ?_
  exact PySem.Calls.evalArgs_plain h
/-- THE RULE: such an __init__ as a def -/
theorem sup_ok {C f cc cda : Addr} {name qual arg2 : Str} {params : Arguments} {e : Expr} {st2 : Stmt} {p0 p1 p2 p3 p4 : Pos} {scope : Scope} {fd : FuncData} {sp : Sp} (W0 : SupC P K mg C f cc cda name qual arg2 params (supBody e st2 p0 p1 p2 p3 p4) scope fd)
    (len : ∀ vs H Q E, sp vs H Q E → vs.length = 2)
    (hbody : ∀ (A : Around) (outer : List Env) (s : Shared) (H : Hp) (vs : List V) (Q : VK) (E : XK), Room k (A.deeper (envF (supF name qual params (supBody e st2 p0 p1 p2 p3 p4) scope cc cda) f s.heap.objs.size)) → sp vs H Q E →
      ∃ (a : Addr) (y : V) (ta : TA) (t2 : TS), vs = [.ref a, y] ∧ H a = some (exo a C none) ∧ PA (ncx CX P w K mg base ["self", arg2, "__class__"] (supF name qual params (supBody e st2 p0 p1 p2 p3 p4) scope cc cda) f A outer s H E) [e] ta ∧
        PS (ncx CX P w K mg base ["self", arg2, "__class__"] (supF name qual params (supBody e st2 p0 p1 p2 p3 p4) scope cc cda) f A outer s H E) st2 t2 ∧
        ta (startF ["self", arg2, "__class__"] vs [none]) H fun ws H1 => ws.length ≤ 1000 ∧ H1 a = some (exo a C none) ∧ t2 { nx := fun _ H' => Q .non H', rt := Q } (startF ["self", arg2, "__class__"] vs [none]) H1)
    (he : ∀ env : Env, starEach [e] env = [(false, eval e env)]) (hcall : ∀ env : Env, ∃ pl : Sem Bool, eval (.Call (.Attribute (.Call (.Name "super" p0) [] [] p1) "__init__" p2) [e] [] p3) env = (do
      let ov ← attributeBase (.Call (.Name "super" p0) [] [] p1) "__init__" env (eval (.Call (.Name "super" p0) [] [] p1) env)
      standAt p2.atName
      let (f, first) ← holding [ov] (getMethod ov "__init__" pl)
      callWith p3 f first (backTo p3 (starEach [e] env)) [])) : FnOk P w K mg base CX (k + 1) f fd ["self", arg2] sp := by
  obtain ⟨⟨oc, od, dV, kV, doc, pm, an, ct, osl, rfl, lk⟩, hcd, ⟨ccl, cdd, cvs, ccs, file, tf, hcode, hvs, hfile⟩, ⟨cl, cld, csl, hcell⟩, S, ⟨ar, hp1, hp2⟩, hsup, T, ⟨cd, hcls⟩, hsub, hve, halong, hopq, msup, htop⟩ := W0
  refine ⟨len, fun A outer s H args us vs Q E hr e0 hb r hsp => ?_⟩
  have hl := len _ _ _ _ hsp
  have KX : K.In s.heap := e0.mod.kin.keeps fun b o e => (e0.bs b o e).1
  have lim : s.heap.NoLimit := e0.mod.nolimit.keeps fun b o e => (e0.bs b o e).1
  refine PySem.ks_codeAny_call_defAt (body := supBody e st2 p0 p1 p2 p3 p4) hr.depth (KX _ _ lk) rfl lim (PySem.W.codeRec_of KX hcd) rfl hb S.nocell (fun ⟨n, _⟩ hy => S.par n (List.of_mem_zip hy).1) (fun h₁ hns kp => ?_) S.co S.gen S.kind
  obtain ⟨a, y, ta, t2, rfl, ea, hPA, hPS, hq⟩ := hbody A outer s H vs Q E (hr.deeper _) hsp
  have kb : ∀ b o, base.get? b = some o → H b = none := fun b o z => (e0.bs b o z).2
  have kcell : s.heap.IsCell cc (some (.ref C)) := ⟨_, KX _ _ hcell, rfl⟩
  have nocc : H cc = none := kb cc _ (e0.mod.kin _ _ hcell)
  have CA : CellsAt (supF name qual params (supBody e st2 p0 p1 p2 p3 p4) scope cc cda).cl ["__class__"] [none] s.heap H := by
    have one : ∀ {y c}, List.lookup y [(("__class__" : Str), cc)] = some c → y = "__class__" ∧ c = cc := fun {y c} z => by
      rw [List.lookup_cons] at z
      by_cases q : (y == ("__class__" : Str)) = true
      · rw [q] at z
        exact ⟨eq_of_beq q, (Option.some.inj z).symm⟩
      · rw [Bool.not_eq_true] at q
        rw [q] at z
        cases z
    refine ⟨rfl, fun y c z => ?_, fun x y c z1 z2 => (one z1).1.trans (one z2).1.symm, fun i y hi => ?_⟩
    · obtain ⟨_, rfl⟩ := one z
      exact ⟨nocc, _, kcell⟩
    · cases i with
      | zero =>
        obtain rfl := Option.some.inj hi
        exact ⟨cc, by rw [List.lookup_cons, show (("__class__" : Str) == ("__class__" : Str)) = true from beq_self_eq_true _], fun v hv => by simp at hv⟩
      | succ i => simp at hi
  have I : L2.Inv (ncx CX P w K mg base ["self", arg2, "__class__"] (supF name qual params (supBody e st2 p0 p1 p2 p3 p4) scope cc cda) f A outer s H E) [] (startF ["self", arg2, "__class__"] [.ref a, y] [none]) H { s with heap := h₁, toks := s.toks + (((["self", arg2] : List Str).zip us)).length } := inv_startN (F := supF name qual params (supBody e st2 p0 p1 p2 p3 p4) scope cc cda) S hr.hd e0 hl r CA hns kp
  have K1 : K.In h₁ := KX.keeps kp
  obtain ⟨ua, uy, rfl, ra, ry⟩ : ∃ ua uy, us = [ua, uy] ∧ ua = Value.ref a ∧ RelV y uy := by
    cases r with
    | cons h1 h2 =>
      cases h2 with
      | cons h3 h4 =>
        cases h4
        exact ⟨_, _, rfl, h1, h3⟩
  subst ra
  have hself : ((["self", arg2] : List Str).zip [Value.ref a, uy]).reverse.lookup ar.arg = some (.ref a) := by
    rw [hp2]
    have nd := S.nd
    exact zip_look (i := 0) (ps := (["self", arg2] : List Str)) (us := [Value.ref a, uy]) (by
      have q := nd.sublist (List.take_sublist 2 (["self", arg2, "__class__"] : List Str))
      exact q) rfl rfl
  obtain ⟨t1, hoe⟩ := exo_at I.hok ea
  obtain ⟨oC, hC1, hC2⟩ : ∃ oC, h₁.get? C = some oC ∧ oC.data = .cls cd := by
    unfold PySem.W.clsIn at hcls
    split at hcls
    · rename_i c d cd' sl ho
      cases hcls
      exact ⟨_, K1 _ _ ho, rfl⟩
    · cases hcls
  have hself2 : scope.names.lookup ar.arg = some .local := by rw [hp2]; exact S.par "self" List.mem_cons_self
  obtain ⟨mb, hm1, hm2⟩ := I.mod.blt
  obtain ⟨pl, hpl⟩ := hcall (envF (supF name qual params (supBody e st2 p0 p1 p2 p3 p4) scope cc cda) f s.heap.objs.size)
  refine PySem.ks_wpAt_execs_cons (PySem.ks_wpAt_Expr_any (PySem.ks_wpAt_MethodCall ?_ hpl) (hi := I.quiet))
  refine PySem.ks_wpAt_super_base (f := f) hsup (S.frk "__class__" List.mem_cons_self) (by decide) rfl (kp _ _ (KX _ _ lk)) rfl hp1 rfl (K1 _ _ hcode) rfl hvs hfile htop ?_
  refine PySem.W.ks_loadName_global S.kind hsup (Calls.loadGlobal_builtin (I.mod.glob.keeps I.bk) msup (hm1.keeps I.bk) ((hm2 "super" (by decide)).trans (show bootBuiltins "super" = some (.type "super") by decide +kernel)) ⟨rfl, ?_⟩)
  refine wpAny_loadName_free S.kind (S.frk "__class__" List.mem_cons_self) rfl ⟨_, K1 _ _ hcell, rfl⟩ ?_
  refine wpAny_loadName_local S.kind hself2 hns hself ?_
  refine PySem.ks_wpAny_isType_cls hC1 hC2 ⟨rfl, ?_⟩
  refine PySem.ks_wpAny_call_super hC1 hC2 hoe rfl (fun c z => by cases z) (PySem.W.looks_mroIn K1 hsub) (fun h2 hso k2 => ?_)
  have K2 : K.In h2 := K1.keeps k2
  have I2 := I.kept (h' := h2) (t' := s.toks + (((["self", arg2] : List Str).zip [Value.ref a, uy])).length) k2
  have IA : PySem.W.InstAt h2 a _ C none := ⟨k2 _ _ hoe, rfl, rfl, trivial⟩
  have halong' : PySem.W.alongIn K "__init__" ((cd.mro.dropWhile (· != .ref C)).drop 1) = some (some (.builtin "ValueError.__init__")) := by
    unfold PySem.W.ks_superIn at halong
    rw [hcls] at halong
    exact halong
  refine PySem.W.kxs_getMethod PySem.W.kxs_ValueError hso (PySem.W.looks_opaque K2 hopq) (l₀ := cd.mro) (fun A Q E s k q => wpAny_bind ((PySem.W.looks_clsIn K2 hcls) A _ E s k (wpAny_pure q))) rfl K2 halong' (IA.type.andThen (PySem.W.looks_subIn K2 hve)) (PySem.W.ks_ne K2 IA hcls) (by decide) ?_
  have k3 : ∀ b o, h2.get? b = some o → (h2.push (PySem.W.kxs_mw "ValueError.__init__" a)).get? b = some o := fun b o z => Heap.get?_push_of_some _ z
  have I3 := I2.kept (h' := h2.push (PySem.W.kxs_mw "ValueError.__init__" a)) (t' := s.toks + (((["self", arg2] : List Str).zip [Value.ref a, uy])).length + 1) k3
  have hu : (h2.push (PySem.W.kxs_mw "ValueError.__init__" a)).get? h2.objs.size = some (PySem.W.kxs_mw "ValueError.__init__" a) := Heap.get?_push_size _ rfl
  have I4 := I3.pins_of (pins' := [(h2.objs.size, PySem.W.kxs_mw "ValueError.__init__" a)]) fun p hp => by
    obtain rfl := List.mem_singleton.mp hp
    refine ⟨hu, I2.hok.fresh (Nat.le_refl _), fun z => ?_, I2.nofs (Nat.le_refl _), fun v z => by cases z⟩
    have := I2.lt
    rw [← z] at this
    exact absurd this (Nat.lt_irrefl _)
  refine callWith_mw (i := "ValueError.__init__") (x := a) (thn (hPA.run p3 _ _ _ H _ I4 hq) fun us' s5 ⟨vs', H5, I5, r5, hlen, ea5, q5⟩ => ⟨(I5.pin _ (List.mem_append_right _ List.mem_cons_self)).1, ?_⟩) (he _)
  have hlen' : us'.length ≤ sizeLine := by
    rw [← Paired.length r5, sizeLine_eq]
    omega
  refine call_mw (X := ncx CX P w K mg base ["self", arg2, "__class__"] (supF name qual params (supBody e st2 p0 p1 p2 p3 p4) scope cc cda) f A outer s H E) T I5 ea5 hlen' (I5.pin _ (List.mem_append_right _ List.mem_cons_self)).1 (fun s6 I6 => ?_)
  have I7 := I6.pins_of (pins' := []) fun p hp => by cases hp
  refine wpAt_of_wpAny (wpAny_mono ((pss_one hPS).run [] s6 _ H5 _ I7 q5) (fun fl s' hs => ?_) fun e s' hs => hs)
  have fin : ∀ {σ' : L2.St} {H' : Hp} {v : V} {u : Value}, L2.Inv (ncx CX P w K mg base ["self", arg2, "__class__"] (supF name qual params (supBody e st2 p0 p1 p2 p3 p4) scope cc cda) f A outer s H E) [] σ' H' s' → L2.RelV v u → Q v H' → CE outer P w H s Q u s' :=
    fun {σ' H' v u} J rv q => ⟨v, H', J.os, J.bare, J.base, J.hok, rv, q⟩
  cases fl with
  | ret u =>
    obtain ⟨v, σ', H', J, rv, q⟩ := hs
    exact fin J rv q
  | next =>
    obtain ⟨σ', H', J, q⟩ := hs
    exact fin (v := V.non) (u := Value.none) J rfl q
  | brk =>
    obtain ⟨_, _, _, q⟩ := hs
    exact False.elim q
  | cont =>
    obtain ⟨_, _, _, q⟩ := hs
    exact False.elim q
end
end SupX

set_option Elab.async false
set_option linter.all false
set_option maxRecDepth 100000
set_option maxHeartbeats 4000000
namespace SupX
open PySem PySem.Spec PyProof.Rows L2 NdefX LamX
/-- isinstance(e, c), e the exception that the suite holds, with or without a dict of its own -/
def rIsX (K : PySem.W.Frag) (a : Addr) (cls : Value) (d : Option Addr) : List V → Hp → VK → Prop := fun xs H Q => ∃ (c : V) (cv : Value) (b : Bool) (D : Addr), xs = [.ref a, c] ∧ cls = .ref D ∧ ExcC K D ∧ (∀ u, L2.RelV c u → u = cv) ∧ PySem.W.kitOne K (.ref D) cv = some b ∧ (∀ dd, d = some dd → ∃ fs, H dd = some (.xd fs)) ∧ Q (.bl b) H
theorem call_isX {X : Cx} {a : Addr} {cls : Value} {d : Option Addr} {oe : Obj} {pn : List (Addr × Obj)} (hz : Zc cls d oe) (hf : ∃ vs, oe.data = .fields vs) : CallR (X.suite a ((a, oe) :: pn)) (.builtin "isinstance") (rIsX X.K a cls d) := by
  intro pins s σ H xs us Q I r h
  obtain ⟨c, cv, b, D, rfl, rfl, C, hcv, e, hd, q⟩ := h
  cases r with
  | cons rx rr =>
    cases rr with
    | cons rt rr =>
      cases rr
      cases rx
      obtain rfl := hcv _ rt
      obtain ⟨hget, _⟩ := I.pin (a, oe) (List.mem_append_left _ List.mem_cons_self)
      obtain ⟨vs, hv⟩ := hf
      obtain ⟨od, J⟩ : ∃ od, PySem.W.InstAt s.heap a oe D od := by
        have no : PySem.W.notCls oe = true := by unfold PySem.W.notCls; rw [hv]
        cases hdd : d with
        | none => exact ⟨none, hget, hz.1, no, by rw [hz.2, hdd]; trivial⟩
        | some dd =>
          obtain ⟨fs, hx⟩ := hd dd hdd
          have hx' : ObjOk X.prog X.w H s.heap dd (.xd fs) := I.hok dd _ hx
          obtain ⟨mA, ⟨o, es, ep, ho, _⟩, _⟩ := hx'
          exact ⟨some o, hget, hz.1, no, by rw [hz.2, hdd]; exact ho⟩
      have hcl : (PySem.W.clsIn X.K D).isSome = true := by
        obtain ⟨cd, hc, _⟩ := PySem.W.any_some C.hd
        rw [hc]
        rfl
      exact PySem.W.kia_one (PySem.W.kitx_exc hcl C.hg C.hk C.hs C.ha C.hn C.ht C.hm) I.kIn J e (fun z => nomatch z) fun tk => ⟨.bl b, H, I.kept (t' := tk) fun _ _ z => z, rfl, q⟩
/-- such an __init__ that keeps its one argument as the field fld -/
def spKeep (C : Addr) (fld : Str) : Sp := fun vs H Q _ => ∃ (a : Addr) (y : V), vs = [.ref a, y] ∧ (∃ z : Str, y = .str z ∧ z.length ≤ 100000 ∨ ∃ i : Int, y = .int i ∧ i.natAbs.log2 < 1920) ∧ H a = some (exo a C none) ∧
  ∀ dx, H dx = none → dx ≠ a → Q .non (upd (upd H dx (exd dx [(fld, y)])) a (exo a C (some dx)))
/-- C(e): what its making asks behind the argument -/
theorem keep_post {C : Addr} {fld : Str} {y : V} {H1 : Hp} {Q : XK} (hy : ∃ z : Str, y = .str z ∧ z.length ≤ 100000 ∨ ∃ i : Int, y = .int i ∧ i.natAbs.log2 < 1920) (q : ∀ d H', H1 d = none → Evl.Ex H1 H' → H' d = some (.xd [(fld, y)]) → Q (.ref C) (some d) H') :
    ([y] : List V).length ≤ 1000 ∧ ∀ a, H1 a = none → spKeep C fld (.ref a :: ([y] ++ [])) (upd H1 a (exo a C none))
      (fun v H2 => v = .non ∧ ∃ (d : Addr) (fs : List (Str × V)), H2 a = some (exo a C (some d)) ∧ H2 d = some (exd d fs) ∧ H1 d = none ∧ Q (.ref C) (some d) (upd (L2.del H2 a) d (.xd fs))) (fun _ _ _ => False) := by
  refine ⟨by show 1 ≤ 1000; decide, fun a ha => ⟨a, y, rfl, hy, upd_same, fun dx hd ne => ⟨rfl, dx, [(fld, y)], upd_same, ?_, ?_, ?_⟩⟩⟩
  · rw [upd_ne ne, upd_same]
  · rw [upd_ne ne] at hd
    exact hd
  · have hd1 : H1 dx = none := by rw [upd_ne ne] at hd; exact hd
    refine q dx _ hd1 (fun b o hb => ?_) upd_same
    have nb : b ≠ dx := fun z => by rw [z, hd1] at hb; cases hb
    have na : b ≠ a := fun z => by rw [z, ha] at hb; cases hb
    rw [upd_ne nb, L2.del_ne na, upd_ne na, upd_ne nb, upd_ne na]
    exact hb
theorem pmk_keep {X : Cx} {x : Str} {C fI : Addr} {k : Nat} {fd : FuncData} {e : Expr} {es : List Expr} {ta : TA} {p pos : Pos} {ps : List Str} {fld : Str} (T : OexC X.K C) (iC : PySem.W.findIn X.K (.ref C) "__init__" = some (some (.ref fI))) (tI : PySem.W.typeIn X.K (.ref fI) = some (.type "function"))
    (F1 : FnOk X.prog X.w X.K X.mg X.base CX0 k fI fd ps (spKeep C fld)) (hr : Room (k + 1) X.A) (hb : Binds X.K fd ps []) (hg : Gl X x) (hm : X.mg x = some (.ref C)) (ha : PA X (e :: es) ta)
    (hdb : (x == ("__debug__" : Str)) = false := by decide) (he : starEach (e :: es) X.env = (false, eval e X.env) :: starEach es X.env := by rfl) (hpl : (backTo pos (starEach es X.env)).any (·.1) = false := by rfl) :
    PMk X (.Call (.Name x p) (e :: es) [] pos) (tMkO C (spKeep C fld) [] ta) :=
  pmk_oex T iC tI F1 hr hb .nil pass0 hg hm ha hdb he hpl
end SupX

set_option Elab.async false
set_option linter.all false
set_option maxRecDepth 100000
set_option maxHeartbeats 4000000
namespace SupX
open PySem PySem.Spec PyProof.Rows L2
/-- o.m(..) where a wish may look at the caller's slots -/
def tMeT (C : Addr) (m : Str) (sp : Sp) (E : L2.St → XK) (ta : TE) (t : TA) : TE := fun σ H Q =>
  ta σ H fun x H1 => ∃ a dx fs, x = .ref a ∧ H1 a = some (.ins C dx fs) ∧ fs.lookup m = none ∧ t σ H1 fun vs H2 => sp (.ref a :: vs) H2 Q (E σ)
theorem pe_metT {X : Cx} {CX : CXT} {k : Nat} {f C : Addr} {fd : FuncData} {ps : List Str} {sp : Sp} {E : L2.St → XK} {m : Str} {pos apos : Pos} {e o : Expr} {es : List Expr} {ta : TE} {t : TA} {pl : Sem Bool}
    (he : PE X o ta) (c : Cls X.K C) (hm : Meth X.K C m f) (F : FnOk X.prog X.w X.K X.mg X.base CX k f fd ps sp) (hr : Room k X.A) (hb : Binds X.K fd ps []) (hx : ∀ σ, PassesAt CX X σ (E σ)) (ha : PA X (e :: es) t)
    (hst : starEach (e :: es) X.env = (false, eval e X.env) :: starEach es X.env := by rfl) (hpl : (backTo pos (starEach es X.env)).any (·.1) = false := by rfl)
    (ht : eval (.Call (.Attribute o m apos) (e :: es) [] pos) X.env = (do
      let ov ← eval o X.env
      standAt apos.atName
      let (f, first) ← holding [ov] (getMethod ov m pl)
      callWith pos f first (backTo pos (starEach (e :: es) X.env)) (backToKw pos (keywordEach [] X.env))) := by rfl) :
    PE X (.Call (.Attribute o m apos) (e :: es) [] pos) (tMeT C m sp E ta t) := by
  constructor
  intro pins s σ H Q I h
  apply PySem.W.methodCall_KW (pl := pl) _ ht
  apply thn (he.run pins s σ H _ I h)
  rintro u s1 ⟨x, H1, I1, rx, a, dx, fs, rfl, ea, l, q⟩
  cases rx
  apply getmeth_ok I1 ea c hm l
  refine PySem.W.callWith_K (first := [.ref a]) (h₀ := X.base) I.ok.mod.kin hm.kp ?_ hst hpl
  apply thn (ha.run pos pins s1 σ H1 _ I1 q)
  rintro us s2 ⟨vs, H2, I2, r, q2⟩
  exact ⟨I2.kIn, run_fnS (us := .ref a :: us) (vs := .ref a :: vs) F hr hb (hx σ) I2 (.cons rfl r) q2⟩
end SupX

set_option Elab.async false
set_option linter.all false
set_option maxRecDepth 100000
set_option maxHeartbeats 4000000
/-! Tuples whose object is known: their methods can be found. -/
namespace TupX
open PySem PySem.Spec PyProof.Rows L2
/-- a tuple whose object is known to be bare -/
def Bare (H : Hp) (a : Addr) (xs : List V) : Prop := ∃ o : Obj, H a = some (.frz o (.tup xs)) ∧ o.cls = .type "tuple" ∧ o.dict = none
theorem Bare.ex {H H' : Hp} {a : Addr} {xs : List V} (e : Evl.Ex H H') (h : Bare H a xs) : Bare H' a xs := by
  obtain ⟨o, h1, h2⟩ := h
  exact ⟨o, e _ _ h1, h2⟩
theorem Bare.sq {K : PySem.W.Frag} {H : Hp} {a : Addr} {xs : List V} (h : Bare H a xs) : SqT K H a xs := by
  obtain ⟨o, h1, _⟩ := h
  exact .inl (.inr ⟨o, h1⟩)
/-- tuple(a list) -/
def rTupF (K : PySem.W.Frag) : List V → Hp → VK → Prop := fun xs H Q => ∃ p ys, xs = [.ref p] ∧ SqL K H p ys ∧ ∀ l H', H l = none → Evl.Ex H H' → Bare H' l ys → Q (.ref l) H'
theorem call_tupF {X : Cx} : CallR X (.type "tuple") (rTupF X.K) := by
  intro pins s σ H xs us Q I r h
  obtain ⟨p, ys, rfl, hq, q⟩ := h
  obtain ⟨u, rfl, rx⟩ := vals1 r
  cases rx
  obtain ⟨its, vs, pl, hz⟩ := I.list hq
  have hlen := vs.length
  apply call_tuple_list pl.isList _ (by simp only [List.size_toArray] <;> omega)
  intro h' kp
  have I1 : Inv X pins σ H { s with heap := h' } := I.kept (t' := s.toks) kp
  have fr : H h'.objs.size = none := I1.hok.fresh (Nat.le_refl _)
  refine ⟨.ref h'.objs.size, upd H h'.objs.size (.frz { cls := .type "tuple", data := .seq its.toArray } (.tup ys)), I1.laid (t' := s.toks) (fun b o e => Heap.get?_push_of_some _ e) (Nat.le_refl _) ⟨?_, hz, its, vs, IsTup.new _ _⟩, rfl, q _ _ fr (Evl.Ex.new fr) ⟨_, upd_same, rfl, rfl⟩⟩
  exact Heap.get?_push_size _ rfl
/-- the receiver of a tuple's method -/
theorem bare_ty {X : Cx} {pins : List (Addr × Obj)} {σ : L2.St} {H : Hp} {s : Shared} {p : Addr} {xs : List V} (I : Inv X pins σ H s) (h : Bare H p xs) : s.TypeIs (.ref p) "tuple" ∧ ∀ a, Value.ref p = .ref a → ∃ ob, s.heap.get? a = some ob ∧ ob.dict = none := by
  obtain ⟨o, h1, hc, hd⟩ := h
  have g : s.heap.get? p = some o := (I.hok p _ h1).1
  exact ⟨⟨o, g, hc⟩, fun a e => by cases e; exact ⟨o, g, hd⟩⟩
def tBMt (r : V → List V → Hp → VK → Prop) (to : TE) (t : TA) : TE := fun σ H Q => to σ H fun x H1 => ∃ (p : Addr) (ys : List V), x = .ref p ∧ Bare H1 p ys ∧ t σ H1 fun xs H2 => r x xs H2 Q
theorem pe_bmT {X : Cx} {o e : Expr} {es : List Expr} {to : TE} {t : TA} {name : Str} {apos cpos : Pos} {id : String} {r : V → List V → Hp → VK → Prop} (pa : PlainAttrs "tuple") (slot : Slot "tuple" name id) (hty : typeOf (.builtin id) = pure (.type "method_descriptor")) (hm : MtR X id r) (ho : PE X o to) (ha : PA X (e :: es) t)
    (hbase : attributeBase o name X.env (eval o X.env) = eval o X.env := by rfl)
    (hfew : ((backTo cpos (starEach (e :: es) X.env)).all (fun x => !x.1) && (backToKw cpos (keywordEach [] X.env)).all (fun x => x.1.isSome)
      && decide ((e :: es).length + ([] : List Keyword).length + (if ([] : List Keyword).isEmpty then 0 else 1) < 30)) = true := by rfl)
    (hline : (apos.endLine == cpos.line) = true := by rfl) (hs : starEach (e :: es) X.env = (false, eval e X.env) :: starEach es X.env := by rfl) (hplain : (backTo cpos (starEach es X.env)).any (·.1) = false := by rfl) :
    PE X (.Call (.Attribute o name apos) (e :: es) [] cpos) (tBMt r to t) := by
  constructor
  intro pins s σ H Q I h
  apply wpAny_Call_method_late hbase hfew hline rfl
  apply thn (ho.run pins s σ H _ I h)
  rintro v s1 ⟨x, H1, I1, r1, p, ys, rfl, hb, q1⟩
  cases r1
  obtain ⟨h1, h2⟩ := bare_ty I1 hb
  refine ⟨"tuple", id, pa, slot, hty, h1, h2, ?_⟩
  have hA := ha.run cpos pins s1 σ H1 _ I1 q1
  rw [hs] at hA ⊢
  refine Calls.callWith_builtin (by show (false || (backTo cpos (starEach es X.env)).any (·.1)) = false; rw [hplain] <;> rfl) (Calls.evalArgs_plain ?_)
  apply thn hA
  rintro us s2 ⟨vs, H2, I2, r2, q2⟩
  exact hm pins s2 σ H2 (.ref p) vs (.ref p) us Q I2 rfl r2 q2
end TupX

set_option Elab.async false
set_option linter.all false
set_option maxRecDepth 100000
set_option maxHeartbeats 4000000
namespace EV
open PySem PySem.Spec PyProof.Rows L2 EvS
def top (i : Nat) : Stmt := PySem.Challenge.pw_everyfire_k01_questions.main.body.getD i (.Pass ⟨0, 0, 0, 0⟩)
abbrev s_is_name : Stmt := top 14
abbrev s__check_count : Stmt := top 15
abbrev s__check_names : Stmt := top 16
abbrev s__check_ends : Stmt := top 17
abbrev s__as_bounds : Stmt := top 18
abbrev s__as_link : Stmt := top 19
abbrev s__as_path : Stmt := top 20
abbrev s__check_single_paths : Stmt := top 21
abbrev s__is_between : Stmt := top 22
abbrev s_init : Stmt := inClass (top 23) 0
abbrev s_link_names : Stmt := inClass (top 23) 1
abbrev s_check_place : Stmt := inClass (top 23) 2
abbrev s_check_wind : Stmt := inClass (top 23) 3
abbrev s_link : Stmt := inClass (top 23) 4
abbrev s_links_from : Stmt := inClass (top 23) 5
abbrev s_links_to : Stmt := inClass (top 23) 6
abbrev s_bounds : Stmt := inClass (top 23) 7
abbrev s_walks_from : Stmt := inClass (top 23) 8
abbrev s_minutes_between : Stmt := inClass (top 23) 9
abbrev s__law_row : Stmt := top 25
abbrev s__law_numbers : Stmt := top 26
abbrev s__law_pick : Stmt := top 27
abbrev s__law_names : Stmt := top 28
abbrev s__law_count : Stmt := top 29
abbrev s__law_times : Stmt := top 30
abbrev s__law_paths : Stmt := top 31
abbrev s__law_parts : Stmt := top 32
abbrev s__law_made : Stmt := top 33
abbrev s__law_frozen : Stmt := top 34
abbrev s__law_same : Stmt := top 35
abbrev s__law_unknown : Stmt := top 36
abbrev s__law_is_list : Stmt := top 37
abbrev s__law_places : Stmt := top 38
abbrev s__law_answers : Stmt := top 39
abbrev s_law : Stmt := top 40
theorem sc_is_name : FnScope ["text", "sign"] ["text"] (defScope s_is_name) := ⟨rfl, rfl, rfl, by decide +kernel, rfl, by decide +kernel, by decide +kernel⟩
theorem sc__check_count : FnScope ["sort", "rows", "least", "most"] ["sort", "rows", "least", "most"] (defScope s__check_count) := ⟨rfl, rfl, rfl, by decide +kernel, rfl, by decide +kernel, by decide +kernel⟩
theorem sc__check_names : FnScope ["sort", "names", "name"] ["sort", "names"] (defScope s__check_names) := ⟨rfl, rfl, rfl, by decide +kernel, rfl, by decide +kernel, by decide +kernel⟩
theorem sc__check_ends : FnScope ["sort", "one", "other", "places"] ["sort", "one", "other", "places"] (defScope s__check_ends) := ⟨rfl, rfl, rfl, by decide +kernel, rfl, by decide +kernel, by decide +kernel⟩
theorem sc__as_bounds : FnScope ["bounds", "least", "most"] ["bounds"] (defScope s__as_bounds) := ⟨rfl, rfl, rfl, by decide +kernel, rfl, by decide +kernel, by decide +kernel⟩
theorem sc__as_link : FnScope ["link", "winds", "places", "name", "one", "other", "times", "bounds"] ["link", "winds", "places"] (defScope s__as_link) := ⟨rfl, rfl, rfl, by decide +kernel, rfl, by decide +kernel, by decide +kernel⟩
theorem sc__as_path : FnScope ["path", "places", "one", "other", "minutes"] ["path", "places"] (defScope s__as_path) := ⟨rfl, rfl, rfl, by decide +kernel, rfl, by decide +kernel, by decide +kernel⟩
theorem sc__check_single_paths : FnScope ["paths", "ends", "one", "other", "_"] ["paths"] (defScope s__check_single_paths) := ⟨rfl, rfl, rfl, by decide +kernel, rfl, by decide +kernel, by decide +kernel⟩
theorem sc__is_between : FnScope ["path", "one", "other"] ["path", "one", "other"] (defScope s__is_between) := ⟨rfl, rfl, rfl, by decide +kernel, rfl, by decide +kernel, by decide +kernel⟩
theorem sc_init : FnScope ["self", "winds", "places", "links", "paths", "link", "path"] ["self", "winds", "places", "links", "paths"] (defScope s_init) := ⟨rfl, rfl, rfl, by decide +kernel, rfl, by decide +kernel, by decide +kernel⟩
theorem sc_link_names : FnScope ["self", "link"] ["self"] (defScope s_link_names) := ⟨rfl, rfl, rfl, by decide +kernel, rfl, by decide +kernel, by decide +kernel⟩
theorem sc_check_place : FnScope ["self", "place"] ["self", "place"] (defScope s_check_place) := ⟨rfl, rfl, rfl, by decide +kernel, rfl, by decide +kernel, by decide +kernel⟩
theorem sc_check_wind : FnScope ["self", "wind"] ["self", "wind"] (defScope s_check_wind) := ⟨rfl, rfl, rfl, by decide +kernel, rfl, by decide +kernel, by decide +kernel⟩
theorem sc_link : FnScope ["self", "name", "link"] ["self", "name"] (defScope s_link) := ⟨rfl, rfl, rfl, by decide +kernel, rfl, by decide +kernel, by decide +kernel⟩
theorem sc_links_from : FnScope ["self", "place", "link"] ["self", "place"] (defScope s_links_from) := ⟨rfl, rfl, rfl, by decide +kernel, rfl, by decide +kernel, by decide +kernel⟩
theorem sc_links_to : FnScope ["self", "place", "link"] ["self", "place"] (defScope s_links_to) := ⟨rfl, rfl, rfl, by decide +kernel, rfl, by decide +kernel, by decide +kernel⟩
theorem sc_bounds : FnScope ["self", "name", "wind", "times"] ["self", "name", "wind"] (defScope s_bounds) := ⟨rfl, rfl, rfl, by decide +kernel, rfl, by decide +kernel, by decide +kernel⟩
theorem sc_walks_from : FnScope ["self", "place", "walks", "one", "other", "minutes"] ["self", "place"] (defScope s_walks_from) := ⟨rfl, rfl, rfl, by decide +kernel, rfl, by decide +kernel, by decide +kernel⟩
theorem sc_minutes_between : FnScope ["self", "one", "other", "path"] ["self", "one", "other"] (defScope s_minutes_between) := ⟨rfl, rfl, rfl, by decide +kernel, rfl, by decide +kernel, by decide +kernel⟩
theorem sc__law_row : FnScope ["cell", "many", "row", "rest", "mixed", "k"] ["cell", "many"] (defScope s__law_row) := ⟨rfl, rfl, rfl, by decide +kernel, rfl, by decide +kernel, by decide +kernel⟩
theorem sc__law_numbers : FnScope ["script", "many", "cells", "each", "numbers", "cell", "number"] ["script", "many"] (defScope s__law_numbers) := ⟨rfl, rfl, rfl, by decide +kernel, rfl, by decide +kernel, by decide +kernel⟩
theorem sc__law_pick : FnScope ["numbers", "k"] ["numbers", "k"] (defScope s__law_pick) := ⟨rfl, rfl, rfl, by decide +kernel, rfl, by decide +kernel, by decide +kernel⟩
theorem sc__law_names : FnScope ["numbers", "at", "many", "chars", "prefix", "k", "place", "shift", "names", "tail"] ["numbers", "at", "many"] (defScope s__law_names) := ⟨rfl, rfl, rfl, by decide +kernel, rfl, by decide +kernel, by decide +kernel⟩
theorem sc__law_count : FnScope ["number", "least", "most"] ["number", "least", "most"] (defScope s__law_count) := ⟨rfl, rfl, rfl, by decide +kernel, rfl, by decide +kernel, by decide +kernel⟩
theorem sc__law_times : FnScope ["numbers", "k", "many", "times", "n", "first", "last"] ["numbers", "k", "many"] (defScope s__law_times) := ⟨rfl, rfl, rfl, by decide +kernel, rfl, by decide +kernel, by decide +kernel⟩
theorem sc__law_paths : FnScope ["numbers", "k", "places", "many", "pairs", "n", "other", "turn", "paths", "one"] ["numbers", "k", "places", "many"] (defScope s__law_paths) := ⟨rfl, rfl, rfl, by decide +kernel, rfl, by decide +kernel, by decide +kernel⟩
theorem sc__law_parts : FnScope ["numbers", "winds", "places", "names", "links", "k", "at", "one", "other"] ["numbers"] (defScope s__law_parts) := ⟨rfl, rfl, rfl, by decide +kernel, rfl, by decide +kernel, by decide +kernel⟩
theorem sc__law_made : FnScope ["parts"] ["parts"] (defScope s__law_made) := ⟨rfl, rfl, rfl, by decide +kernel, rfl, by decide +kernel, by decide +kernel⟩
theorem sc__law_frozen : FnScope ["parts", "links", "name", "one", "other", "times", "found", "pair", "path"] ["parts"] (defScope s__law_frozen) := ⟨rfl, rfl, rfl, by decide +kernel, rfl, by decide +kernel, by decide +kernel⟩
theorem sc__law_same : FnScope ["land", "due"] ["land", "due"] (defScope s__law_same) := ⟨rfl, rfl, rfl, by decide +kernel, rfl, by decide +kernel, by decide +kernel⟩
theorem sc__law_unknown : FnScope ["land", "deed", "first", "second", "e"] ["land", "deed", "first", "second"] (defScope s__law_unknown) := ⟨rfl, rfl, rfl, by decide +kernel, rfl, by decide +kernel, by decide +kernel⟩
theorem sc__law_is_list : FnScope ["actual", "due"] ["actual", "due"] (defScope s__law_is_list) := ⟨rfl, rfl, rfl, by decide +kernel, rfl, by decide +kernel, by decide +kernel⟩
theorem sc__law_places : FnScope ["land", "due", "place", "walks", "one", "other", "minutes", "link"] ["land", "due"] (defScope s__law_places) := ⟨rfl, rfl, rfl, by decide +kernel, rfl, by decide +kernel, by decide +kernel⟩
theorem sc__law_answers : FnScope ["land", "due", "numbers", "link", "k", "one", "other", "minutes", "pairs", "path"] ["land", "due", "numbers"] (defScope s__law_answers) := ⟨rfl, rfl, rfl, by decide +kernel, rfl, by decide +kernel, by decide +kernel⟩
theorem sc_law : FnScope ["script", "numbers", "parts", "due", "land", "wind", "place", "link", "asked", "k", "deed", "name", "strange", "one"] ["script"] (defScope s_law) := ⟨rfl, rfl, rfl, by decide +kernel, rfl, by decide +kernel, by decide +kernel⟩
abbrev s_UnknownName : Stmt := inClass (top 4) 0
structure PF (P : Program) : Prop where
  file : ((P.main.file : Str) == PySem.Challenge.pw_everyfire_k01_questions.main.file) = true
  top : (P.main.scope.names.lookup ("super" : Str)).isSome = false
/-- where the top has put things -/
structure Ad where
  C : Addr
  tl : Addr
  te : Addr
  pr : Addr
  X_EveryfireError : Addr
  X_InvalidLand : Addr
  X_UnknownName : Addr
  f_UnknownName : Addr
  d_UnknownName : FuncData
  cc_UnknownName : Addr
  cd_UnknownName : Addr
  f_is_name : Addr
  d_is_name : FuncData
  f__check_count : Addr
  d__check_count : FuncData
  f__check_names : Addr
  d__check_names : FuncData
  f__check_ends : Addr
  d__check_ends : FuncData
  f__as_bounds : Addr
  d__as_bounds : FuncData
  f__as_link : Addr
  d__as_link : FuncData
  f__as_path : Addr
  d__as_path : FuncData
  f__check_single_paths : Addr
  d__check_single_paths : FuncData
  f__is_between : Addr
  d__is_between : FuncData
  f_init : Addr
  d_init : FuncData
  f_link_names : Addr
  d_link_names : FuncData
  f_check_place : Addr
  d_check_place : FuncData
  f_check_wind : Addr
  d_check_wind : FuncData
  f_link : Addr
  d_link : FuncData
  f_links_from : Addr
  d_links_from : FuncData
  f_links_to : Addr
  d_links_to : FuncData
  f_bounds : Addr
  d_bounds : FuncData
  f_walks_from : Addr
  d_walks_from : FuncData
  f_minutes_between : Addr
  d_minutes_between : FuncData
  f__law_row : Addr
  d__law_row : FuncData
  f__law_numbers : Addr
  d__law_numbers : FuncData
  f__law_pick : Addr
  d__law_pick : FuncData
  f__law_names : Addr
  d__law_names : FuncData
  f__law_count : Addr
  d__law_count : FuncData
  f__law_times : Addr
  d__law_times : FuncData
  f__law_paths : Addr
  d__law_paths : FuncData
  f__law_parts : Addr
  d__law_parts : FuncData
  f__law_made : Addr
  d__law_made : FuncData
  f__law_frozen : Addr
  d__law_frozen : FuncData
  f__law_same : Addr
  d__law_same : FuncData
  f__law_unknown : Addr
  d__law_unknown : FuncData
  f__law_is_list : Addr
  d__law_is_list : FuncData
  f__law_places : Addr
  d__law_places : FuncData
  f__law_answers : Addr
  d__law_answers : FuncData
  f_law : Addr
  d_law : FuncData
structure Txt (K : PySem.W.Frag) (mg : Str → Option Value) (a : Ad) : Prop where
  F_is_name : Fun K "is_name" "is_name" s_is_name a.f_is_name a.d_is_name
  B_is_name : Binds K a.d_is_name ["text"] []
  k_is_name : PySem.W.keepIn K (.ref a.f_is_name) = true
  g_is_name : mg "is_name" = some (.ref a.f_is_name)
  F__check_count : Fun K "_check_count" "_check_count" s__check_count a.f__check_count a.d__check_count
  B__check_count : Binds K a.d__check_count ["sort", "rows", "least", "most"] []
  k__check_count : PySem.W.keepIn K (.ref a.f__check_count) = true
  g__check_count : mg "_check_count" = some (.ref a.f__check_count)
  F__check_names : Fun K "_check_names" "_check_names" s__check_names a.f__check_names a.d__check_names
  B__check_names : Binds K a.d__check_names ["sort", "names"] []
  k__check_names : PySem.W.keepIn K (.ref a.f__check_names) = true
  g__check_names : mg "_check_names" = some (.ref a.f__check_names)
  F__check_ends : Fun K "_check_ends" "_check_ends" s__check_ends a.f__check_ends a.d__check_ends
  B__check_ends : Binds K a.d__check_ends ["sort", "one", "other", "places"] []
  k__check_ends : PySem.W.keepIn K (.ref a.f__check_ends) = true
  g__check_ends : mg "_check_ends" = some (.ref a.f__check_ends)
  F__as_bounds : Fun K "_as_bounds" "_as_bounds" s__as_bounds a.f__as_bounds a.d__as_bounds
  B__as_bounds : Binds K a.d__as_bounds ["bounds"] []
  k__as_bounds : PySem.W.keepIn K (.ref a.f__as_bounds) = true
  g__as_bounds : mg "_as_bounds" = some (.ref a.f__as_bounds)
  F__as_link : Fun K "_as_link" "_as_link" s__as_link a.f__as_link a.d__as_link
  B__as_link : Binds K a.d__as_link ["link", "winds", "places"] []
  k__as_link : PySem.W.keepIn K (.ref a.f__as_link) = true
  g__as_link : mg "_as_link" = some (.ref a.f__as_link)
  F__as_path : Fun K "_as_path" "_as_path" s__as_path a.f__as_path a.d__as_path
  B__as_path : Binds K a.d__as_path ["path", "places"] []
  k__as_path : PySem.W.keepIn K (.ref a.f__as_path) = true
  g__as_path : mg "_as_path" = some (.ref a.f__as_path)
  F__check_single_paths : Fun K "_check_single_paths" "_check_single_paths" s__check_single_paths a.f__check_single_paths a.d__check_single_paths
  B__check_single_paths : Binds K a.d__check_single_paths ["paths"] []
  k__check_single_paths : PySem.W.keepIn K (.ref a.f__check_single_paths) = true
  g__check_single_paths : mg "_check_single_paths" = some (.ref a.f__check_single_paths)
  F__is_between : Fun K "_is_between" "_is_between" s__is_between a.f__is_between a.d__is_between
  B__is_between : Binds K a.d__is_between ["path", "one", "other"] []
  k__is_between : PySem.W.keepIn K (.ref a.f__is_between) = true
  g__is_between : mg "_is_between" = some (.ref a.f__is_between)
  F_init : FunD K "__init__" "Land.__init__" (defArgs s_init) (defBody s_init) (defScope s_init) [] [("links", .ref a.tl), ("paths", .ref a.te)] a.f_init a.d_init
  F_link_names : Fun K "link_names" "Land.link_names" s_link_names a.f_link_names a.d_link_names
  B_link_names : Binds K a.d_link_names ["self"] []
  k_link_names : PySem.W.keepIn K (.ref a.f_link_names) = true
  F_check_place : Fun K "check_place" "Land.check_place" s_check_place a.f_check_place a.d_check_place
  B_check_place : Binds K a.d_check_place ["self", "place"] []
  k_check_place : PySem.W.keepIn K (.ref a.f_check_place) = true
  m_check_place : Meth K a.C "check_place" a.f_check_place
  F_check_wind : Fun K "check_wind" "Land.check_wind" s_check_wind a.f_check_wind a.d_check_wind
  B_check_wind : Binds K a.d_check_wind ["self", "wind"] []
  k_check_wind : PySem.W.keepIn K (.ref a.f_check_wind) = true
  m_check_wind : Meth K a.C "check_wind" a.f_check_wind
  F_link : Fun K "link" "Land.link" s_link a.f_link a.d_link
  B_link : Binds K a.d_link ["self", "name"] []
  k_link : PySem.W.keepIn K (.ref a.f_link) = true
  m_link : Meth K a.C "link" a.f_link
  F_links_from : Fun K "links_from" "Land.links_from" s_links_from a.f_links_from a.d_links_from
  B_links_from : Binds K a.d_links_from ["self", "place"] []
  k_links_from : PySem.W.keepIn K (.ref a.f_links_from) = true
  m_links_from : Meth K a.C "links_from" a.f_links_from
  F_links_to : Fun K "links_to" "Land.links_to" s_links_to a.f_links_to a.d_links_to
  B_links_to : Binds K a.d_links_to ["self", "place"] []
  k_links_to : PySem.W.keepIn K (.ref a.f_links_to) = true
  m_links_to : Meth K a.C "links_to" a.f_links_to
  F_bounds : Fun K "bounds" "Land.bounds" s_bounds a.f_bounds a.d_bounds
  B_bounds : Binds K a.d_bounds ["self", "name", "wind"] []
  k_bounds : PySem.W.keepIn K (.ref a.f_bounds) = true
  m_bounds : Meth K a.C "bounds" a.f_bounds
  F_walks_from : Fun K "walks_from" "Land.walks_from" s_walks_from a.f_walks_from a.d_walks_from
  B_walks_from : Binds K a.d_walks_from ["self", "place"] []
  k_walks_from : PySem.W.keepIn K (.ref a.f_walks_from) = true
  m_walks_from : Meth K a.C "walks_from" a.f_walks_from
  F_minutes_between : Fun K "minutes_between" "Land.minutes_between" s_minutes_between a.f_minutes_between a.d_minutes_between
  B_minutes_between : Binds K a.d_minutes_between ["self", "one", "other"] []
  k_minutes_between : PySem.W.keepIn K (.ref a.f_minutes_between) = true
  m_minutes_between : Meth K a.C "minutes_between" a.f_minutes_between
  F__law_row : Fun K "_law_row" "_law_row" s__law_row a.f__law_row a.d__law_row
  B__law_row : Binds K a.d__law_row ["cell", "many"] []
  k__law_row : PySem.W.keepIn K (.ref a.f__law_row) = true
  g__law_row : mg "_law_row" = some (.ref a.f__law_row)
  F__law_numbers : Fun K "_law_numbers" "_law_numbers" s__law_numbers a.f__law_numbers a.d__law_numbers
  B__law_numbers : Binds K a.d__law_numbers ["script", "many"] []
  k__law_numbers : PySem.W.keepIn K (.ref a.f__law_numbers) = true
  g__law_numbers : mg "_law_numbers" = some (.ref a.f__law_numbers)
  F__law_pick : Fun K "_law_pick" "_law_pick" s__law_pick a.f__law_pick a.d__law_pick
  B__law_pick : Binds K a.d__law_pick ["numbers", "k"] []
  k__law_pick : PySem.W.keepIn K (.ref a.f__law_pick) = true
  g__law_pick : mg "_law_pick" = some (.ref a.f__law_pick)
  F__law_names : Fun K "_law_names" "_law_names" s__law_names a.f__law_names a.d__law_names
  B__law_names : Binds K a.d__law_names ["numbers", "at", "many"] []
  k__law_names : PySem.W.keepIn K (.ref a.f__law_names) = true
  g__law_names : mg "_law_names" = some (.ref a.f__law_names)
  F__law_count : Fun K "_law_count" "_law_count" s__law_count a.f__law_count a.d__law_count
  B__law_count : Binds K a.d__law_count ["number", "least", "most"] []
  k__law_count : PySem.W.keepIn K (.ref a.f__law_count) = true
  g__law_count : mg "_law_count" = some (.ref a.f__law_count)
  F__law_times : Fun K "_law_times" "_law_times" s__law_times a.f__law_times a.d__law_times
  B__law_times : Binds K a.d__law_times ["numbers", "k", "many"] []
  k__law_times : PySem.W.keepIn K (.ref a.f__law_times) = true
  g__law_times : mg "_law_times" = some (.ref a.f__law_times)
  F__law_paths : Fun K "_law_paths" "_law_paths" s__law_paths a.f__law_paths a.d__law_paths
  B__law_paths : Binds K a.d__law_paths ["numbers", "k", "places", "many"] []
  k__law_paths : PySem.W.keepIn K (.ref a.f__law_paths) = true
  g__law_paths : mg "_law_paths" = some (.ref a.f__law_paths)
  F__law_parts : Fun K "_law_parts" "_law_parts" s__law_parts a.f__law_parts a.d__law_parts
  B__law_parts : Binds K a.d__law_parts ["numbers"] []
  k__law_parts : PySem.W.keepIn K (.ref a.f__law_parts) = true
  g__law_parts : mg "_law_parts" = some (.ref a.f__law_parts)
  F__law_made : Fun K "_law_made" "_law_made" s__law_made a.f__law_made a.d__law_made
  B__law_made : Binds K a.d__law_made ["parts"] []
  k__law_made : PySem.W.keepIn K (.ref a.f__law_made) = true
  g__law_made : mg "_law_made" = some (.ref a.f__law_made)
  F__law_frozen : Fun K "_law_frozen" "_law_frozen" s__law_frozen a.f__law_frozen a.d__law_frozen
  B__law_frozen : Binds K a.d__law_frozen ["parts"] []
  k__law_frozen : PySem.W.keepIn K (.ref a.f__law_frozen) = true
  g__law_frozen : mg "_law_frozen" = some (.ref a.f__law_frozen)
  F__law_same : Fun K "_law_same" "_law_same" s__law_same a.f__law_same a.d__law_same
  B__law_same : Binds K a.d__law_same ["land", "due"] []
  k__law_same : PySem.W.keepIn K (.ref a.f__law_same) = true
  g__law_same : mg "_law_same" = some (.ref a.f__law_same)
  F__law_unknown : Fun K "_law_unknown" "_law_unknown" s__law_unknown a.f__law_unknown a.d__law_unknown
  B__law_unknown : Binds K a.d__law_unknown ["land", "deed", "first", "second"] []
  k__law_unknown : PySem.W.keepIn K (.ref a.f__law_unknown) = true
  g__law_unknown : mg "_law_unknown" = some (.ref a.f__law_unknown)
  F__law_is_list : Fun K "_law_is_list" "_law_is_list" s__law_is_list a.f__law_is_list a.d__law_is_list
  B__law_is_list : Binds K a.d__law_is_list ["actual", "due"] []
  k__law_is_list : PySem.W.keepIn K (.ref a.f__law_is_list) = true
  g__law_is_list : mg "_law_is_list" = some (.ref a.f__law_is_list)
  F__law_places : Fun K "_law_places" "_law_places" s__law_places a.f__law_places a.d__law_places
  B__law_places : Binds K a.d__law_places ["land", "due"] []
  k__law_places : PySem.W.keepIn K (.ref a.f__law_places) = true
  g__law_places : mg "_law_places" = some (.ref a.f__law_places)
  F__law_answers : Fun K "_law_answers" "_law_answers" s__law_answers a.f__law_answers a.d__law_answers
  B__law_answers : Binds K a.d__law_answers ["land", "due", "numbers"] []
  k__law_answers : PySem.W.keepIn K (.ref a.f__law_answers) = true
  g__law_answers : mg "_law_answers" = some (.ref a.f__law_answers)
  F_law : Fun K "law" "law" s_law a.f_law a.d_law
  B_law : Binds K a.d_law ["script"] []
  k_law : PySem.W.keepIn K (.ref a.f_law) = true
  g_law : mg "law" = some (.ref a.f_law)
  z_abs : mg "abs" = none
  z_all : mg "all" = none
  z_int : mg "int" = none
  z_isinstance : mg "isinstance" = none
  z_len : mg "len" = none
  z_list : mg "list" = none
  z_max : mg "max" = none
  z_min : mg "min" = none
  z_range : mg "range" = none
  z_set : mg "set" = none
  z_sorted : mg "sorted" = none
  z_tuple : mg "tuple" = none
  c_DIGITS : ∃ t, mg "DIGITS" = some (.str "0123456789" t)
  c_LETTERS : ∃ t, mg "LETTERS" = some (.str "abcdefghijklmnopqrstuvwxyz" t)
  c_LONGEST_NAME : ∃ t, mg "LONGEST_NAME" = some (.int 12 t)
  c_MOST_LINKS : ∃ t, mg "MOST_LINKS" = some (.int 60 t)
  c_MOST_MINUTES : ∃ t, mg "MOST_MINUTES" = some (.int 1000 t)
  c_MOST_PATHS : ∃ t, mg "MOST_PATHS" = some (.int 60 t)
  c_MOST_PLACES : ∃ t, mg "MOST_PLACES" = some (.int 24 t)
  c_MOST_WINDS : ∃ t, mg "MOST_WINDS" = some (.int 4 t)
  g_EveryfireError : mg "EveryfireError" = some (.ref a.X_EveryfireError)
  g_InvalidLand : mg "InvalidLand" = some (.ref a.X_InvalidLand)
  g_UnknownName : mg "UnknownName" = some (.ref a.X_UnknownName)
  o_UnknownName : OexC K a.X_UnknownName
  i_UnknownName : PySem.W.findIn K (.ref a.X_UnknownName) "__init__" = some (some (.ref a.f_UnknownName))
  ti_UnknownName : PySem.W.typeIn K (.ref a.f_UnknownName) = some (.type "function")
  B_UnknownName : Binds K a.d_UnknownName ["self", "name"] []
  S_UnknownName : ∀ {P : Program}, PF P → SupX.SupC P K mg a.X_UnknownName a.f_UnknownName a.cc_UnknownName a.cd_UnknownName "__init__" "UnknownName.__init__" "name" (defArgs s_UnknownName) (defBody s_UnknownName) (defScope s_UnknownName) a.d_UnknownName
  xf_UnknownName : XfC K a.X_UnknownName
  nf_UnknownName : PySem.W.findIn K (.ref a.X_UnknownName) "name" = some none
  ec_UnknownName : ExcC K a.X_UnknownName
  kt_UnknownName_EveryfireError : PySem.W.kitOne K (.ref a.X_UnknownName) (.ref a.X_EveryfireError) = some true
  kt_UnknownName_InvalidLand : PySem.W.kitOne K (.ref a.X_UnknownName) (.ref a.X_InvalidLand) = some false
  em_UnknownName_UnknownName : PySem.W.exmOne K (.ref a.X_UnknownName) (.ref a.X_UnknownName) = some true
  cl : Cls K a.C
  mk_Land : Mk K a.C a.f_init
  g_Land : mg "Land" = some (.ref a.C)
  nW : NoAttr K a.C "winds"
  nP : NoAttr K a.C "places"
  nL : NoAttr K a.C "links"
  nA : NoAttr K a.C "paths"
  p_link_names : PropOf K a.C "link_names" a.pr a.f_link_names
  tlT : ∀ H : Hp, SqT K H a.tl []
  teT : ∀ H : Hp, SqT K H a.te []
end EV

set_option Elab.async false
set_option linter.all false
set_option maxRecDepth 100000
set_option maxHeartbeats 4000000
namespace EV
open PySem PySem.Spec PyProof.Rows L2 EvS Evl
def LETS : List Nat := ("abcdefghijklmnopqrstuvwxyz" : Str).cps.toList
def DIGS : List Nat := ("0123456789" : Str).cps.toList
def okSign (c : Nat) : Bool := decide (c ∈ LETS) || decide (c ∈ DIGS)
/-- point 2 -/
def isName (z : Str) : Bool := decide (1 ≤ z.length ∧ z.length ≤ 12) && (z.cps.toList.head?.any fun c => decide (c ∈ LETS)) && z.cps.toList.all okSign
def sp_is_name : Sp := fun vs H Q _ => ∃ z : Str, vs = [.str z] ∧ z.length ≤ 10000 ∧ ∀ H', Ex H H' → Q (.bl (isName z)) H'
section
variable {P : Program} {w : World} {K : PySem.W.Frag} {mg : Str → Option Value} {base : Heap} {a : Ad}
theorem G_is_name (T : Txt K mg a) : FnOk P w K mg base CX0 1 a.f_is_name a.d_is_name ["text"] sp_is_name := by
  refine T.F_is_name.ok sc_is_name (fun vs H Q E h => ?_) (fun cdv A outer s H vs Q E hr h => ?_)
  · obtain ⟨z, rfl, _⟩ := h
    rfl
  · obtain ⟨z, rfl, hz, k⟩ := h
    have hzs : z.length ≤ sizeLine := sz_of (by omega)
    refine ⟨_, (pss_cons (ps_if (pt_not (pt_chain op_le op_le pe_int (pe_callB call_len_str (by rfl) T.z_len PySem.boot_len (pa_cons (pv 0) pa_nil)) (pe_gI rfl T.c_LONGEST_NAME))) (pss_one (ps_ret pe_bl)) pss_nil)
      (pss_one (ps_ret (pe_and (pe_cmpR op_in_sign (pe_ix ix_str (pv 0) pe_int (fun _ _ => rfl)) (pe_gS rfl T.c_LETTERS) rfl) (pe_one (pe_callB (cr_all rfl) (by rfl) T.z_all (by decide +kernel) (pa_cons (pe_lc (own := [("sign", 1)]) (g := gName 1) (tt := tYes) rfl sc_is_name.nd (pi_str (pv 0)) (blkOk_by (N := ["text", "sign"]) (sc := defScope s_is_name) (by decide +kernel)) (fun _ _ _ _ _ => pg_name (i := 1) sc_is_name.nd rfl (Or.inl rfl)) (fun _ _ _ _ _ => pts_nil) (fun _ _ _ _ _ => (pe_or (pe_cmpR op_in_sign (pv 1) (pe_gS rfl T.c_LETTERS) rfl) (pe_one (pe_cmpR op_in_sign (pv 1) (pe_gS rfl T.c_DIGITS) rfl))))) pa_nil))))))), ?_⟩
    have no : ¬ (1 ≤ z.length ∧ z.length ≤ 12) → Q (.bl false) H := fun n => by
      have e : isName z = false := by
        unfold isName
        rw [decide_eq_false n]
        rfl
      have q := k H (Ex.refl H)
      rw [e] at q
      exact q
    refine ⟨_, rfl, _, rfl, hzs, _, _, rfl, rfl, _, rfl, ?_⟩
    refine ite2 (fun h1 => ?_) (fun h1 => ?_)
    · refine ⟨_, _, rfl, rfl, _, rfl, ?_⟩
      have h1' : 1 ≤ z.length := by
        have := of_decide_eq_true h1
        omega
      refine ite2 (fun h2 => ?_) (fun h2 => ?_)
      · exact no (fun n => by simp at h2; omega)
      · have h2' : z.length ≤ 12 := by
          simp at h2
          omega
        have hsz : z.cps.size = z.length := rfl
        obtain ⟨c0, hc0⟩ : ∃ c, z.cps[0]? = some c := ⟨_, Array.getElem?_eq_getElem (by omega)⟩
        have hl0 : z.cps.toList[0]? = some c0 := by rw [Array.getElem?_toList]; exact hc0
        have hh : z.cps.toList.head? = some c0 := by rw [List.head?_eq_getElem?]; exact hl0
        refine ⟨_, rfl, z, 0, c0, rfl, rfl, hzs, ?_, ?_⟩
        · have := atI_nat (j := 0) hl0
          simpa using this
        · refine ⟨c0, _, rfl, rfl, _, rfl, ?_⟩
          have rest : ∀ H', Ex H H' → Q (.bl (decide (c0 ∈ LETS) && z.cps.toList.all okSign)) H' := fun H' e => by
            have q := k H' e
            have ei : isName z = (decide (c0 ∈ LETS) && z.cps.toList.all okSign) := by
              unfold isName
              rw [decide_eq_true (show 1 ≤ z.length ∧ z.length ≤ 12 from ⟨h1', h2'⟩), hh]
              rfl
            rw [ei] at q
            exact q
          refine ite2 (fun h3 => ?_) (fun h3 => ?_)
          · have h3' : decide (c0 ∈ LETS) = true := h3
            rw [h3', Bool.true_and] at rest
            have hlen : z.cps.toList.length = z.cps.size := Array.length_toList
            refine ⟨_, rfl, z, rfl, fun D hD => lcY_sign (fun i H' => H D = none ∧ Ex H H' ∧ H' D = some (.lst ((z.cps.toList.take i).map fun c => V.bl (okSign c)))) ⟨hD, Ex.new hD, upd_same⟩ (fun i c H' hc p => ?_) (fun H' p => ?_)⟩
            · obtain ⟨p1, p2, p3⟩ := p
              have hil : i < z.cps.size := (Array.getElem?_eq_some_iff.mp hc).1
              have hlc : z.cps.toList[i]? = some c := by rw [Array.getElem?_toList]; exact hc
              have stp : (z.cps.toList.take (i + 1)).map (fun c => V.bl (okSign c)) = (z.cps.toList.take i).map (fun c => V.bl (okSign c)) ++ [V.bl (okSign c)] := by
                rw [List.take_add_one, hlc, List.map_append]
                rfl
              have fin : ∃ acc, H' D = some (.lst acc) ∧ acc.length < sizeLine ∧ H D = none ∧ Ex H (upd H' D (.lst (acc ++ [V.bl (okSign c)]))) ∧ (upd H' D (.lst (acc ++ [V.bl (okSign c)]))) D = some (.lst ((z.cps.toList.take (i + 1)).map fun c => V.bl (okSign c))) := by
                refine ⟨_, p3, sz_lt ?_, p1, Ex.mut p2 p1, ?_⟩
                · rw [List.length_map, List.length_take]
                  omega
                · rw [stp]
                  exact upd_same
              refine ⟨rfl, ?_⟩
              refine ⟨_, rfl, c, _, rfl, rfl, _, rfl, ?_⟩
              refine ite2 (fun h5 => ?_) (fun h5 => ?_)
              · have e : okSign c = true := by
                  unfold okSign
                  rw [show decide (c ∈ LETS) = true from h5]
                  rfl
                rw [e] at fin
                exact fin
              · refine ⟨_, rfl, c, _, rfl, rfl, ?_⟩
                have e : okSign c = decide (c ∈ DIGS) := by
                  unfold okSign
                  rw [show decide (c ∈ LETS) = false from Bool.eq_false_iff.mpr h5]
                  rfl
                rw [e] at fin
                exact fin
            · obtain ⟨p1, p2, p3⟩ := p
              rw [← hlen, List.take_length] at p3
              refine ⟨D, z.cps.toList.map okSign, rfl, ?_, ?_⟩
              · rw [List.map_map]
                exact SqL.of p3
              · have q := rest H' p2
                have e : (z.cps.toList.map okSign).all id = z.cps.toList.all okSign := by
                  rw [List.all_map]
                  rfl
                rw [e]
                exact q
          · have h3' : decide (c0 ∈ LETS) = false := Bool.eq_false_iff.mpr h3
            rw [h3', Bool.false_and] at rest
            exact rest H (Ex.refl H)
    · exact ⟨_, rfl, no (fun n => by simp at h1; omega)⟩
end
end EV

set_option Elab.async false
set_option linter.all false
set_option maxRecDepth 100000
set_option maxHeartbeats 4000000
namespace EV
open PySem PySem.Spec PyProof.Rows L2 EvS Evl
def Small (l : List Int) : Prop := ∀ n ∈ l, 0 ≤ n ∧ n < 1009
theorem small_snoc {l : List Int} {n : Int} (h : Small l) (a : 0 ≤ n) (b : n < 1009) : Small (l ++ [n]) := fun x hx => by
  rcases List.mem_append.mp hx with q | q
  · exact h x q
  · rw [List.mem_singleton] at q
    subst q
    exact ⟨a, b⟩
/-- a new list of m small numbers -/
def NewNums (m : Int) (H : Hp) (Q : VK) : Prop := ∀ H' p (ns : List Int), Ex H H' → H p = none → H' p = some (.lst (ns.map V.int)) → (ns.length : Int) = m → Small ns → Q (.ref p) H'
def sp__law_row : Sp := fun vs H Q _ => ∃ (c m : Int), vs = [.int c, .int m] ∧ 0 ≤ m ∧ m ≤ 10000 ∧ NewNums m H Q
def sp__law_numbers (K : PySem.W.Frag) : Sp := fun vs H Q _ => ∃ (p : Addr) (ns : List Int) (m : Int), vs = [.ref p, .int m] ∧ SqL K H p (ns.map V.int) ∧ 0 ≤ m ∧ m ≤ 1000 ∧ NewNums m H Q
theorem cutV_to (xs : List V) (k : Nat) : cutV xs none (some (k : Int)) = xs.take k := by
  unfold cutV
  rw [HT.sIx_nat, HT.sIx_none, List.drop_zero, Nat.sub_zero]
  rcases Nat.le_total k xs.length with h | h
  · rw [Nat.min_eq_left h]
  · rw [Nat.min_eq_right h, List.take_length, List.take_of_length_le h]
section
variable {P : Program} {w : World} {K : PySem.W.Frag} {mg : Str → Option Value} {base : Heap} {a : Ad}
theorem G__law_row (T : Txt K mg a) : FnOk P w K mg base CX0 1 a.f__law_row a.d__law_row ["cell", "many"] sp__law_row := by
  refine T.F__law_row.ok sc__law_row (fun vs H Q E h => ?_) (fun cdv A outer s H vs Q E hr h => ?_)
  · obtain ⟨c, m, rfl, _⟩ := h
    rfl
  · obtain ⟨c, m, rfl, m0, m1, k⟩ := h
    refine ⟨_, (pss_cons (ps_set (i := 2) sc__law_row.nd rfl (Or.inl rfl) (pe_lst pa_nil))
      (pss_cons (ps_set (i := 3) sc__law_row.nd rfl (Or.inl rfl) (pe_callB call_abs (by rfl) T.z_abs (by decide +kernel) (pa_cons (pv 0) pa_nil)))
      (pss_cons (ps_set (i := 4) sc__law_row.nd rfl (Or.inl rfl) (pe_op op_mod (pe_callTy call_int1 (by rfl) T.z_int (by decide +kernel) (pa_cons (pe_op op_add (pe_op op_mul (pv 3) pe_int) pe_int) pa_nil)) pe_int))
      (pss_cons (ps_for PassesOwn.never rfl (pi_range1 (by rfl) T.z_range (pa_cons (pv 1) pa_nil)) (pg_name (i := 5) sc__law_row.nd rfl (Or.inl rfl)) (pss_cons (ps_set (i := 4) sc__law_row.nd rfl (Or.inl rfl) (pe_op op_mod (pe_callTy call_int1 (by rfl) T.z_int (by decide +kernel) (pa_cons (pe_op op_add (pe_op op_mul (pv 4) pe_int) (pe_op op_mul pe_int (pe_op op_add (pv 5) pe_int))) pa_nil)) pe_int))
        (pss_one (ps_if (pt_cmpR op_ge (pe_callB call_abs (by rfl) T.z_abs (by decide +kernel) (pa_cons (pv 0) pa_nil)) (pe_op op_pow pe_int pe_int) (nomark _)) (pss_cons (ps_expr (pe_bm PySem.F.plainAttrs_list PySem.F.slot_list_append PySem.F.type_list_append mt_append (pv 2) (pa_cons (pe_op op_mod (pe_callTy call_int1 (by rfl) T.z_int (by decide +kernel) (pa_cons (pv 3) pa_nil)) pe_int) pa_nil)))
          (pss_one (ps_set (i := 3) sc__law_row.nd rfl (Or.inl rfl) (pe_op op_fdiv (pv 3) pe_int)))) (pss_one (ps_expr (pe_bm PySem.F.plainAttrs_list PySem.F.slot_list_append PySem.F.type_list_append mt_append (pv 2) (pa_cons (pe_op op_mod (pe_callTy call_int1 (by rfl) T.z_int (by decide +kernel) (pa_cons (pe_op op_fdiv (pv 4) pe_int) pa_nil)) pe_int) pa_nil))))))))
      (pss_one (ps_ret (pv 2))))))), ?_⟩
    refine ⟨Nat.zero_le _, fun l hl => ?_⟩
    refine ⟨_, rfl, _, rfl, ?_⟩
    refine ⟨_, rfl, _, _, rfl, rfl, .inr ⟨by decide, by decide⟩, _, _, rfl, rfl, .inl ⟨_, rfl, _, _, rfl, rfl, (by show (0 : Int) < 2147483647; decide), ?_⟩⟩
    refine ⟨_, rfl, _, rfl, by omega, by omega, for_range (n := m.toNat) (fun i σ H' => ∃ (r x : Int) (ns : List Int) (v : Option V), σ = [some (.int c), some (.int m), some (.ref l), some (.int r), some (.int x), v] ∧ Ex H H' ∧ H' l = some (.lst (ns.map V.int)) ∧ ns.length = i ∧ Small ns) ?_ ?_ ?_⟩
    · exact ⟨_, _, [], none, rfl, Ex.new hl, upd_same, rfl, fun n hn => by cases hn⟩
    · rintro i σ H' hi ⟨r, x, ns, v, rfl, e, hL, hlen, hs⟩
      have room : (ns.map V.int).length < sizeLine := sz_lt (by rw [List.length_map]; omega)
      have nx : ∀ (r' x' y : Int), 0 ≤ y → y < 1009 → ∃ (r x : Int) (ns' : List Int) (v' : Option V), [some (V.int c), some (V.int m), some (V.ref l), some (V.int r'), some (V.int x'), some (V.int (0 + (i : Int)))] = [some (V.int c), some (V.int m), some (V.ref l), some (V.int r), some (V.int x), v'] ∧
          Ex H (upd H' l (.lst (ns.map V.int ++ [V.int y]))) ∧ (upd H' l (.lst (ns.map V.int ++ [V.int y]))) l = some (.lst (ns'.map V.int)) ∧ ns'.length = i + 1 ∧ Small ns' := fun r' x' y h0 h1 =>
        ⟨_, _, ns ++ [y], _, rfl, Ex.mut e hl, by rw [upd_same, List.map_append] <;> rfl, by rw [List.length_append, hlen] <;> rfl, small_snoc hs h0 h1⟩
      refine ⟨_, rfl, _, _, rfl, rfl, .inr ⟨by decide, by decide⟩, _, rfl, _, _, rfl, rfl, _, _, rfl, rfl, .inl ⟨by decide, by decide⟩, _, _, rfl, rfl, .inl ⟨_, rfl, _, _, rfl, rfl, (by show (0 : Int) < 2147483629; decide), ?_⟩⟩
      refine ⟨_, rfl, _, rfl, _, _, rfl, rfl, ⟨by decide, by decide, by decide⟩, _, _, rfl, rfl, _, rfl, ?_⟩
      refine ite2 (fun _ => ?_) (fun _ => ?_)
      · refine ⟨_, rfl, .inl ⟨rfl, _, SqL.of hL⟩, _, rfl, .inl ⟨_, rfl, _, _, rfl, rfl, (by show (0 : Int) < 1009; decide), l, _, _, rfl, rfl, hL, room, ?_⟩⟩
        refine ⟨_, rfl, _, _, rfl, rfl, ⟨by decide, by decide⟩, ?_⟩
        exact nx _ _ _ (Int.emod_nonneg _ (by decide)) (Int.emod_lt_of_pos _ (by decide))
      · refine ⟨_, rfl, .inl ⟨rfl, _, SqL.of hL⟩, _, rfl, _, _, rfl, rfl, ⟨by decide, by decide⟩, .inl ⟨_, rfl, _, _, rfl, rfl, (by show (0 : Int) < 1009; decide), l, _, _, rfl, rfl, hL, room, ?_⟩⟩
        exact nx _ _ _ (Int.emod_nonneg _ (by decide)) (Int.emod_lt_of_pos _ (by decide))
    · rintro σ H' ⟨r, x, ns, v, rfl, e, hL, hlen, hs⟩
      exact ⟨_, rfl, k H' l ns e hl hL (by omega) hs⟩
theorem G__law_numbers (T : Txt K mg a) : FnOk P w K mg base CX0 2 a.f__law_numbers a.d__law_numbers ["script", "many"] (sp__law_numbers K) := by
  refine T.F__law_numbers.ok sc__law_numbers (fun vs H Q E h => ?_) (fun cdv A outer s H vs Q E hr h => ?_)
  · obtain ⟨p, ns, m, rfl, _⟩ := h
    rfl
  · obtain ⟨p, ns, m, rfl, hS, m0, m1, k⟩ := h
    refine ⟨_, (pss_cons (ps_set (i := 2) sc__law_numbers.nd rfl (Or.inl rfl) (pe_slice sl_list (pv 0) po_none (po_some pe_int)))
      (pss_cons (ps_set (i := 3) sc__law_numbers.nd rfl (Or.inl rfl) (pe_op op_add pe_int (pe_op op_fdivN (pv 1) (pe_callB (call_max2 rfl) (by rfl) T.z_max (by decide +kernel) (pa_cons pe_int (pa_cons (pe_callB call_len_seq (by rfl) T.z_len PySem.boot_len (pa_cons (pv 2) pa_nil)) pa_nil))))))
      (pss_cons (ps_set (i := 4) sc__law_numbers.nd rfl (Or.inl rfl) (pe_lst pa_nil))
      (pss_cons (ps_for PassesOwn.never rfl (pi_list (pv 2)) (pg_name (i := 5) sc__law_numbers.nd rfl (Or.inl rfl)) (pss_one (ps_for PassesOwn.never rfl (pi_list (pe_call (G__law_row T) (hr.mono (by decide)) (by rfl) T.g__law_row T.k__law_row T.B__law_row .nil pass0 (pa_cons (pv 5) (pa_cons (pv 3) pa_nil)))) (pg_name (i := 6) sc__law_numbers.nd rfl (Or.inl rfl)) (pss_one (ps_expr (pe_bm PySem.F.plainAttrs_list PySem.F.slot_list_append PySem.F.type_list_append mt_append (pv 4) (pa_cons (pv 6) pa_nil)))))))
      (pss_cons (ps_while PassesOwn.never (pt_cmpR op_lt (pe_callB call_len_seq (by rfl) T.z_len PySem.boot_len (pa_cons (pv 4) pa_nil)) (pv 1) (nomark _)) (pss_one (ps_expr (pe_bm PySem.F.plainAttrs_list PySem.F.slot_list_append PySem.F.type_list_append mt_append (pv 4) (pa_cons pe_int pa_nil)))))
      (pss_one (ps_ret (pe_slice sl_list (pv 4) po_none (po_some (pv 1)))))))))), ?_⟩
    -- cells = script[:63]
    refine ⟨_, rfl, _, rfl, p, _, rfl, hS, fun q hq => ?_⟩
    have hcs : cutV (ns.map V.int) none (some ((63 : Nat) : Int)) = (ns.take 63).map V.int := by
      rw [cutV_to, List.map_take]
    show tSeq _ _ _ _ (upd H q (.lst (cutV (ns.map V.int) none (some ((63 : Nat) : Int)))))
    rw [hcs]
    generalize hcd : ns.take 63 = cs
    have hcl : cs.length ≤ 63 := by
      rw [← hcd, List.length_take]
      omega
    have hlc : (cs.map V.int).length = cs.length := List.length_map ..
    have e1 : Ex H (upd H q (.lst (cs.map V.int))) := Ex.new hq
    -- each = 1 + many // max(1, len(cells))
    refine ⟨_, rfl, _, rfl, q, _, rfl, .inl (SqL.of upd_same), _, _, rfl, _, _, rfl, rfl, ⟨?_, ?_⟩, _, _, rfl, rfl, ?_⟩
    · split <;> omega
    · rw [hlc]
      split <;> omega
    generalize hd : (if ((cs.map V.int).length : Int) > 1 then ((cs.map V.int).length : Int) else 1) = d
    have d1 : 1 ≤ d := by
      rw [← hd]
      split <;> omega
    have f0 : 0 ≤ m.fdiv d := by
      rw [Int.fdiv_eq_ediv_of_nonneg _ (by omega)]
      exact Int.ediv_nonneg m0 (by omega)
    have f1 : m.fdiv d ≤ 1000 := by
      rw [Int.fdiv_eq_ediv_of_nonneg _ (by omega)]
      exact Int.le_trans (Int.ediv_le_self _ m0) m1
    generalize m.fdiv d = f at f0 f1
    -- numbers = []
    refine ⟨Nat.zero_le _, fun l hl => ?_⟩
    have hlH : H l = none := fresh_back e1 hl
    have nql : q ≠ l := ne_of_none upd_same hl
    have nlq : l ≠ q := Ne.symm nql
    refine ⟨_, rfl, q, rfl, ⟨_, SqL.of (by rw [upd_ne nql]; exact upd_same)⟩, for_list (K := K) (a := q) (xs := cs.map V.int) (fun i σ H' => ∃ (ks : List Int) (v5 v6 : Option V), σ = [some (.ref p), some (.int m), some (.ref q), some (.int (1 + f)), some (.ref l), v5, v6] ∧
      Ex H H' ∧ H' q = some (.lst (cs.map V.int)) ∧ H' l = some (.lst (ks.map V.int)) ∧ ks.length ≤ i * 1001 ∧ Small ks) ?_ ?_ ?_ ?_⟩
    · exact ⟨[], none, none, rfl, e1.trans (Ex.new hl), by rw [upd_ne nql]; exact upd_same, upd_same, by simp, fun n hn => by cases hn⟩
    · rintro i σ H' _ ⟨ks, v5, v6, rfl, e, hQ, hL, _⟩
      exact SqL.of hQ
    · rintro i y σ H' hi ⟨ks, v5, v6, rfl, e, hQ, hL, hn, hs⟩
      have hi63 : i < cs.length := by
        have z := (List.getElem?_eq_some_iff.mp hi).1
        rw [hlc] at z
        exact z
      obtain ⟨c, rfl⟩ : ∃ c, y = V.int c := by
        rw [List.getElem?_map] at hi
        cases z : cs[i]? with
        | none =>
          rw [z] at hi
          cases hi
        | some c =>
          rw [z] at hi
          exact ⟨c, (Option.some.inj hi).symm⟩
      -- for number in _law_row(cell, each)
      refine ⟨_, rfl, _, rfl, c, 1 + f, rfl, by omega, by omega, fun H2 r rs e2 hr hR hrl hrs => ⟨r, rfl, ⟨_, SqL.of hR⟩, ?_⟩⟩
      have nrl : r ≠ l := Ne.symm (ne_of_none hL hr)
      have nrq : q ≠ r := ne_of_none hQ hr
      have nlr : l ≠ r := Ne.symm nrl
      refine for_list (K := K) (a := r) (xs := rs.map V.int) (fun j σ H' => ∃ (ks' : List Int) (v6 : Option V), σ = [some (.ref p), some (.int m), some (.ref q), some (.int (1 + f)), some (.ref l), some (.int c), v6] ∧
        Ex H H' ∧ H' q = some (.lst (cs.map V.int)) ∧ H' r = some (.lst (rs.map V.int)) ∧ H' l = some (.lst (ks'.map V.int)) ∧ ks'.length = ks.length + j ∧ Small ks') ?_ ?_ ?_ ?_
      · exact ⟨ks, v6, rfl, e.trans e2, e2 _ _ hQ, hR, e2 _ _ hL, rfl, hs⟩
      · rintro j σ H' _ ⟨ks', v6, rfl, _, _, h3, _⟩
        exact SqL.of h3
      · rintro j y σ H' hj ⟨ks', v6, rfl, e3, hQ3, hR3, hL3, hn3, hs3⟩
        have hjr : j < rs.length := by
          have z := (List.getElem?_eq_some_iff.mp hj).1
          rw [List.length_map] at z
          exact z
        obtain ⟨n, hnm, rfl⟩ : ∃ n, n ∈ rs ∧ y = V.int n := by
          rw [List.getElem?_map] at hj
          cases z : rs[j]? with
          | none =>
            rw [z] at hj
            cases hj
          | some n =>
            rw [z] at hj
            exact ⟨n, List.mem_of_getElem? z, (Option.some.inj hj).symm⟩
        refine ⟨_, rfl, .inl ⟨rfl, _, SqL.of hL3⟩, _, rfl, l, _, _, rfl, rfl, hL3, sz_lt (by rw [List.length_map]; omega), ?_⟩
        exact ⟨ks' ++ [n], _, rfl, Ex.mut e3 hlH, by rw [upd_ne nql]; exact hQ3, by rw [upd_ne nrl]; exact hR3, by rw [upd_same, List.map_append] <;> rfl, by rw [List.length_append, hn3] <;> rfl, small_snoc hs3 (hrs n hnm).1 (hrs n hnm).2⟩
      · rintro σ H' ⟨ks', v6, rfl, e3, hQ3, hR3, hL3, hn3, hs3⟩
        rw [List.length_map] at hn3
        exact ⟨ks', _, _, rfl, e3, hQ3, hL3, by omega, hs3⟩
    · rintro σ H' ⟨ks, v5, v6, rfl, e, hQ, hL, hn, hs⟩
      rw [hlc] at hn
      -- while len(numbers) < many
      refine ⟨fun j σ H' => ∃ ks' : List Int, j = (m.toNat - ks'.length) ∧ σ = [some (.ref p), some (.int m), some (.ref q), some (.int (1 + f)), some (.ref l), v5, v6] ∧ Ex H H' ∧ H' l = some (.lst (ks'.map V.int)) ∧ ks'.length ≤ 70000 ∧ Small ks',
        ⟨_, ks, rfl, rfl, e, hL, by omega, hs⟩, ?_⟩
      rintro j σ H' ⟨ks', rfl, rfl, e3, hL3, hn3, hs3⟩
      have hlk : (ks'.map V.int).length = ks'.length := List.length_map ..
      refine ⟨_, rfl, l, _, rfl, .inl (SqL.of hL3), _, rfl, _, _, rfl, rfl, _, rfl, ?_⟩
      refine ite2 (fun lt => ?_) (fun ge => ?_)
      · have lt' : (ks'.length : Int) < m := by
          have z := of_decide_eq_true lt
          rw [hlk] at z
          exact z
        refine ⟨_, fun σ' H' z => z, ?_⟩
        refine ⟨_, rfl, .inl ⟨rfl, _, SqL.of hL3⟩, l, _, _, rfl, rfl, hL3, sz_lt (by rw [hlk]; omega), ?_⟩
        exact ⟨_, by show m.toNat - (ks' ++ [0]).length < _; rw [List.length_append, List.length_singleton]; omega, ks' ++ [0], rfl, rfl, Ex.mut e3 hlH, by rw [upd_same, List.map_append] <;> rfl, by rw [List.length_append, List.length_singleton]; omega, small_snoc hs3 (by decide) (by decide)⟩
      · have ge' : m ≤ (ks'.length : Int) := by
          have z : ¬ ((ks'.map V.int).length : Int) < m := fun z => ge (decide_eq_true z)
          rw [hlk] at z
          omega
        -- return numbers[:many]
        refine ⟨_, rfl, _, rfl, _, rfl, l, _, rfl, SqL.of hL3, fun u hu => ?_⟩
        have em : m = ((m.toNat : Nat) : Int) := by omega
        have hcu : cutV (ks'.map V.int) none (some m) = (ks'.take m.toNat).map V.int := by
          rw [em, cutV_to, List.map_take]
          rfl
        show Q (.ref u) (upd H' u (.lst (cutV (ks'.map V.int) none (some m))))
        rw [hcu]
        refine k _ u (ks'.take m.toNat) (e3.trans (Ex.new hu)) (fresh_back e3 hu) upd_same ?_ (fun x hx => hs3 x (List.mem_of_mem_take hx))
        rw [List.length_take]
        omega
end
end EV

set_option Elab.async false
set_option linter.all false
set_option maxRecDepth 100000
set_option maxHeartbeats 4000000
namespace EV
open PySem PySem.Spec PyProof.Rows L2 EvS Evl
/-! ### the data of a land -/
structure Link where
  n : Str
  o : Str
  t : Str
  ts : List (Option (Int × Int))
structure LandD where
  ws : List Str
  ps : List Str
  ls : List Link
  pa : List (Str × Str × Int)
def dTime : Option (Int × Int) → PyData
  | none => .none
  | some b => .tuple [.int b.1, .int b.2]
def dRaw (k : Link) : PyData := .tuple [.str k.n, .str k.o, .str k.t, .list (k.ts.map dTime)]
def dLink (k : Link) : PyData := .tuple [.str k.n, .str k.o, .str k.t, .tuple (k.ts.map dTime)]
def dPath (p : Str × Str × Int) : PyData := .tuple [.str p.1, .str p.2.1, .int p.2.2]
def dParts (D : LandD) : PyData := .list [.list (D.ws.map .str), .list (D.ps.map .str), .list (D.ls.map dRaw), .list (D.pa.map dPath)]
def dLand (D : LandD) : PyData := .tuple [.tuple (D.ws.map .str), .tuple (D.ps.map .str), .tuple (D.ls.map dLink), .tuple (D.pa.map dPath)]
def Good (ns : List Str) : Prop := (∀ n ∈ ns, isName n = true) ∧ ns.Nodup
def TimeOk : Option (Int × Int) → Prop
  | none => True
  | some b => 1 ≤ b.1 ∧ b.1 ≤ b.2 ∧ b.2 ≤ 1000
structure LinkOk (ws ps : List Str) (k : Link) : Prop where
  o : k.o ∈ ps
  t : k.t ∈ ps
  ne : k.o ≠ k.t
  len : k.ts.length = ws.length
  ok : ∀ b ∈ k.ts, TimeOk b
structure PathOk (ps : List Str) (p : Str × Str × Int) : Prop where
  o : p.1 ∈ ps
  t : p.2.1 ∈ ps
  ne : p.1 ≠ p.2.1
  lo : 1 ≤ p.2.2
  hi : p.2.2 ≤ 1000
def Apart (p q : Str × Str) : Prop := ¬ [p.1, p.2].Perm [q.1, q.2]
structure LandOk (D : LandD) : Prop where
  w1 : 1 ≤ D.ws.length
  w4 : D.ws.length ≤ 4
  p1 : 1 ≤ D.ps.length
  p24 : D.ps.length ≤ 24
  l60 : D.ls.length ≤ 60
  a60 : D.pa.length ≤ 60
  gw : Good D.ws
  gp : Good D.ps
  gl : Good (D.ls.map (·.n))
  lk : ∀ k ∈ D.ls, LinkOk D.ws D.ps k
  pt : ∀ p ∈ D.pa, PathOk D.ps p
  ap : (D.pa.map fun p => (p.1, p.2.1)).Pairwise Apart
theorem name_len {z : Str} (h : isName z = true) : 1 ≤ z.length ∧ z.length ≤ 12 := by
  unfold isName at h
  rw [Bool.and_eq_true, Bool.and_eq_true] at h
  exact of_decide_eq_true h.1.1
/-! ### data that stands -/
mutual
theorem dp_ex {K : PySem.W.Frag} {H H' : Hp} (e : Ex H H') : ∀ {v : V} {d : PyData}, Dp K H v d → Dp K H' v d
  | _, _, .non => .non
  | _, _, .bl b => .bl b
  | _, _, .int i => .int i
  | _, _, .str x => .str x
  | _, _, .lst h r => .lst (ex_l e h) (dps_ex e r)
  | _, _, .tup h r => .tup (ex_t e h) (dps_ex e r)
theorem dps_ex {K : PySem.W.Frag} {H H' : Hp} (e : Ex H H') : ∀ {vs : List V} {ds : List PyData}, DpAll K H vs ds → DpAll K H' vs ds
  | _, _, .nil => .nil
  | _, _, .cons h r => .cons (dp_ex e h) (dps_ex e r)
end
theorem dps_len {K : PySem.W.Frag} {H : Hp} : ∀ {vs : List V} {ds : List PyData}, DpAll K H vs ds → vs.length = ds.length
  | _, _, .nil => rfl
  | _, _, .cons _ r => congrArg Nat.succ (dps_len r)
theorem dps_at {K : PySem.W.Frag} {H : Hp} : ∀ {vs : List V} {ds : List PyData} {i : Nat} {v : V}, DpAll K H vs ds → vs[i]? = some v → ∃ d, ds[i]? = some d ∧ Dp K H v d
  | _, _, _, _, .nil, h => by simp at h
  | _, _, 0, _, .cons h _, e => by
    simp only [List.getElem?_cons_zero, Option.some.injEq] at e
    subst e
    exact ⟨_, rfl, h⟩
  | _, _, i + 1, _, .cons _ r, e => by
    simp only [List.getElem?_cons_succ] at e
    exact dps_at (i := i) r e
theorem dps_app {K : PySem.W.Frag} {H : Hp} : ∀ {vs us : List V} {ds es : List PyData}, DpAll K H vs ds → DpAll K H us es → DpAll K H (vs ++ us) (ds ++ es)
  | _, _, _, _, .nil, b => b
  | _, _, _, _, .cons h r, b => .cons h (dps_app r b)
theorem dps_one {K : PySem.W.Frag} {H : Hp} {v : V} {d : PyData} (h : Dp K H v d) : DpAll K H [v] [d] := .cons h .nil
theorem dps_str {K : PySem.W.Frag} {H : Hp} : ∀ ns : List Str, DpAll K H (ns.map V.str) (ns.map PyData.str)
  | [] => .nil
  | n :: r => .cons (.str n) (dps_str r)
theorem dps_strs {K : PySem.W.Frag} {H : Hp} : ∀ {ns : List Str} {vs : List V}, DpAll K H vs (ns.map PyData.str) → vs = ns.map V.str
  | [], _, .nil => rfl
  | n :: r, _, .cons h t => by
    cases h
    rw [dps_strs t]
    rfl
def Seq2 (K : PySem.W.Frag) (H : Hp) (p : Addr) (xs : List V) : Prop := SqL K H p xs ∨ SqT K H p xs
theorem Seq2.ex {K : PySem.W.Frag} {H H' : Hp} {p : Addr} {xs : List V} (e : Ex H H') (h : Seq2 K H p xs) : Seq2 K H' p xs := h.elim (fun q => .inl (ex_l e q)) (fun q => .inr (ex_t e q))
/-- a link as it is handed in: its times are a list or a tuple -/
def LinkIn (K : PySem.W.Frag) (H : Hp) (v : V) (k : Link) : Prop := ∃ t u vs, v = .ref t ∧ SqT K H t [.str k.n, .str k.o, .str k.t, .ref u] ∧ Seq2 K H u vs ∧ DpAll K H vs (k.ts.map dTime)
theorem LinkIn.ex {K : PySem.W.Frag} {H H' : Hp} {v : V} {k : Link} (e : Ex H H') (h : LinkIn K H v k) : LinkIn K H' v k := by
  obtain ⟨t, u, vs, rfl, h1, h2, h3⟩ := h
  exact ⟨t, u, vs, rfl, ex_t e h1, h2.ex e, dps_ex e h3⟩
theorem raw_in {K : PySem.W.Frag} {H : Hp} {v : V} {k : Link} (h : Dp K H v (dRaw k)) : LinkIn K H v k := by
  unfold dRaw at h
  cases h with
  | tup hs hr =>
    cases hr with
    | cons a1 hr =>
      cases a1
      cases hr with
      | cons a2 hr =>
        cases a2
        cases hr with
        | cons a3 hr =>
          cases a3
          cases hr with
          | cons a4 hr =>
            cases hr
            cases a4 with
            | lst hl ha => exact ⟨_, _, _, rfl, hs, .inl hl, ha⟩
theorem made_in {K : PySem.W.Frag} {H : Hp} {v : V} {k : Link} (h : Dp K H v (dLink k)) : LinkIn K H v k := by
  unfold dLink at h
  cases h with
  | tup hs hr =>
    cases hr with
    | cons a1 hr =>
      cases a1
      cases hr with
      | cons a2 hr =>
        cases a2
        cases hr with
        | cons a3 hr =>
          cases a3
          cases hr with
          | cons a4 hr =>
            cases hr
            cases a4 with
            | tup hl ha => exact ⟨_, _, _, rfl, hs, .inr hl, ha⟩
theorem path_in {K : PySem.W.Frag} {H : Hp} {v : V} {p : Str × Str × Int} (h : Dp K H v (dPath p)) : ∃ t, v = .ref t ∧ SqT K H t [.str p.1, .str p.2.1, .int p.2.2] := by
  unfold dPath at h
  cases h with
  | tup hs hr =>
    cases hr with
    | cons a1 hr =>
      cases a1
      cases hr with
      | cons a2 hr =>
        cases a2
        cases hr with
        | cons a3 hr =>
          cases a3
          cases hr
          exact ⟨_, rfl, hs⟩
/-- a land as it stands -/
def landFs (wi pl li pa : Addr) : List (Str × V) := putF "paths" (.ref pa) (putF "links" (.ref li) (putF "places" (.ref pl) (putF "winds" (.ref wi) [])))
structure LandAt (K : PySem.W.Frag) (C : Addr) (H : Hp) (x : Addr) (D : LandD) (dx wi pl li pa : Addr) (rows prs : List V) : Prop where
  ob : H x = some (.ins C dx (landFs wi pl li pa))
  wi : TupX.Bare H wi (D.ws.map V.str)
  pl : SqT K H pl (D.ps.map V.str)
  li : SqT K H li rows
  ls : DpAll K H rows (D.ls.map dLink)
  pa : SqT K H pa prs
  ps : DpAll K H prs (D.pa.map dPath)
def IsLand (K : PySem.W.Frag) (C : Addr) (H : Hp) (x : Addr) (D : LandD) : Prop := ∃ dx wi pl li pa rows prs, LandAt K C H x D dx wi pl li pa rows prs
theorem IsLand.ex {K : PySem.W.Frag} {C : Addr} {H H' : Hp} {x : Addr} {D : LandD} (e : Ex H H') (h : IsLand K C H x D) : IsLand K C H' x D := by
  obtain ⟨dx, wi, pl, li, pa, rows, prs, L⟩ := h
  exact ⟨dx, wi, pl, li, pa, rows, prs, e _ _ L.ob, L.wi.ex e, ex_t e L.pl, ex_t e L.li, dps_ex e L.ls, ex_t e L.pa, dps_ex e L.ps⟩
theorem fs_winds (wi pl li pa : Addr) : (landFs wi pl li pa).lookup ("winds" : Str) = some (V.ref wi) := by
  unfold landFs
  rw [lookup_putF, if_neg (by decide +kernel), lookup_putF, if_neg (by decide +kernel), lookup_putF, if_neg (by decide +kernel), lookup_putF, if_pos rfl]
theorem fs_places (wi pl li pa : Addr) : (landFs wi pl li pa).lookup ("places" : Str) = some (V.ref pl) := by
  unfold landFs
  rw [lookup_putF, if_neg (by decide +kernel), lookup_putF, if_neg (by decide +kernel), lookup_putF, if_pos rfl]
theorem fs_links (wi pl li pa : Addr) : (landFs wi pl li pa).lookup ("links" : Str) = some (V.ref li) := by
  unfold landFs
  rw [lookup_putF, if_neg (by decide +kernel), lookup_putF, if_pos rfl]
theorem fs_paths (wi pl li pa : Addr) : (landFs wi pl li pa).lookup ("paths" : Str) = some (V.ref pa) := by
  unfold landFs
  rw [lookup_putF, if_pos rfl]
/-! ### the checks, where all is well -/
theorem flat_str (ys : List Str) : (ys.map V.str).all flatV = true := by
  rw [List.all_map]
  exact List.all_eq_true.mpr fun _ _ => rfl
theorem inV_str {z : Str} {ys : List Str} (h : z ∈ ys) : inV (.str z) (ys.map V.str) = true := by
  unfold inV
  rw [List.any_map, List.any_eq_true]
  refine ⟨z, h, ?_⟩
  show (z == z) = true
  exact beq_self_eq_true z
def sp__check_count (K : PySem.W.Frag) : Sp := fun vs H Q _ => ∃ (z : Str) (p : Addr) (xs : List V) (lo hi : Int), vs = [.str z, .ref p, .int lo, .int hi] ∧ Seq2 K H p xs ∧ lo ≤ xs.length ∧ (xs.length : Int) ≤ hi ∧ Q .non H
def sp__check_names (K : PySem.W.Frag) : Sp := fun vs H Q _ => ∃ (z : Str) (p : Addr) (ns : List Str), vs = [.str z, .ref p] ∧ Seq2 K H p (ns.map V.str) ∧ ns.length ≤ 1000 ∧ Good ns ∧ ∀ H', Ex H H' → Q .non H'
def sp__check_ends (K : PySem.W.Frag) : Sp := fun vs H Q _ => ∃ (z one other : Str) (p : Addr) (ps : List Str), vs = [.str z, .str one, .str other, .ref p] ∧ Seq2 K H p (ps.map V.str) ∧ one ∈ ps ∧ other ∈ ps ∧ one ≠ other ∧ Q .non H
def sp__as_bounds (K : PySem.W.Frag) : Sp := fun vs H Q _ => ∃ (v : V) (b : Option (Int × Int)), vs = [v] ∧ Dp K H v (dTime b) ∧ TimeOk b ∧ ∀ v' H', Ex H H' → Dp K H' v' (dTime b) → Q v' H'
def sp__as_link (K : PySem.W.Frag) : Sp := fun vs H Q _ => ∃ (v : V) (wi pl : Addr) (ws ps : List Str) (k : Link), vs = [v, .ref wi, .ref pl] ∧ LinkIn K H v k ∧ Seq2 K H wi (ws.map V.str) ∧ Seq2 K H pl (ps.map V.str) ∧ LinkOk ws ps k ∧ ws.length ≤ 100 ∧
  ∀ H' p, Ex H H' → H p = none → Dp K H' (.ref p) (dLink k) → Q (.ref p) H'
def sp__as_path (K : PySem.W.Frag) : Sp := fun vs H Q _ => ∃ (v : V) (pl : Addr) (ps : List Str) (p : Str × Str × Int), vs = [v, .ref pl] ∧ Dp K H v (dPath p) ∧ Seq2 K H pl (ps.map V.str) ∧ PathOk ps p ∧ ∀ H' q, Ex H H' → H q = none → Dp K H' (.ref q) (dPath p) → Q (.ref q) H'
def sp__check_single_paths (K : PySem.W.Frag) : Sp := fun vs H Q _ => ∃ (p : Addr) (prs : List V) (pa : List (Str × Str × Int)), vs = [.ref p] ∧ SqT K H p prs ∧ DpAll K H prs (pa.map dPath) ∧ pa.length ≤ 60 ∧ (pa.map fun p => (p.1, p.2.1)).Pairwise Apart ∧ ∀ H', Ex H H' → Q .non H'
def sp_link_names (K : PySem.W.Frag) (C : Addr) : Sp := fun vs H Q _ => ∃ (x dx : Addr) (fs : List (Str × V)) (l : Addr) (rows : List V) (ls : List Link), vs = [.ref x] ∧ H x = some (.ins C dx fs) ∧ fs.lookup ("links" : Str) = some (V.ref l) ∧ SqT K H l rows ∧ DpAll K H rows (ls.map dLink) ∧ ls.length ≤ 1000 ∧
  ∀ H' p, Ex H H' → H p = none → H' p = some (.tup ((ls.map (·.n)).map V.str)) → Q (.ref p) H'
section
variable {P : Program} {w : World} {K : PySem.W.Frag} {mg : Str → Option Value} {base : Heap} {a : Ad}
theorem G__check_count (T : Txt K mg a) : FnOk P w K mg base CX0 1 a.f__check_count a.d__check_count ["sort", "rows", "least", "most"] (sp__check_count K) := by
  refine T.F__check_count.ok sc__check_count (fun vs H Q E h => ?_) (fun cdv A outer s H vs Q E hr h => ?_)
  · obtain ⟨z, p, xs, lo, hi, rfl, _⟩ := h
    rfl
  · obtain ⟨z, p, xs, lo, hi, rfl, hS, h1, h2, k⟩ := h
    refine ⟨_, (pss_one (ps_if (pt_not (pt_chain op_le op_le (pv 2) (pe_callB call_len_seq (by rfl) T.z_len PySem.boot_len (pa_cons (pv 1) pa_nil)) (pv 3))) pss_any pss_nil)), ?_⟩
    refine ⟨_, rfl, _, rfl, p, _, rfl, hS, _, _, rfl, rfl, _, rfl, ?_⟩
    refine ite2 (fun _ => ?_) (fun n => absurd (decide_eq_true h1) n)
    exact ⟨_, rfl, _, _, rfl, rfl, _, rfl, iteNS h2 k⟩
theorem G__check_names (T : Txt K mg a) : FnOk P w K mg base CX0 2 a.f__check_names a.d__check_names ["sort", "names"] (sp__check_names K) := by
  refine T.F__check_names.ok sc__check_names (fun vs H Q E h => ?_) (fun cdv A outer s H vs Q E hr h => ?_)
  · obtain ⟨z, p, ns, rfl, _⟩ := h
    rfl
  · obtain ⟨z, p, ns, rfl, hS, hl, hg, k⟩ := h
    refine ⟨_, (pss_cons (ps_for PassesOwn.never rfl (pi_or (pi_list (pv 1)) (pi_tup (pv 1))) (pg_name (i := 2) sc__check_names.nd rfl (Or.inl rfl)) (pss_one (ps_if (pt_not (pt_val (pe_call (G_is_name T) (hr.mono (by decide)) (by rfl) T.g_is_name T.k_is_name T.B_is_name .nil pass0 (pa_cons (pv 2) pa_nil)))) pss_any pss_nil)))
      (pss_one (ps_if (pt_cmpR op_ne (pe_lenSetS rfl (by rfl) T.z_len (by rfl) T.z_set (pv 1)) (pe_callB call_len_seq (by rfl) T.z_len PySem.boot_len (pa_cons (pv 1) pa_nil)) (nomark _)) pss_any pss_nil))), ?_⟩
    have hlen : (ns.map V.str).length = ns.length := List.length_map ..
    have pick : ∀ {i : Nat} {y : V}, (ns.map V.str)[i]? = some y → ∃ n, n ∈ ns ∧ y = .str n := fun {i y} hy => by
      rw [List.getElem?_map] at hy
      cases q : ns[i]? with
      | none =>
        rw [q] at hy
        cases hy
      | some n =>
        rw [q] at hy
        exact ⟨n, List.mem_of_getElem? q, (Option.some.inj hy).symm⟩
    have dl := (dd_len_eq ns [] List.nodup_nil).mpr (by rw [List.nil_append]; exact hg.2)
    rw [List.length_nil, Nat.zero_add] at dl
    rcases hS with hS | hS
    · refine .inl ⟨_, rfl, p, rfl, ⟨_, hS⟩, for_list (K := K) (a := p) (xs := ns.map V.str) (fun i σ H' => ∃ v, σ = [some (V.str z), some (V.ref p), v] ∧ Ex H H') ⟨none, rfl, Ex.refl H⟩ ?_ ?_ ?_⟩
      · rintro i σ H' _ ⟨v, rfl, e⟩
        exact ex_l e hS
      · rintro i y σ H' hy ⟨v, rfl, e⟩
        obtain ⟨n, hn, rfl⟩ := pick hy
        have nl := name_len (hg.1 n hn)
        refine ⟨_, rfl, n, rfl, by omega, fun H2 e2 => ⟨_, rfl, ?_⟩⟩
        rw [hg.1 n hn]
        exact iteF ⟨_, rfl, e.trans e2⟩
      · rintro σ H' ⟨v, rfl, e⟩
        refine ⟨_, rfl, p, ns, rfl, .inl (ex_l e hS), by omega, _, rfl, p, _, rfl, .inl (ex_l e hS), rfl, _, rfl, ?_⟩
        rw [hlen, dl]
        exact iteNS rfl (k _ e)
    · refine .inr ⟨_, rfl, p, rfl, ⟨_, hS⟩, for_tup (K := K) (a := p) (xs := ns.map V.str) (fun i σ H' => ∃ v, σ = [some (V.str z), some (V.ref p), v] ∧ Ex H H') ⟨none, rfl, Ex.refl H⟩ ?_ ?_ ?_⟩
      · rintro i σ H' _ ⟨v, rfl, e⟩
        exact ex_t e hS
      · rintro i y σ H' hy ⟨v, rfl, e⟩
        obtain ⟨n, hn, rfl⟩ := pick hy
        have nl := name_len (hg.1 n hn)
        refine ⟨_, rfl, n, rfl, by omega, fun H2 e2 => ⟨_, rfl, ?_⟩⟩
        rw [hg.1 n hn]
        exact iteF ⟨_, rfl, e.trans e2⟩
      · rintro σ H' ⟨v, rfl, e⟩
        refine ⟨_, rfl, p, ns, rfl, .inr (ex_t e hS), by omega, _, rfl, p, _, rfl, .inr (ex_t e hS), rfl, _, rfl, ?_⟩
        rw [hlen, dl]
        exact iteNS rfl (k _ e)
theorem G__check_ends (T : Txt K mg a) : FnOk P w K mg base CX0 1 a.f__check_ends a.d__check_ends ["sort", "one", "other", "places"] (sp__check_ends K) := by
  refine T.F__check_ends.ok sc__check_ends (fun vs H Q E h => ?_) (fun cdv A outer s H vs Q E hr h => ?_)
  · obtain ⟨z, one, other, p, ps, rfl, _⟩ := h
    rfl
  · obtain ⟨z, one, other, p, ps, rfl, hS, h1, h2, h3, k⟩ := h
    refine ⟨_, (pss_cons (ps_if (PW.pt (pw_or (pt_cmpR op_notIn_seq (pv 1) (pv 3) (by rfl)) (pw_or1 (pt_cmpR op_notIn_seq (pv 2) (pv 3) (by rfl))))) pss_any pss_nil)
      (pss_one (ps_if (pt_cmpR op_eq (pv 1) (pv 2) (nomark _)) pss_any pss_nil))), ?_⟩
    refine ⟨_, rfl, _, rfl, p, _, rfl, hS, rfl, flat_str _, _, rfl, ?_⟩
    rw [inV_str h1]
    refine iteF ⟨_, rfl, _, rfl, p, _, rfl, hS, rfl, flat_str _, _, rfl, ?_⟩
    rw [inV_str h2]
    refine iteF ?_
    refine ⟨_, rfl, _, rfl, rfl, _, rfl, ?_⟩
    rw [decide_eq_false (fun q => h3 (V.str.inj q))]
    exact iteF k
theorem G__as_bounds (T : Txt K mg a) : FnOk P w K mg base CX0 1 a.f__as_bounds a.d__as_bounds ["bounds"] (sp__as_bounds K) := by
  refine T.F__as_bounds.ok sc__as_bounds (fun vs H Q E h => ?_) (fun cdv A outer s H vs Q E hr h => ?_)
  · obtain ⟨v, b, rfl, _⟩ := h
    rfl
  · obtain ⟨v, b, rfl, hv, hok, k⟩ := h
    refine ⟨_, (pss_cons (ps_if (pt_cmpR op_isN (pv 0) pe_non (nomark _)) (pss_one (ps_ret pe_non)) pss_nil)
      (pss_cons (ps_if (pt_cmpR op_ne (pe_callB call_len_seq (by rfl) T.z_len PySem.boot_len (pa_cons (pv 0) pa_nil)) pe_int (nomark _)) pss_any pss_nil)
      (pss_cons (ps_asg (pv 0) (pg_tup (by rfl) (pgs_cons (pg_name (i := 1) sc__as_bounds.nd rfl (Or.inl rfl)) (pgs_cons (pg_name (i := 2) sc__as_bounds.nd rfl (Or.inl rfl)) pgs_nil))))
      (pss_cons (ps_if (pt_not (pt_chain3 op_le op_le op_le pe_int (pv 1) (pv 2) (pe_gI rfl T.c_MOST_MINUTES))) pss_any pss_nil)
      (pss_one (ps_ret (pe_tup (pa_cons (pv 1) (pa_cons (pv 2) pa_nil))))))))), ?_⟩
    cases b with
    | none =>
      cases hv
      exact ⟨_, rfl, rfl, _, rfl, iteT (k .non H (Ex.refl H) .non)⟩
    | some b =>
      obtain ⟨lo, hi⟩ := b
      obtain ⟨o1, o2, o3⟩ := hok
      cases hv with
      | tup hs hr =>
        cases hr with
        | cons a1 hr =>
          cases a1
          cases hr with
          | cons a2 hr =>
            cases a2
            cases hr
            rename_i p
            refine ⟨_, rfl, rfl, _, rfl, iteF ?_⟩
            refine ⟨_, rfl, p, _, rfl, .inr hs, rfl, _, rfl, iteNS rfl ?_⟩
            refine ⟨_, rfl, p, _, rfl, hs, rfl, _, _, rfl, _, _, rfl, rfl, ?_⟩
            refine ⟨_, rfl, _, _, rfl, rfl, _, rfl, ?_⟩
            refine ite2 (fun _ => ?_) (fun n => absurd (decide_eq_true o1) n)
            refine ⟨_, rfl, _, _, rfl, rfl, _, rfl, ?_⟩
            refine ite2 (fun _ => ?_) (fun n => absurd (decide_eq_true o2) n)
            refine ⟨_, _, rfl, rfl, _, rfl, iteNS o3 ?_⟩
            refine ⟨_, rfl, _, rfl, by show 2 ≤ sizeLine; decide, fun q hq => ?_⟩
            exact k _ _ (Ex.new hq) (.tup (st_of upd_same) (.cons (.int lo) (.cons (.int hi) .nil)))
theorem G_link_names (T : Txt K mg a) : FnOk P w K mg base CX0 1 a.f_link_names a.d_link_names ["self"] (sp_link_names K a.C) := by
  refine T.F_link_names.ok sc_link_names (fun vs H Q E h => ?_) (fun cdv A outer s H vs Q E hr h => ?_)
  · obtain ⟨x, dx, fs, l, rows, ls, rfl, _⟩ := h
    rfl
  · obtain ⟨x, dx, fs, l, rows, ls, rfl, hx, hf, hl, hd, hmax, k⟩ := h
    have hlen : rows.length = ls.length := by rw [dps_len hd, List.length_map]
    refine ⟨_, (pss_one (ps_ret (pe_callTy call_tupK (by rfl) T.z_tuple (by decide +kernel) (pa_cons (pe_lc (own := [("link", 1)]) (g := gName 1) (tt := tYes) rfl sc_link_names.nd (pi_tup (pe_fld (pv 0) rfl)) (blkOk_by (N := ["self", "link"]) (sc := defScope s_link_names) (by decide +kernel)) (fun _ _ _ _ _ => pg_name (i := 1) sc_link_names.nd rfl (Or.inl rfl)) (fun _ _ _ _ _ => pts_nil) (fun _ _ _ _ _ => (pe_ix (show IxR _ (rIxT K) from ix_tup) (pv 1) pe_int (fun _ _ => rfl)))) pa_nil)))), ?_⟩
    refine ⟨_, rfl, x, _, dx, fs, _, rfl, hx, T.cl, T.nL, hf, l, rfl, ⟨_, hl⟩, fun D hD => lcY_tup (K := K) (a := l) (xs := rows) (fun i H' => Ex H H' ∧ H' D = some (.lst (((ls.map (·.n)).take i).map V.str))) ⟨Ex.new hD, upd_same⟩ (fun i H' _ p => ex_t p.1 hl) (fun i r H' hi p => ?_) (fun H' p => ?_)⟩
    · obtain ⟨d, hd1, hd2⟩ := dps_at hd hi
      have hil : i < rows.length := (List.getElem?_eq_some_iff.mp hi).1
      obtain ⟨k0, hk0⟩ : ∃ k0, ls[i]? = some k0 := ⟨ls[i]'(by omega), List.getElem?_eq_getElem (by omega)⟩
      rw [List.getElem?_map, hk0] at hd1
      obtain rfl : dLink k0 = d := Option.some.inj hd1
      obtain ⟨t, u, vs, rfl, hT, _, _⟩ := made_in hd2
      refine ⟨rfl, _, rfl, t, _, 0, .str k0.n, rfl, rfl, ex_t p.1 hT, atI_nat (j := 0) rfl, _, p.2, sz_lt (by rw [List.length_map, List.length_take, List.length_map]; omega), Ex.mut p.1 hD, ?_⟩
      rw [upd_same, List.take_add_one, List.getElem?_map, hk0, List.map_append]
      rfl
    · rw [hlen, ← List.length_map (f := (·.n)), List.take_length] at p
      refine ⟨D, _, rfl, .inl ⟨SqL.of p.2, fun q hq => ?_⟩⟩
      exact k _ q (p.1.trans (Ex.new hq)) (fresh_back p.1 hq) upd_same
end
end EV

set_option Elab.async false
set_option linter.all false
set_option maxRecDepth 100000
set_option maxHeartbeats 4000000
namespace EV
open PySem PySem.Spec PyProof.Rows L2 EvS Evl
/-! ### data without lists stands while lists change -/
mutual
def frozen : PyData → Bool
  | .none => true
  | .bool _ => true
  | .int _ => true
  | .str _ => true
  | .tuple ds => frozenAll ds
  | .list _ => false
  | .dict _ => false
def frozenAll : List PyData → Bool
  | [] => true
  | d :: ds => frozen d && frozenAll ds
end
theorem frozenAll_of : ∀ {ds : List PyData}, (∀ d ∈ ds, frozen d = true) → frozenAll ds = true
  | [], _ => by simp [frozenAll]
  | d :: ds, h => by
    rw [frozenAll, h d List.mem_cons_self, frozenAll_of fun x hx => h x (List.mem_cons_of_mem _ hx)]
    rfl
theorem frozen_time (b : Option (Int × Int)) : frozen (dTime b) = true := by cases b <;> simp [dTime, frozen, frozenAll]
theorem frozen_times (ts : List (Option (Int × Int))) : frozenAll (ts.map dTime) = true := frozenAll_of fun d hd => by
  obtain ⟨b, _, rfl⟩ := List.mem_map.mp hd
  exact frozen_time b
theorem frozen_link (k : Link) : frozen (dLink k) = true := by simp [dLink, frozen, frozenAll, frozen_times]
theorem frozen_path (p : Str × Str × Int) : frozen (dPath p) = true := by simp [dPath, frozen, frozenAll]
theorem frozen_links (ls : List Link) : frozenAll (ls.map dLink) = true := frozenAll_of fun d hd => by
  obtain ⟨b, _, rfl⟩ := List.mem_map.mp hd
  exact frozen_link b
theorem frozen_paths (ls : List (Str × Str × Int)) : frozenAll (ls.map dPath) = true := frozenAll_of fun d hd => by
  obtain ⟨b, _, rfl⟩ := List.mem_map.mp hd
  exact frozen_path b
theorem frozen_strs (ls : List Str) : frozenAll (ls.map PyData.str) = true := frozenAll_of fun d hd => by
  obtain ⟨b, _, rfl⟩ := List.mem_map.mp hd
  simp [frozen]
theorem frozen_land (D : LandD) : frozen (dLand D) = true := by simp [dLand, frozen, frozenAll, frozen_links, frozen_paths, frozen_strs]
def ExT (H H' : Hp) : Prop := ∀ a xs, Rd H a (.tup xs) → Rd H' a (.tup xs)
theorem exT_of {H H' : Hp} (e : Ex H H') : ExT H H' := fun _ _ h => ex_rd e h
theorem ExT.trans {H H1 H2 : Hp} (a : ExT H H1) (b : ExT H1 H2) : ExT H H2 := fun x y h => b x y (a x y h)
theorem exT_mut {H : Hp} {l : Addr} {xs ys : List V} (h : H l = some (.lst xs)) : ExT H (upd H l (.lst ys)) := fun a zs r => by
  rcases r with r | ⟨o, r⟩
  · exact .inl (by rw [upd_ne (ne_of r h (by intro z; cases z))]; exact r)
  · exact .inr ⟨o, by rw [upd_ne (ne_of r h (by intro z; cases z))]; exact r⟩
theorem exT_t {K : PySem.W.Frag} {H H' : Hp} {p : Addr} {xs : List V} (e : ExT H H') (h : SqT K H p xs) : SqT K H' p xs := h.elim (fun r => .inl (e _ _ r)) .inr
mutual
theorem dp_exT {K : PySem.W.Frag} {H H' : Hp} (e : ExT H H') : ∀ {v : V} {d : PyData}, Dp K H v d → frozen d = true → Dp K H' v d
  | _, _, .non, _ => .non
  | _, _, .bl b, _ => .bl b
  | _, _, .int i, _ => .int i
  | _, _, .str x, _ => .str x
  | _, _, .lst _ _, f => by simp [frozen] at f
  | _, _, .tup h r, f => .tup (exT_t e h) (dps_exT e r (by simpa [frozen] using f))
theorem dps_exT {K : PySem.W.Frag} {H H' : Hp} (e : ExT H H') : ∀ {vs : List V} {ds : List PyData}, DpAll K H vs ds → frozenAll ds = true → DpAll K H' vs ds
  | _, _, .nil, _ => .nil
  | _, _, .cons h r, f => by
    simp only [frozenAll, Bool.and_eq_true] at f
    exact .cons (dp_exT e h f.1) (dps_exT e r f.2)
end
/-! ### side by side -/
inductive All2 {α β : Type} (R : α → β → Prop) : List α → List β → Prop
  | nil : All2 R [] []
  | cons {a : α} {b : β} {as : List α} {bs : List β} : R a b → All2 R as bs → All2 R (a :: as) (b :: bs)
theorem All2.len {α β : Type} {R : α → β → Prop} : ∀ {as : List α} {bs : List β}, All2 R as bs → as.length = bs.length
  | _, _, .nil => rfl
  | _, _, .cons _ r => congrArg Nat.succ r.len
theorem All2.mono {α β : Type} {R S : α → β → Prop} (f : ∀ a b, R a b → S a b) : ∀ {as : List α} {bs : List β}, All2 R as bs → All2 S as bs
  | _, _, .nil => .nil
  | _, _, .cons h r => .cons (f _ _ h) (r.mono f)
theorem All2.app {α β : Type} {R : α → β → Prop} : ∀ {as cs : List α} {bs ds : List β}, All2 R as bs → All2 R cs ds → All2 R (as ++ cs) (bs ++ ds)
  | _, _, _, _, .nil, b => b
  | _, _, _, _, .cons h r, b => .cons h (r.app b)
theorem All2.at {α β : Type} {R : α → β → Prop} : ∀ {as : List α} {bs : List β} (i : Nat) {a : α}, All2 R as bs → as[i]? = some a → ∃ b, bs[i]? = some b ∧ R a b
  | _, _, _, _, .nil, h => by simp at h
  | _, _, 0, _, .cons h _, e => by
    simp only [List.getElem?_cons_zero, Option.some.injEq] at e
    subst e
    exact ⟨_, rfl, h⟩
  | _, _, i + 1, _, .cons _ r, e => by
    simp only [List.getElem?_cons_succ] at e
    exact r.at i e
theorem all2_dps {β : Type} {K : PySem.W.Frag} {H : Hp} {f : β → PyData} {R : V → β → Prop} (g : ∀ v b, Dp K H v (f b) → R v b) : ∀ {vs : List V} {bs : List β}, DpAll K H vs (bs.map f) → All2 R vs bs
  | _, [], .nil => .nil
  | _, _ :: _, .cons h r => .cons (g _ _ h) (all2_dps g r)
theorem take_one {α : Type} {l : List α} {i : Nat} {x : α} (h : l[i]? = some x) : l.take (i + 1) = l.take i ++ [x] := by
  rw [List.take_add_one, h]
  rfl
section
variable {P : Program} {w : World} {K : PySem.W.Frag} {mg : Str → Option Value} {base : Heap} {a : Ad}
theorem G__as_link (T : Txt K mg a) : FnOk P w K mg base CX0 2 a.f__as_link a.d__as_link ["link", "winds", "places"] (sp__as_link K) := by
  refine T.F__as_link.ok sc__as_link (fun vs H Q E h => ?_) (fun cdv A outer s H vs Q E hr h => ?_)
  · obtain ⟨v, wi, pl, ws, ps, k0, rfl, _⟩ := h
    rfl
  · obtain ⟨v, wi, pl, ws, ps, k0, rfl, hv, hW, hP, ok, hmax, k⟩ := h
    obtain ⟨t, u, vs, rfl, hT, hU, hD0⟩ := hv
    have lv : vs.length = k0.ts.length := by rw [dps_len hD0, List.length_map]
    refine ⟨_, (pss_cons (ps_if (pt_cmpR op_ne (pe_callB call_len_seq (by rfl) T.z_len PySem.boot_len (pa_cons (pv 0) pa_nil)) pe_int (nomark _)) pss_any pss_nil)
      (pss_cons (ps_asg (pv 0) (pg_tup (by rfl) (pgs_cons (pg_name (i := 3) sc__as_link.nd rfl (Or.inl rfl)) (pgs_cons (pg_name (i := 4) sc__as_link.nd rfl (Or.inl rfl)) (pgs_cons (pg_name (i := 5) sc__as_link.nd rfl (Or.inl rfl)) (pgs_cons (pg_name (i := 6) sc__as_link.nd rfl (Or.inl rfl)) pgs_nil))))))
      (pss_cons (ps_expr (pe_call (G__check_ends T) (hr.mono (by decide)) (by rfl) T.g__check_ends T.k__check_ends T.B__check_ends .nil pass0 (pa_cons pe_str (pa_cons (pv 4) (pa_cons (pv 5) (pa_cons (pv 2) pa_nil))))))
      (pss_cons (ps_if (pt_cmpR op_ne (pe_callB call_len_seq (by rfl) T.z_len PySem.boot_len (pa_cons (pv 6) pa_nil)) (pe_callB call_len_seq (by rfl) T.z_len PySem.boot_len (pa_cons (pv 1) pa_nil)) (nomark _)) pss_any pss_nil)
      (pss_one (ps_ret (pe_tup (pa_cons (pv 3) (pa_cons (pv 4) (pa_cons (pv 5) (pa_cons (pe_callTy call_tupK (by rfl) T.z_tuple (by decide +kernel) (pa_cons (pe_lc (own := [("bounds", 7)]) (g := gName 7) (tt := tYes) rfl sc__as_link.nd (pi_or (pi_list (pv 6)) (pi_tup (pv 6))) (blkOk_by (N := ["link", "winds", "places", "name", "one", "other", "times", "bounds"]) (sc := defScope s__as_link) (by decide +kernel)) (fun _ _ _ _ _ => pg_name (i := 7) sc__as_link.nd rfl (Or.inl rfl)) (fun _ _ _ _ _ => pts_nil) (fun _ _ _ _ _ => (pe_call (G__as_bounds T) (hr.mono (by decide)) (by rfl) T.g__as_bounds T.k__as_bounds T.B__as_bounds .nil pass0 (pa_cons (pv 7) pa_nil)))) pa_nil)) pa_nil))))))))))), ?_⟩
    refine ⟨_, rfl, t, _, rfl, .inr hT, rfl, _, rfl, iteNS rfl ?_⟩
    refine ⟨_, rfl, t, _, rfl, hT, rfl, _, _, rfl, _, _, rfl, _, _, rfl, _, _, rfl, rfl, ?_⟩
    refine ⟨_, rfl, _, rfl, _, rfl, _, k0.o, k0.t, pl, ps, rfl, hP, ok.o, ok.t, ok.ne, ?_⟩
    refine ⟨_, rfl, u, _, rfl, hU, _, rfl, wi, _, rfl, hW, rfl, _, rfl, iteNS (by rw [lv, ok.len, List.length_map]) ?_⟩
    refine ⟨_, rfl, _, rfl, _, rfl, ?_⟩
    let Pv : Addr → Nat → Hp → Prop := fun D i H' => Ex H H' ∧ ∃ made, H' D = some (.lst made) ∧ made.length = i ∧ DpAll K H' made ((k0.ts.take i).map dTime)
    have start : ∀ {D : Addr}, H D = none → Pv D 0 (upd H D (.lst [])) := fun hD => ⟨Ex.new hD, [], upd_same, rfl, .nil⟩
    have turn : ∀ {D : Addr} (i : Nat) (y : V) (H' : Hp) (σ : L2.St), H D = none → vs[i]? = some y → Pv D i H' → σ[7]? = some (some y) →
        tCall (sp__as_bounds K) [] E0 (tCons (tVar 7) tNil) σ H' fun y H4 => ∃ acc, H4 D = some (.lst acc) ∧ acc.length < sizeLine ∧ Pv D (i + 1) (upd H4 D (.lst (acc ++ [y]))) := by
      rintro D i y H' σ hD hy ⟨e, made, hm, hl, hd⟩ hs
      obtain ⟨d, hd1, hd2⟩ := dps_at hD0 hy
      have hil : i < vs.length := (List.getElem?_eq_some_iff.mp hy).1
      obtain ⟨b, hb⟩ : ∃ b, k0.ts[i]? = some b := ⟨k0.ts[i]'(by omega), List.getElem?_eq_getElem (by omega)⟩
      rw [List.getElem?_map, hb] at hd1
      obtain rfl : dTime b = d := Option.some.inj hd1
      refine ⟨y, hs, y, b, rfl, dp_ex e hd2, ok.ok b (List.mem_of_getElem? hb), fun v' H6 e6 hv' => ⟨made, e6 _ _ hm, sz_lt (by have := ok.len; omega), (e.trans e6).mut hD, _, upd_same, by rw [List.length_append, hl] <;> rfl, ?_⟩⟩
      rw [take_one hb, List.map_append]
      exact dps_app (dps_exT (exT_mut (e6 _ _ hm)) (dps_ex e6 hd) (frozen_times _)) (dps_one (dp_exT (exT_mut (e6 _ _ hm)) hv' (frozen_time _)))
    have fin : ∀ {D : Addr} {H' : Hp}, Pv D vs.length H' → rTupK K [.ref D] H' fun x H2 => (5 : Nat) - 1 ≤ sizeLine ∧ ∀ p, H2 p = none → Q (.ref p) (upd H2 p (.tup [.str k0.n, .str k0.o, .str k0.t, x])) := by
      rintro D H' ⟨e, made, hm, hl, hd⟩
      rw [lv, List.take_length] at hd
      refine ⟨D, made, rfl, .inl ⟨SqL.of hm, fun q hq => ⟨by decide, fun r hr0 => ?_⟩⟩⟩
      have e1 : Ex H' (upd (upd H' q (.tup made)) r (.tup [.str k0.n, .str k0.o, .str k0.t, .ref q])) := (Ex.new hq).trans (Ex.new hr0)
      have nqr : q ≠ r := ne_of_none upd_same hr0
      exact k _ r (e.trans e1) (fresh_back (e.trans (Ex.new hq)) hr0) (.tup (st_of upd_same) (.cons (.str _) (.cons (.str _) (.cons (.str _) (.cons (.tup (st_of (by rw [upd_ne nqr, upd_same])) (dps_ex e1 hd)) .nil)))))
    rcases hU with hU | hU
    · exact .inl ⟨_, rfl, u, rfl, ⟨_, hU⟩, fun D hD => lcY_list (K := K) (a := u) (xs := vs) (Pv D) (start hD) (fun i H' _ p => ex_l p.1 hU) (fun i y H' hi p => ⟨rfl, turn i y H' _ hD hi p rfl⟩) (fun H' p => fin p)⟩
    · exact .inr ⟨_, rfl, u, rfl, ⟨_, hU⟩, fun D hD => lcY_tup (K := K) (a := u) (xs := vs) (Pv D) (start hD) (fun i H' _ p => ex_t p.1 hU) (fun i y H' hi p => ⟨rfl, turn i y H' _ hD hi p rfl⟩) (fun H' p => fin p)⟩
theorem G__as_path (T : Txt K mg a) : FnOk P w K mg base CX0 2 a.f__as_path a.d__as_path ["path", "places"] (sp__as_path K) := by
  refine T.F__as_path.ok sc__as_path (fun vs H Q E h => ?_) (fun cdv A outer s H vs Q E hr h => ?_)
  · obtain ⟨v, pl, ps, p, rfl, _⟩ := h
    rfl
  · obtain ⟨v, pl, ps, p, rfl, hv, hP, ok, k⟩ := h
    obtain ⟨t, rfl, hT⟩ := path_in hv
    have lo := ok.lo
    have hi := ok.hi
    refine ⟨_, (pss_cons (ps_if (pt_cmpR op_ne (pe_callB call_len_seq (by rfl) T.z_len PySem.boot_len (pa_cons (pv 0) pa_nil)) pe_int (nomark _)) pss_any pss_nil)
      (pss_cons (ps_asg (pv 0) (pg_tup (by rfl) (pgs_cons (pg_name (i := 2) sc__as_path.nd rfl (Or.inl rfl)) (pgs_cons (pg_name (i := 3) sc__as_path.nd rfl (Or.inl rfl)) (pgs_cons (pg_name (i := 4) sc__as_path.nd rfl (Or.inl rfl)) pgs_nil)))))
      (pss_cons (ps_expr (pe_call (G__check_ends T) (hr.mono (by decide)) (by rfl) T.g__check_ends T.k__check_ends T.B__check_ends .nil pass0 (pa_cons pe_str (pa_cons (pv 2) (pa_cons (pv 3) (pa_cons (pv 1) pa_nil))))))
      (pss_cons (ps_if (pt_not (pt_chain op_le op_le pe_int (pv 4) (pe_gI rfl T.c_MOST_MINUTES))) pss_any pss_nil)
      (pss_one (ps_ret (pe_tup (pa_cons (pv 2) (pa_cons (pv 3) (pa_cons (pv 4) pa_nil)))))))))), ?_⟩
    refine ⟨_, rfl, t, _, rfl, .inr hT, rfl, _, rfl, iteNS rfl ?_⟩
    refine ⟨_, rfl, t, _, rfl, hT, rfl, _, _, rfl, _, _, rfl, _, _, rfl, rfl, ?_⟩
    refine ⟨_, rfl, _, rfl, _, rfl, _, p.1, p.2.1, pl, ps, rfl, hP, ok.o, ok.t, ok.ne, ?_⟩
    refine ⟨_, rfl, _, _, rfl, rfl, _, rfl, ?_⟩
    refine ite2 (fun _ => ?_) (fun n => absurd (decide_eq_true lo) n)
    refine ⟨_, _, rfl, rfl, _, rfl, iteNS hi ?_⟩
    refine ⟨_, rfl, _, rfl, _, rfl, by show 3 ≤ sizeLine; decide, fun q hq => ?_⟩
    exact k _ q (Ex.new hq) hq (.tup (st_of upd_same) (.cons (.str _) (.cons (.str _) (.cons (.int _) .nil))))
theorem G__check_single_paths (T : Txt K mg a) : FnOk P w K mg base CX0 1 a.f__check_single_paths a.d__check_single_paths ["paths"] (sp__check_single_paths K) := by
  refine T.F__check_single_paths.ok sc__check_single_paths (fun vs H Q E h => ?_) (fun cdv A outer s H vs Q E hr h => ?_)
  · obtain ⟨p, prs, pa, rfl, _⟩ := h
    rfl
  · obtain ⟨p, prs, pa, rfl, hT, hd, h60, hap, k⟩ := h
    have lp : prs.length = pa.length := by rw [dps_len hd, List.length_map]
    refine ⟨_, (pss_cons (ps_setLc (i := 1) (own := [("one", 2), ("other", 3), ("_", 4)]) (g := gTup K 3 (gCons (gName 2) (gCons (gName 3) (gCons (gName 4) gNil)))) (tt := tYes) rfl sc__check_single_paths.nd rfl rfl (sw_true rfl rfl rfl (by decide +kernel)) (pi_tup (pv 0)) (blkOk_by (N := ["paths", "ends", "one", "other", "_"]) (sc := defScope s__check_single_paths) (by decide +kernel)) (fun _ _ _ _ _ => (pg_tup (by rfl) (pgs_cons (pg_name (i := 2) sc__check_single_paths.nd rfl (Or.inl rfl)) (pgs_cons (pg_name (i := 3) sc__check_single_paths.nd rfl (Or.inl rfl)) (pgs_cons (pg_name (i := 4) sc__check_single_paths.nd rfl (Or.inl rfl)) pgs_nil))))) (fun _ _ _ _ _ => pts_nil) (fun _ _ _ _ _ => (pe_callTy (show CallR _ _ (rTupK K) from call_tupK) (by rfl) T.z_tuple (by decide +kernel) (pa_cons (pe_callB (show CallR _ _ (rSortedS K) from cr_sortedS) (by rfl) T.z_sorted (by decide +kernel) (pa_cons (pe_lst (pa_cons (pv 2) (pa_cons (pv 3) pa_nil))) pa_nil)) pa_nil))))
      (pss_one (ps_if (pt_cmpR op_ne (TxSet.pe_lenSetT hr rfl (by rfl) T.z_len (by rfl) T.z_set (pv 1)) (pe_callB call_len_seq (by rfl) T.z_len PySem.boot_len (pa_cons (pv 1) pa_nil)) (nomark _)) pss_any pss_nil))), ?_⟩
    refine ⟨_, rfl, p, rfl, ⟨_, hT⟩, fun D hD => lcY_tup (K := K) (a := p) (xs := prs) (fun i H' => Ex H H' ∧ ∃ ks : List (Addr × List Str), H' D = some (.lst (ks.map fun p => V.ref p.1)) ∧ (∀ p ∈ ks, H' p.1 = some (.tup (p.2.map V.str))) ∧ All2 (fun q r => q.2.Perm [r.1, r.2.1]) ks (pa.take i))
      ⟨Ex.new hD, [], upd_same, fun p hp => (by cases hp), .nil⟩ (fun i H' _ q => ex_t q.1 hT) (fun i y H' hi q => ?_) (fun H' q => ?_)⟩
    · obtain ⟨e, ks, hks, hat, h2⟩ := q
      have hil : i < prs.length := (List.getElem?_eq_some_iff.mp hi).1
      obtain ⟨d, hd1, hd2⟩ := dps_at hd hi
      obtain ⟨b, hb⟩ : ∃ b, pa[i]? = some b := ⟨pa[i]'(by omega), List.getElem?_eq_getElem (by omega)⟩
      rw [List.getElem?_map, hb] at hd1
      obtain rfl : dPath b = d := Option.some.inj hd1
      obtain ⟨t, rfl, hb2⟩ := path_in hd2
      have lk : ks.length = (pa.take i).length := h2.len
      refine ⟨t, _, rfl, ex_t e hb2, rfl, _, _, rfl, _, _, rfl, _, _, rfl, rfl, rfl, ?_⟩
      refine ⟨_, rfl, _, rfl, by show 2 ≤ sizeLine; decide, fun l hl => ?_⟩
      refine ⟨l, [b.1, b.2.1], rfl, SqL.of upd_same, (by show 2 < 64; decide), fun ys m pm _ hm => ?_⟩
      refine ⟨m, _, rfl, .inl ⟨SqL.of upd_same, fun n hn => ?_⟩⟩
      have e3 : Ex H' (upd (upd (upd H' l (.lst [.str b.1, .str b.2.1])) m (.lst (ys.map V.str))) n (.tup (ys.map V.str))) := ((Ex.new hl).trans (Ex.new hm)).trans (Ex.new hn)
      have hD3 := e3 _ _ hks
      refine ⟨_, hD3, sz_lt (by rw [List.length_map, lk, List.length_take]; omega), (e.trans e3).mut hD, ks ++ [(n, ys)], by rw [upd_same, List.map_append] <;> rfl, fun q hq => ?_, ?_⟩
      · rcases List.mem_append.mp hq with z | z
        · have h3 := e3 _ _ (hat q z)
          rw [upd_ne (ne_of h3 hD3 (by intro z; cases z))]
          exact h3
        · rw [List.mem_singleton.mp z]
          have h3 : (upd (upd (upd H' l (.lst [.str b.1, .str b.2.1])) m (.lst (ys.map V.str))) n (.tup (ys.map V.str))) n = some (.tup (ys.map V.str)) := upd_same
          show (upd _ D _) n = _
          rw [upd_ne (ne_of h3 hD3 (by intro z; cases z))]
          exact h3
      · rw [take_one hb]
        exact h2.app (.cons pm .nil)
    · obtain ⟨e, ks, hks, hat, h2⟩ := q
      rw [lp, List.take_length] at h2
      have lk := h2.len
      have diff : (ks.map (·.2)).Nodup := by
        have go : ∀ {ks : List (Addr × List Str)} {pa : List (Str × Str × Int)}, All2 (fun q r => q.2.Perm [r.1, r.2.1]) ks pa → (pa.map fun p => (p.1, p.2.1)).Pairwise Apart → (ks.map (·.2)).Nodup := by
          intro ks pa h
          induction h with
          | nil => intro _; exact List.nodup_nil
          | @cons q r ks pa h hr ih =>
            intro hp
            rw [List.map_cons, List.pairwise_cons] at hp
            rw [List.map_cons, List.nodup_cons]
            refine ⟨fun hm => ?_, ih hp.2⟩
            obtain ⟨q2, hq2, e2⟩ := List.mem_map.mp hm
            obtain ⟨i, hi, ei⟩ := List.getElem_of_mem hq2
            obtain ⟨r2, hr2, p2⟩ := hr.at i (show ks[i]? = some q2 by rw [List.getElem?_eq_getElem hi, ei])
            refine hp.1 (r2.1, r2.2.1) (List.mem_map.mpr ⟨r2, List.mem_of_getElem? hr2, rfl⟩) ?_
            rw [e2] at p2
            exact h.symm.trans p2
        exact go h2 hap
      refine ⟨_, rfl, D, ks, rfl, SqL.of hks, fun q hq => st_of (hat q hq), by omega, diff, _, rfl, D, _, rfl, .inl (SqL.of hks), rfl, _, rfl, ?_⟩
      rw [List.length_map]
      exact iteNS rfl (k _ e)
end
end EV

set_option Elab.async false
set_option linter.all false
set_option maxRecDepth 100000
set_option maxHeartbeats 4000000
namespace EV
open PySem PySem.Spec PyProof.Rows L2 EvS Evl
/-- a new land of well formed parts -/
def sp_init (K : PySem.W.Frag) (C : Addr) : Sp := fun vs H Q _ => ∃ (H0 : Hp) (x dx wi pl li pa : Addr) (D : LandD) (rows prs : List V), vs = [.ref x, .ref wi, .ref pl, .ref li, .ref pa] ∧ Ex H0 H ∧ H0 x = none ∧ H x = some (.ins C dx []) ∧
  SqL K H0 wi (D.ws.map V.str) ∧ Seq2 K H0 pl (D.ps.map V.str) ∧ Seq2 K H0 li rows ∧ All2 (LinkIn K H0) rows D.ls ∧ Seq2 K H0 pa prs ∧ DpAll K H0 prs (D.pa.map dPath) ∧ LandOk D ∧ ∀ H', Ex H0 H' → IsLand K C H' x D → Q .non H'
theorem bare_ins {H : Hp} {x u : Addr} {C dx : Addr} {fs gs : List (Str × V)} {xs : List V} (h : H x = some (.ins C dx fs)) (b : TupX.Bare H u xs) : TupX.Bare (upd H x (.ins C dx gs)) u xs := by
  obtain ⟨o, h1, h2⟩ := b
  exact ⟨o, by rw [upd_ne (ne_of h1 h (by intro z; cases z))]; exact h1, h2⟩
section
variable {P : Program} {w : World} {K : PySem.W.Frag} {mg : Str → Option Value} {base : Heap} {a : Ad}
theorem G_init (T : Txt K mg a) : FnOk P w K mg base CX0 3 a.f_init a.d_init ["self", "winds", "places", "links", "paths"] (sp_init K a.C) := by
  refine T.F_init.ok sc_init (fun vs H Q E h => ?_) (fun cdv A outer s H vs Q E hr h => ?_)
  · obtain ⟨H0, x, dx, wi, pl, li, pa, D, rows, prs, rfl, _⟩ := h
    rfl
  · obtain ⟨H0, x, dx, wi, pl, li, pa, D, rows, prs, rfl, e0, x0, hx, hW, hP, hL, hLs, hA, hAs, ok, k⟩ := h
    have lw : (D.ws.map V.str).length = D.ws.length := List.length_map ..
    have lp : (D.ps.map V.str).length = D.ps.length := List.length_map ..
    have ll := hLs.len
    have la : prs.length = D.pa.length := by rw [dps_len hAs, List.length_map]
    have b1 := ok.w1
    have b2 := ok.w4
    have b3 := ok.p1
    have b4 := ok.p24
    have b5 := ok.l60
    have b6 := ok.a60
    refine ⟨_, (pss_cons (ps_expr (pe_call (G__check_count T) (hr.mono (by decide)) (by rfl) T.g__check_count T.k__check_count T.B__check_count .nil pass0 (pa_cons pe_str (pa_cons (pv 1) (pa_cons pe_int (pa_cons (pe_gI rfl T.c_MOST_WINDS) pa_nil))))))
      (pss_cons (ps_expr (pe_call (G__check_names T) (hr.mono (by decide)) (by rfl) T.g__check_names T.k__check_names T.B__check_names .nil pass0 (pa_cons pe_str (pa_cons (pv 1) pa_nil))))
      (pss_cons (ps_expr (pe_call (G__check_count T) (hr.mono (by decide)) (by rfl) T.g__check_count T.k__check_count T.B__check_count .nil pass0 (pa_cons pe_str (pa_cons (pv 2) (pa_cons pe_int (pa_cons (pe_gI rfl T.c_MOST_PLACES) pa_nil))))))
      (pss_cons (ps_expr (pe_call (G__check_names T) (hr.mono (by decide)) (by rfl) T.g__check_names T.k__check_names T.B__check_names .nil pass0 (pa_cons pe_str (pa_cons (pv 2) pa_nil))))
      (pss_cons (ps_expr (pe_call (G__check_count T) (hr.mono (by decide)) (by rfl) T.g__check_count T.k__check_count T.B__check_count .nil pass0 (pa_cons pe_str (pa_cons (pv 3) (pa_cons pe_int (pa_cons (pe_gI rfl T.c_MOST_LINKS) pa_nil))))))
      (pss_cons (ps_expr (pe_call (G__check_count T) (hr.mono (by decide)) (by rfl) T.g__check_count T.k__check_count T.B__check_count .nil pass0 (pa_cons pe_str (pa_cons (pv 4) (pa_cons pe_int (pa_cons (pe_gI rfl T.c_MOST_PATHS) pa_nil))))))
      (pss_cons (ps_fld (pv 0) (pe_callTy TupX.call_tupF (by rfl) T.z_tuple (by decide +kernel) (pa_cons (pv 1) pa_nil)) rfl)
      (pss_cons (ps_fld (pv 0) (pe_callTy call_tupS (by rfl) T.z_tuple (by decide +kernel) (pa_cons (pv 2) pa_nil)) rfl)
      (pss_cut (ps_fld (pv 0) (pe_callTy call_tupK (by rfl) T.z_tuple (by decide +kernel) (pa_cons (pe_lc (own := [("link", 5)]) (g := gName 5) (tt := tYes) rfl sc_init.nd (pi_or (pi_list (pv 3)) (pi_tup (pv 3))) (blkOk_by (N := ["self", "winds", "places", "links", "paths", "link", "path"]) (sc := defScope s_init) (by decide +kernel)) (fun _ _ _ _ _ => pg_name (i := 5) sc_init.nd rfl (Or.inl rfl)) (fun _ _ _ _ _ => pts_nil) (fun _ _ _ _ _ => (pe_call (G__as_link T) (hr.mono (by decide)) (by rfl) T.g__as_link T.k__as_link T.B__as_link .nil pass0 (pa_cons (pv 5) (pa_cons (show PE _ _ (tFld K (tVar 0) "winds") from pe_fld (pv 0) rfl) (pa_cons (show PE _ _ (tFld K (tVar 0) "places") from pe_fld (pv 0) rfl) pa_nil)))))) pa_nil)) rfl)
      (pss_cons (ps_expr (pe_call (G__check_names T) (hr.mono (by decide)) (by rfl) T.g__check_names T.k__check_names T.B__check_names .nil pass0 (pa_cons pe_str (pa_cons (pe_prop (pv 0) T.cl T.p_link_names (G_link_names T) (hr.mono (by decide)) T.B_link_names .nil pass0 rfl) pa_nil))))
      (pss_cut (ps_fld (pv 0) (pe_callTy call_tupK (by rfl) T.z_tuple (by decide +kernel) (pa_cons (pe_lc (own := [("path", 6)]) (g := gName 6) (tt := tYes) rfl sc_init.nd (pi_or (pi_list (pv 4)) (pi_tup (pv 4))) (blkOk_by (N := ["self", "winds", "places", "links", "paths", "link", "path"]) (sc := defScope s_init) (by decide +kernel)) (fun _ _ _ _ _ => pg_name (i := 6) sc_init.nd rfl (Or.inl rfl)) (fun _ _ _ _ _ => pts_nil) (fun _ _ _ _ _ => (pe_call (G__as_path T) (hr.mono (by decide)) (by rfl) T.g__as_path T.k__as_path T.B__as_path .nil pass0 (pa_cons (pv 6) (pa_cons (show PE _ _ (tFld K (tVar 0) "places") from pe_fld (pv 0) rfl) pa_nil))))) pa_nil)) rfl)
      (pss_one (ps_expr (pe_call (G__check_single_paths T) (hr.mono (by decide)) (by rfl) T.g__check_single_paths T.k__check_single_paths T.B__check_single_paths .nil pass0 (pa_cons (pe_fld (pv 0) rfl) pa_nil))))))))))))))), ?_⟩
    refine ⟨_, rfl, _, wi, _, _, _, rfl, .inl (ex_l e0 hW), by rw [lw]; omega, by rw [lw]; omega, ?_⟩
    refine ⟨_, rfl, _, wi, D.ws, rfl, .inl (ex_l e0 hW), by omega, ok.gw, fun H1 e1 => ?_⟩
    have f1 : Ex H0 H1 := e0.trans e1
    refine ⟨_, rfl, _, pl, _, _, _, rfl, hP.ex f1, by rw [lp]; omega, by rw [lp]; omega, ?_⟩
    refine ⟨_, rfl, _, pl, D.ps, rfl, hP.ex f1, by omega, ok.gp, fun H2 e2 => ?_⟩
    have f2 : Ex H0 H2 := f1.trans e2
    have hx2 : H2 x = some (.ins a.C dx []) := e2 _ _ (e1 _ _ hx)
    refine ⟨_, rfl, _, li, _, _, _, rfl, hL.ex f2, by omega, by omega, ?_⟩
    refine ⟨_, rfl, _, pa, _, _, _, rfl, hA.ex f2, by omega, by omega, ?_⟩
    -- self.winds
    refine ⟨_, rfl, wi, _, rfl, ex_l f2 hW, fun u H3 _ e3 hu => ?_⟩
    have hx3 := e3 _ _ hx2
    refine ⟨_, rfl, x, a.C, dx, [], rfl, hx3, T.cl, T.nW, by show 0 < 1000; decide, ?_⟩
    have ins_t : ∀ {H : Hp} {fs gs : List (Str × V)}, H x = some (.ins a.C dx fs) → ExT H (upd H x (.ins a.C dx gs)) := fun {H fs gs} h b xs r => by
      rcases r with r | ⟨o, r⟩
      · exact .inl (by rw [upd_ne (ne_of r h (by intro z; cases z))]; exact r)
      · exact .inr ⟨o, by rw [upd_ne (ne_of r h (by intro z; cases z))]; exact r⟩
    have f4 : Ex H0 (upd H3 x (.ins a.C dx (putF "winds" (.ref u) []))) := (f2.trans e3).mut x0
    have hu4 := bare_ins (gs := putF "winds" (.ref u) []) hx3 hu
    have hx4 : (upd H3 x (.ins a.C dx (putF "winds" (.ref u) []))) x = some (.ins a.C dx (putF "winds" (.ref u) [])) := upd_same
    generalize upd H3 x (.ins a.C dx (putF "winds" (.ref u) [])) = H4 at f4 hu4 hx4
    -- self.places
    refine ⟨_, rfl, pl, _, rfl, hP.ex f4, fun q H5 e5 hq => ?_⟩
    have hx5 := e5 _ _ hx4
    refine ⟨_, rfl, x, a.C, dx, _, rfl, hx5, T.cl, T.nP, by show 1 < 1000; decide, ?_⟩
    have f6 : Ex H0 (upd H5 x (.ins a.C dx (putF "places" (.ref q) (putF "winds" (.ref u) [])))) := (f4.trans e5).mut x0
    have hu6 := bare_ins (gs := putF "places" (.ref q) (putF "winds" (.ref u) [])) hx5 (hu4.ex e5)
    have hq6 := exT_t (ins_t (gs := putF "places" (.ref q) (putF "winds" (.ref u) [])) hx5) hq
    have hx6 : (upd H5 x (.ins a.C dx (putF "places" (.ref q) (putF "winds" (.ref u) [])))) x = some (.ins a.C dx (putF "places" (.ref q) (putF "winds" (.ref u) []))) := upd_same
    generalize upd H5 x (.ins a.C dx (putF "places" (.ref q) (putF "winds" (.ref u) []))) = H6 at f6 hu6 hq6 hx6
    have lkW : (putF "places" (.ref q) (putF "winds" (.ref u) [])).lookup ("winds" : Str) = some (V.ref u) := by
      rw [lookup_putF, if_neg (by decide +kernel), lookup_putF, if_pos rfl]
    have lkP : (putF "places" (.ref q) (putF "winds" (.ref u) [])).lookup ("places" : Str) = some (V.ref q) := by
      rw [lookup_putF, if_pos rfl]
    -- self.links
    refine ⟨fun σ H' => σ = [some (.ref x), some (.ref wi), some (.ref pl), some (.ref li), some (.ref pa), none, none] ∧ ∃ v made, Ex H0 H' ∧ H' x = some (.ins a.C dx (putF "links" (.ref v) (putF "places" (.ref q) (putF "winds" (.ref u) [])))) ∧ TupX.Bare H' u (D.ws.map V.str) ∧ SqT K H' q (D.ps.map V.str) ∧ SqT K H' v made ∧ DpAll K H' made (D.ls.map dLink), ?_, ?_⟩
    let Pv : Addr → Nat → Hp → Prop := fun D0 i H' => Ex H6 H' ∧ ∃ made, H' D0 = some (.lst made) ∧ made.length = i ∧ DpAll K H' made ((D.ls.take i).map dLink)
    have start : ∀ {D0 : Addr}, H6 D0 = none → Pv D0 0 (upd H6 D0 (.lst [])) := fun hD => ⟨Ex.new hD, [], upd_same, rfl, .nil⟩
    have turn : ∀ {D0 : Addr} (i : Nat) (y : V) (H' : Hp) (σ : L2.St), H6 D0 = none → rows[i]? = some y → Pv D0 i H' → σ[5]? = some (some y) → σ[0]? = some (some (.ref x)) →
        tCall (sp__as_link K) [] E0 (tCons (tVar 5) (tCons (tFld K (tVar 0) "winds") (tCons (tFld K (tVar 0) "places") tNil))) σ H' fun y H4 => ∃ acc, H4 D0 = some (.lst acc) ∧ acc.length < sizeLine ∧ Pv D0 (i + 1) (upd H4 D0 (.lst (acc ++ [y]))) := by
      rintro D0 i y H' σ hD hy ⟨e, made, hm, hl, hd⟩ s5 s0
      obtain ⟨k0, hk0, hin⟩ := hLs.at i hy
      have hil : i < rows.length := (List.getElem?_eq_some_iff.mp hy).1
      have hx' := e _ _ hx6
      refine ⟨y, s5, _, s0, x, a.C, dx, _, _, rfl, hx', T.cl, T.nW, lkW, _, s0, x, a.C, dx, _, _, rfl, hx', T.cl, T.nP, lkP, ?_⟩
      refine ⟨y, u, q, D.ws, D.ps, k0, rfl, hin.ex (f6.trans e), .inr (hu6.ex e).sq, .inr (ex_t e hq6), ok.lk k0 (List.mem_of_getElem? hk0), by omega, fun H8 t e8 ht hM => ⟨made, e8 _ _ hm, sz_lt (by omega), (e.trans e8).mut hD, _, upd_same, by rw [List.length_append, hl] <;> rfl, ?_⟩⟩
      rw [take_one hk0, List.map_append]
      exact dps_app (dps_exT (exT_mut (e8 _ _ hm)) (dps_ex e8 hd) (frozen_links _)) (dps_one (dp_exT (exT_mut (e8 _ _ hm)) hM (frozen_link _)))
    · have fin : ∀ {D0 : Addr} {H' : Hp}, Pv D0 rows.length H' → rTupK K [.ref D0] H' fun y H1 => tVar 0 [some (.ref x), some (.ref wi), some (.ref pl), some (.ref li), some (.ref pa), none, none] H1 fun x2 H2 => ∃ (b C2 d2 : Addr) (fs : List (Str × V)), x2 = .ref b ∧ H2 b = some (.ins C2 d2 fs) ∧ Cls K C2 ∧ NoAttr K C2 "links" ∧ fs.length < 1000 ∧
          ∃ v made, Ex H0 (upd H2 b (.ins C2 d2 (putF "links" y fs))) ∧ (upd H2 b (.ins C2 d2 (putF "links" y fs))) x = some (.ins a.C dx (putF "links" (.ref v) (putF "places" (.ref q) (putF "winds" (.ref u) [])))) ∧ TupX.Bare (upd H2 b (.ins C2 d2 (putF "links" y fs))) u (D.ws.map V.str) ∧ SqT K (upd H2 b (.ins C2 d2 (putF "links" y fs))) q (D.ps.map V.str) ∧ SqT K (upd H2 b (.ins C2 d2 (putF "links" y fs))) v made ∧ DpAll K (upd H2 b (.ins C2 d2 (putF "links" y fs))) made (D.ls.map dLink) := by
        rintro D0 H' ⟨e, made, hm, hl, hd⟩
        rw [ll, List.take_length] at hd
        refine ⟨D0, made, rfl, .inl ⟨SqL.of hm, fun v hv => ?_⟩⟩
        have e2 : Ex H6 (upd H' v (.tup made)) := e.trans (Ex.new hv)
        have hx' := e2 _ _ hx6
        refine ⟨_, rfl, x, a.C, dx, _, rfl, hx', T.cl, T.nL, by show 2 < 1000; decide, v, made, (f6.trans e2).mut x0, upd_same, bare_ins hx' (hu6.ex e2), exT_t (ins_t hx') (ex_t e2 hq6), exT_t (ins_t hx') (st_of upd_same), dps_exT (ins_t hx') (dps_ex (Ex.new hv) hd) (frozen_links _)⟩
      rcases hL.ex f6 with hL6 | hL6
      · refine .inl ⟨_, rfl, li, rfl, ⟨_, hL6⟩, fun D0 hD => lcY_list (K := K) (a := li) (xs := rows) (Pv D0) (start hD) (fun i H' _ p => ex_l p.1 hL6) (fun i y H' hi p => ⟨rfl, turn i y H' _ hD hi p rfl rfl⟩) (fun H' p => ?_)⟩
        obtain ⟨p0, ys, y1, y2⟩ := fin p
        refine ⟨p0, ys, y1, ?_⟩
        rcases y2 with ⟨z1, z2⟩ | ⟨z1, z2⟩
        · refine .inl ⟨z1, fun l hl => ?_⟩
          obtain ⟨c1, c2, c3, c4, c5, c6, c7, c8, c9, c10, c11, c12⟩ := z2 l hl
          exact ⟨c1, c2, c3, c4, c5, c6, c7, c8, c9, c10, c11, rfl, c12⟩
        · obtain ⟨c1, c2, c3, c4, c5, c6, c7, c8, c9, c10, c11, c12⟩ := z2
          exact .inr ⟨z1, c1, c2, c3, c4, c5, c6, c7, c8, c9, c10, c11, rfl, c12⟩
      · refine .inr ⟨_, rfl, li, rfl, ⟨_, hL6⟩, fun D0 hD => lcY_tup (K := K) (a := li) (xs := rows) (Pv D0) (start hD) (fun i H' _ p => ex_t p.1 hL6) (fun i y H' hi p => ⟨rfl, turn i y H' _ hD hi p rfl rfl⟩) (fun H' p => ?_)⟩
        obtain ⟨p0, ys, y1, y2⟩ := fin p
        refine ⟨p0, ys, y1, ?_⟩
        rcases y2 with ⟨z1, z2⟩ | ⟨z1, z2⟩
        · refine .inl ⟨z1, fun l hl => ?_⟩
          obtain ⟨c1, c2, c3, c4, c5, c6, c7, c8, c9, c10, c11, c12⟩ := z2 l hl
          exact ⟨c1, c2, c3, c4, c5, c6, c7, c8, c9, c10, c11, rfl, c12⟩
        · obtain ⟨c1, c2, c3, c4, c5, c6, c7, c8, c9, c10, c11, c12⟩ := z2
          exact .inr ⟨z1, c1, c2, c3, c4, c5, c6, c7, c8, c9, c10, c11, rfl, c12⟩
    rintro σ H7 ⟨rfl, v, made, f7, hx7, hu7, hq7, hv7, hM7⟩
    have lkL : (putF "links" (.ref v) (putF "places" (.ref q) (putF "winds" (.ref u) []))).lookup ("links" : Str) = some (V.ref v) := by
      rw [lookup_putF, if_pos rfl]
    -- _check_names('links', self.link_names)
    refine ⟨_, rfl, x, dx, _, rfl, hx7, x, dx, _, v, made, D.ls, rfl, hx7, lkL, hv7, hM7, by omega, fun H8 t e8 ht hT => ?_⟩
    refine ⟨_, t, D.ls.map (·.n), rfl, .inr (st_of hT), by rw [List.length_map]; omega, ok.gl, fun H9 e9 => ?_⟩
    have f9 : Ex H0 H9 := (f7.trans e8).trans e9
    have hx9 := e9 _ _ (e8 _ _ hx7)
    have hu9 := (hu7.ex e8).ex e9
    have hq9 := ex_t e9 (ex_t e8 hq7)
    have hv9 := ex_t e9 (ex_t e8 hv7)
    have hM9 := dps_ex e9 (dps_ex e8 hM7)
    -- self.paths
    refine ⟨fun σ H' => σ = [some (.ref x), some (.ref wi), some (.ref pl), some (.ref li), some (.ref pa), none, none] ∧ ∃ y prs', Ex H0 H' ∧ LandAt K a.C H' x D dx u q v y made prs', ?_, ?_⟩
    · let Pw : Addr → Nat → Hp → Prop := fun D0 i H' => Ex H9 H' ∧ ∃ got, H' D0 = some (.lst got) ∧ got.length = i ∧ DpAll K H' got ((D.pa.take i).map dPath)
      have start : ∀ {D0 : Addr}, H9 D0 = none → Pw D0 0 (upd H9 D0 (.lst [])) := fun hD => ⟨Ex.new hD, [], upd_same, rfl, .nil⟩
      have lkP9 : (putF "links" (.ref v) (putF "places" (.ref q) (putF "winds" (.ref u) []))).lookup ("places" : Str) = some (V.ref q) := by
        rw [lookup_putF, if_neg (by decide +kernel), lookup_putF, if_pos rfl]
      have turn : ∀ {D0 : Addr} (i : Nat) (y : V) (H' : Hp) (σ : L2.St), H9 D0 = none → prs[i]? = some y → Pw D0 i H' → σ[6]? = some (some y) → σ[0]? = some (some (.ref x)) →
          tCall (sp__as_path K) [] E0 (tCons (tVar 6) (tCons (tFld K (tVar 0) "places") tNil)) σ H' fun y H4 => ∃ acc, H4 D0 = some (.lst acc) ∧ acc.length < sizeLine ∧ Pw D0 (i + 1) (upd H4 D0 (.lst (acc ++ [y]))) := by
        rintro D0 i y H' σ hD hy ⟨e, got, hm, hl, hd⟩ s6 s0
        obtain ⟨d, hd1, hd2⟩ := dps_at hAs hy
        have hil : i < prs.length := (List.getElem?_eq_some_iff.mp hy).1
        obtain ⟨b, hb⟩ : ∃ b, D.pa[i]? = some b := ⟨D.pa[i]'(by omega), List.getElem?_eq_getElem (by omega)⟩
        rw [List.getElem?_map, hb] at hd1
        obtain rfl : dPath b = d := Option.some.inj hd1
        refine ⟨y, s6, _, s0, x, a.C, dx, _, _, rfl, e _ _ hx9, T.cl, T.nP, lkP9, ?_⟩
        refine ⟨y, q, D.ps, b, rfl, dp_ex (f9.trans e) hd2, .inr (ex_t e hq9), ok.pt b (List.mem_of_getElem? hb), fun H8 t e8 ht hM => ⟨got, e8 _ _ hm, sz_lt (by omega), (e.trans e8).mut hD, _, upd_same, by rw [List.length_append, hl] <;> rfl, ?_⟩⟩
        rw [take_one hb, List.map_append]
        exact dps_app (dps_exT (exT_mut (e8 _ _ hm)) (dps_ex e8 hd) (frozen_paths _)) (dps_one (dp_exT (exT_mut (e8 _ _ hm)) hM (frozen_path _)))
      have fin : ∀ {D0 : Addr} {H' : Hp}, Pw D0 prs.length H' → ∃ got, H' D0 = some (.lst got) ∧ ∀ y, H' y = none → (upd H' y (.tup got)) x = some (.ins a.C dx (putF "links" (.ref v) (putF "places" (.ref q) (putF "winds" (.ref u) [])))) ∧
          ∃ y2 prs', Ex H0 (upd (upd H' y (.tup got)) x (.ins a.C dx (landFs u q v y))) ∧ LandAt K a.C (upd (upd H' y (.tup got)) x (.ins a.C dx (landFs u q v y))) x D dx u q v y2 made prs' := by
        rintro D0 H' ⟨e, got, hm, hl, hd⟩
        rw [la, List.take_length] at hd
        refine ⟨got, hm, fun y hy => ?_⟩
        have e2 : Ex H9 (upd H' y (.tup got)) := e.trans (Ex.new hy)
        have hx' := e2 _ _ hx9
        exact ⟨hx', y, got, (f9.trans e2).mut x0, upd_same, bare_ins hx' (hu9.ex e2), exT_t (ins_t hx') (ex_t e2 hq9), exT_t (ins_t hx') (ex_t e2 hv9), dps_exT (ins_t hx') (dps_ex e2 hM9) (frozen_links _), exT_t (ins_t hx') (st_of upd_same), dps_exT (ins_t hx') (dps_ex (Ex.new hy) hd) (frozen_paths _)⟩
      rcases hA.ex f9 with hA9 | hA9
      · refine .inl ⟨_, rfl, pa, rfl, ⟨_, hA9⟩, fun D0 hD => lcY_list (K := K) (a := pa) (xs := prs) (Pw D0) (start hD) (fun i H' _ p => ex_l p.1 hA9) (fun i y H' hi p => ⟨rfl, turn i y H' _ hD hi p rfl rfl⟩) (fun H' p => ?_)⟩
        obtain ⟨got, hm, z⟩ := fin p
        refine ⟨D0, got, rfl, .inl ⟨SqL.of hm, fun y hy => ?_⟩⟩
        obtain ⟨hx', z2⟩ := z y hy
        exact ⟨_, rfl, x, a.C, dx, _, rfl, hx', T.cl, T.nA, by show 3 < 1000; decide, rfl, z2⟩
      · refine .inr ⟨_, rfl, pa, rfl, ⟨_, hA9⟩, fun D0 hD => lcY_tup (K := K) (a := pa) (xs := prs) (Pw D0) (start hD) (fun i H' _ p => ex_t p.1 hA9) (fun i y H' hi p => ⟨rfl, turn i y H' _ hD hi p rfl rfl⟩) (fun H' p => ?_)⟩
        obtain ⟨got, hm, z⟩ := fin p
        refine ⟨D0, got, rfl, .inl ⟨SqL.of hm, fun y hy => ?_⟩⟩
        obtain ⟨hx', z2⟩ := z y hy
        exact ⟨_, rfl, x, a.C, dx, _, rfl, hx', T.cl, T.nA, by show 3 < 1000; decide, rfl, z2⟩
    rintro σ H10 ⟨rfl, y, prs', f10, L⟩
    refine ⟨_, rfl, x, a.C, dx, _, _, rfl, L.ob, T.cl, T.nA, fs_paths u q v y, y, prs', D.pa, rfl, L.pa, L.ps, ok.a60, ok.ap, fun H11 e11 => ?_⟩
    exact k H11 (f10.trans e11) (IsLand.ex e11 ⟨dx, u, q, v, y, made, prs', L⟩)
/-- which of __init__'s parameters a call names -/
theorem kb_wplp (T : Txt K mg a) : ∃ mv : List Value, KBn K a.d_init ["self", "winds", "places", "links", "paths"] 1 ["winds", "places", "links", "paths"] (fun us ws => us ++ (ws ++ mv)) (fun vs zs => vs ++ (zs ++ [])) :=
  T.F_init.kbinds0 (ps := ["self", "winds", "places", "links", "paths"]) 1 ["winds", "places", "links", "paths"] [] (fun us mv ws => us ++ (ws ++ mv)) (by simp) (fun q hq => by cases hq) (fun r1 r2 r3 => r1.append (r3.append r2))
    (fun D doc pm an cdv ct us mv ws h1 h2 h3 => match us, mv, ws, h1, h2, h3 with
      | [_], [], [_, _, _, _], _, _, _ => rfl)
theorem vals_take : ∀ {vs : List V} {us : List Value} (n : Nat), Vals vs us → Vals (vs.take n) (us.take n)
  | _, _, 0, _ => .nil
  | _, _, _ + 1, .nil => .nil
  | _, _, n + 1, .cons h r => .cons h (vals_take n r)
def turned {α : Type} (l : List α) : List α := (l.drop 2).take 1 ++ (l.take 1 ++ (l.drop 3 ++ (l.drop 1).take 1))
theorem kb_ppwl (T : Txt K mg a) : ∃ mv : List Value, KBn K a.d_init ["self", "winds", "places", "links", "paths"] 1 ["places", "paths", "winds", "links"] (fun us ws => us ++ (turned ws ++ mv)) (fun vs zs => vs ++ (turned zs ++ [])) :=
  T.F_init.kbinds0 (ps := ["self", "winds", "places", "links", "paths"]) 1 ["places", "paths", "winds", "links"] [] (fun us mv ws => us ++ (turned ws ++ mv)) (by simp) (fun q hq => by cases hq)
    (fun r1 r2 r3 => r1.append (((vals_take 1 (r3.drop 2)).append ((vals_take 1 r3).append ((r3.drop 3).append (vals_take 1 (r3.drop 1))))).append r2))
    (fun D doc pm an cdv ct us mv ws h1 h2 h3 => match us, mv, ws, h1, h2, h3 with
      | [_], [], [_, _, _, _], _, _, _ => rfl)
theorem kb_wp (T : Txt K mg a) : ∃ mv : List Value, KBn K a.d_init ["self", "winds", "places", "links", "paths"] 1 ["winds", "places"] (fun us ws => us ++ (ws ++ mv)) (fun vs zs => vs ++ (zs ++ [.ref a.tl, .ref a.te])) :=
  T.F_init.kbinds0 (ps := ["self", "winds", "places", "links", "paths"]) 1 ["winds", "places"] [("links", .ref a.tl), ("paths", .ref a.te)] (fun us mv ws => us ++ (ws ++ mv)) (by simp) (fun q hq => by simpa using hq) (fun r1 r2 r3 => r1.append (r3.append r2))
    (fun D doc pm an cdv ct us mv ws h1 h2 h3 => match us, mv, ws, h1, h2, h3 with
      | [_], [_, _], [_, _], _, _, _ => ⟨_, _, _, _, _, _, rfl, rfl, _, _, _, _, _, _, rfl, rfl, rfl⟩)
end
end EV

set_option Elab.async false
set_option linter.all false
set_option maxRecDepth 100000
set_option maxHeartbeats 4000000
namespace EV
open PySem PySem.Spec PyProof.Rows L2 EvS Evl
theorem num_in {ks : List Int} {i : Int} (h0 : 0 ≤ i) (h : i < ks.length) : ∃ n, n ∈ ks ∧ atI (ks.map V.int) i = some (.int n) ∧ n = ks.getD i.toNat 0 := by
  have hl : i.toNat < ks.length := by omega
  have e : ks[i.toNat]? = some ks[i.toNat] := List.getElem?_eq_getElem hl
  have z : atI (ks.map V.int) ((i.toNat : Nat) : Int) = some (.int ks[i.toNat]) := atI_nat (by rw [List.getElem?_map, e] <;> rfl)
  rw [show ((i.toNat : Nat) : Int) = i by omega] at z
  exact ⟨ks[i.toNat], List.getElem_mem hl, z, by rw [List.getD_eq_getElem?_getD, e] <;> rfl⟩
theorem at3 {α : Type} {x y z : α} {i : Int} (h0 : 0 ≤ i) (h : i < 3) : ∃ v, atI [x, y, z] i = some v ∧ (v = x ∨ v = y ∨ v = z) := by
  have c : i = 0 ∨ i = 1 ∨ i = 2 := by omega
  rcases c with rfl | rfl | rfl
  · exact ⟨x, atI_nat (j := 0) rfl, .inl rfl⟩
  · exact ⟨y, atI_nat (j := 1) rfl, .inr (.inl rfl)⟩
  · exact ⟨z, atI_nat (j := 2) rfl, .inr (.inr rfl)⟩
theorem at4 {α : Type} {x y z u : α} {i : Int} (h0 : 0 ≤ i) (h : i < 4) : ∃ v, atI [x, y, z, u] i = some v ∧ (v = x ∨ v = y ∨ v = z ∨ v = u) := by
  have c : i = 0 ∨ i = 1 ∨ i = 2 ∨ i = 3 := by omega
  rcases c with rfl | rfl | rfl | rfl
  · exact ⟨x, atI_nat (j := 0) rfl, .inl rfl⟩
  · exact ⟨y, atI_nat (j := 1) rfl, .inr (.inl rfl)⟩
  · exact ⟨z, atI_nat (j := 2) rfl, .inr (.inr (.inl rfl))⟩
  · exact ⟨u, atI_nat (j := 3) rfl, .inr (.inr (.inr rfl))⟩
/-- the drawn numbers -/
structure Nums (K : PySem.W.Frag) (H : Hp) (p : Addr) (ks : List Int) : Prop where
  at_ : SqL K H p (ks.map V.int)
  sm : Small ks
  lo : 150 ≤ ks.length
  hi : ks.length ≤ 1000
theorem Nums.ex {K : PySem.W.Frag} {H H' : Hp} {p : Addr} {ks : List Int} (e : Ex H H') (h : Nums K H p ks) : Nums K H' p ks := ⟨ex_l e h.at_, h.sm, h.lo, h.hi⟩
def sp__law_pick (K : PySem.W.Frag) : Sp := fun vs H Q _ => ∃ (p : Addr) (ks : List Int) (k : Int), vs = [.ref p, .int k] ∧ Nums K H p ks ∧ 0 ≤ k ∧ ∀ v, 0 ≤ v → Q (.int v) H
def sp__law_count : Sp := fun vs H Q _ => ∃ n lo hi : Int, vs = [.int n, .int lo, .int hi] ∧ lo ≤ hi ∧ ∀ v, lo ≤ v → v ≤ hi → Q (.int v) H
def sp__law_times (K : PySem.W.Frag) : Sp := fun vs H Q _ => ∃ (p : Addr) (ks : List Int) (k m : Int), vs = [.ref p, .int k, .int m] ∧ Nums K H p ks ∧ 0 ≤ k ∧ 0 ≤ m ∧ m ≤ 1000 ∧
  ∀ H' u us (ts : List (Option (Int × Int))), Ex H H' → H u = none → H' u = some (.lst us) → DpAll K H' us (ts.map dTime) → (ts.length : Int) = m → (∀ b ∈ ts, TimeOk b) → Q (.ref u) H'
section
variable {P : Program} {w : World} {K : PySem.W.Frag} {mg : Str → Option Value} {base : Heap} {a : Ad}
theorem G__law_pick (T : Txt K mg a) : FnOk P w K mg base CX0 1 a.f__law_pick a.d__law_pick ["numbers", "k"] (sp__law_pick K) := by
  refine T.F__law_pick.ok sc__law_pick (fun vs H Q E h => ?_) (fun cdv A outer s H vs Q E hr h => ?_)
  · obtain ⟨p, ks, k, rfl, _⟩ := h
    rfl
  · obtain ⟨p, ks, k0, rfl, N, k1, k⟩ := h
    have n1 := N.lo
    have n2 := N.hi
    have hlen : (ks.map V.int).length = ks.length := List.length_map ..
    have pos : (0 : Int) < ((ks.map V.int).length : Nat) := by rw [hlen]; omega
    obtain ⟨n, hn, hat, _⟩ := num_in (ks := ks) (i := k0.fmod (((ks.map V.int).length : Nat) : Int)) (Int.fmod_nonneg_of_pos _ pos) (by rw [← hlen]; exact Int.fmod_lt_of_pos _ pos)
    refine ⟨_, (pss_one (ps_ret (pe_op op_add (pe_callTy call_int1 (by rfl) T.z_int (by decide +kernel) (pa_cons (pe_ix ix_list (pv 0) (pe_op op_modN (pv 1) (pe_callB call_len_seq (by rfl) T.z_len PySem.boot_len (pa_cons (pv 0) pa_nil))) (fun _ _ => rfl)) pa_nil)) (pe_op op_mul pe_int (pe_op op_fdivN (pv 1) (pe_callB call_len_seq (by rfl) T.z_len PySem.boot_len (pa_cons (pv 0) pa_nil))))))), ?_⟩
    refine ⟨_, rfl, _, rfl, _, rfl, p, _, rfl, .inl N.at_, _, _, rfl, rfl, by omega, p, _, _, _, rfl, rfl, N.at_, hat, .inl ⟨_, rfl, _, rfl, _, rfl, p, _, rfl, .inl N.at_, _, _, rfl, rfl, ⟨by omega, by omega⟩, _, _, rfl, rfl, .inl ⟨by decide, by decide⟩, _, _, rfl, rfl, ?_⟩⟩
    refine k _ ?_
    have f0 : 0 ≤ k0.fdiv (((ks.map V.int).length : Nat) : Int) := by
      rw [Int.fdiv_eq_ediv_of_nonneg _ (by omega)]
      exact Int.ediv_nonneg k1 (by omega)
    have := (N.sm n hn).1
    omega
theorem G__law_count (T : Txt K mg a) : FnOk P w K mg base CX0 1 a.f__law_count a.d__law_count ["number", "least", "most"] sp__law_count := by
  refine T.F__law_count.ok sc__law_count (fun vs H Q E h => ?_) (fun cdv A outer s H vs Q E hr h => ?_)
  · obtain ⟨n, lo, hi, rfl, _⟩ := h
    rfl
  · obtain ⟨n, lo, hi, rfl, le, k⟩ := h
    refine ⟨_, (pss_cons (ps_if (pt_cmpR op_eq (pe_op op_mod (pe_callTy call_int1 (by rfl) T.z_int (by decide +kernel) (pa_cons (pv 0) pa_nil)) pe_int) pe_int (nomark _)) (pss_one (ps_ret (pv 1))) pss_nil)
      (pss_cons (ps_if (pt_cmpR op_eq (pe_op op_mod (pe_callTy call_int1 (by rfl) T.z_int (by decide +kernel) (pa_cons (pv 0) pa_nil)) pe_int) pe_int (nomark _)) (pss_one (ps_ret (pv 2))) pss_nil)
      (pss_one (ps_ret (pe_op op_add (pv 1) (pe_op op_modN (pe_op op_fdiv (pe_callTy call_int1 (by rfl) T.z_int (by decide +kernel) (pa_cons (pv 0) pa_nil)) pe_int) (pe_op op_add (pe_op op_sub (pe_callB (call_min2 rfl) (by rfl) T.z_min (by decide +kernel) (pa_cons (pv 2) (pa_cons (pe_op op_add (pv 1) pe_int) pa_nil))) (pv 1)) pe_int))))))), ?_⟩
    refine ⟨_, rfl, .inl ⟨_, rfl, _, _, rfl, rfl, (by show (0 : Int) < 7; decide), rfl, _, rfl, ?_⟩⟩
    refine ite2 (fun _ => ⟨_, rfl, k lo (Int.le_refl _) le⟩) (fun _ => ?_)
    refine ⟨_, rfl, .inl ⟨_, rfl, _, _, rfl, rfl, (by show (0 : Int) < 7; decide), rfl, _, rfl, ?_⟩⟩
    refine ite2 (fun _ => ⟨_, rfl, k hi le (Int.le_refl _)⟩) (fun _ => ?_)
    have d1 : 0 < (if lo + 9 < hi then lo + 9 else hi) - lo + 1 := by split <;> omega
    have d2 : (if lo + 9 < hi then lo + 9 else hi) ≤ hi := by split <;> omega
    refine ⟨_, rfl, _, rfl, .inl ⟨_, rfl, _, _, rfl, rfl, ⟨by decide, by decide⟩, _, rfl, _, rfl, _, _, rfl, rfl, _, _, rfl, _, rfl, _, _, rfl, rfl, _, _, rfl, rfl, _, _, rfl, rfl, by omega, _, _, rfl, rfl, ?_⟩⟩
    have m0 := Int.fmod_nonneg_of_pos (n / 7) d1
    have m1 := Int.fmod_lt_of_pos (n / 7) d1
    exact k _ (by omega) (by omega)
theorem G__law_times (T : Txt K mg a) : FnOk P w K mg base CX0 2 a.f__law_times a.d__law_times ["numbers", "k", "many"] (sp__law_times K) := by
  refine T.F__law_times.ok sc__law_times (fun vs H Q E h => ?_) (fun cdv A outer s H vs Q E hr h => ?_)
  · obtain ⟨p, ks, k, m, rfl, _⟩ := h
    rfl
  · obtain ⟨p, ks, k0, m, rfl, N, k1, m0, m1, k⟩ := h
    refine ⟨_, (pss_cons (ps_set (i := 3) sc__law_times.nd rfl (Or.inl rfl) (pe_lst pa_nil))
      (pss_cons (ps_for PassesOwn.never rfl (pi_range1 (by rfl) T.z_range (pa_cons (pv 2) pa_nil)) (pg_name (i := 4) sc__law_times.nd rfl (Or.inl rfl)) (pss_cons (ps_set (i := 5) sc__law_times.nd rfl (Or.inl rfl) (pe_ix ix_list (pe_lst (pa_cons pe_int (pa_cons pe_int (pa_cons (pe_op op_add pe_int (pe_op op_mod (pe_call (G__law_pick T) (hr.mono (by decide)) (by rfl) T.g__law_pick T.k__law_pick T.B__law_pick .nil pass0 (pa_cons (pv 0) (pa_cons (pe_op op_add (pv 1) (pv 4)) pa_nil))) pe_int)) (pa_cons (pe_op op_add pe_int (pe_op op_mod (pe_call (G__law_pick T) (hr.mono (by decide)) (by rfl) T.g__law_pick T.k__law_pick T.B__law_pick .nil pass0 (pa_cons (pv 0) (pa_cons (pe_op op_add (pv 1) (pv 4)) pa_nil))) pe_int)) pa_nil))))) (pe_op op_mod (pe_call (G__law_pick T) (hr.mono (by decide)) (by rfl) T.g__law_pick T.k__law_pick T.B__law_pick .nil pass0 (pa_cons (pv 0) (pa_cons (pe_op op_add (pe_op op_add (pv 1) (pv 4)) pe_int) pa_nil))) pe_int) (fun _ _ => rfl)))
        (pss_cons (ps_set (i := 6) sc__law_times.nd rfl (Or.inl rfl) (pe_ix ix_list (pe_lst (pa_cons (pv 5) (pa_cons pe_int (pa_cons (pe_op op_add (pv 5) (pe_op op_modN (pe_call (G__law_pick T) (hr.mono (by decide)) (by rfl) T.g__law_pick T.k__law_pick T.B__law_pick .nil pass0 (pa_cons (pv 0) (pa_cons (pe_op op_add (pe_op op_add (pv 1) (pv 4)) pe_int) pa_nil))) (pe_op op_sub pe_int (pv 5)))) pa_nil)))) (pe_op op_mod (pe_call (G__law_pick T) (hr.mono (by decide)) (by rfl) T.g__law_pick T.k__law_pick T.B__law_pick .nil pass0 (pa_cons (pv 0) (pa_cons (pe_op op_add (pe_op op_add (pv 1) (pv 4)) pe_int) pa_nil))) pe_int) (fun _ _ => rfl)))
        (pss_one (ps_expr (pe_bm PySem.F.plainAttrs_list PySem.F.slot_list_append PySem.F.type_list_append mt_append (pv 3) (pa_cons (pe_ix ix_list (pe_lst (pa_cons (pe_tup (pa_cons (pv 5) (pa_cons (pv 6) pa_nil))) (pa_cons (pe_tup (pa_cons (pv 5) (pa_cons (pv 6) pa_nil))) (pa_cons pe_non pa_nil)))) (pe_op op_mod (pe_call (G__law_pick T) (hr.mono (by decide)) (by rfl) T.g__law_pick T.k__law_pick T.B__law_pick .nil pass0 (pa_cons (pv 0) (pa_cons (pe_op op_add (pe_op op_add (pv 1) (pe_op op_mul pe_int (pv 4))) pe_int) pa_nil))) pe_int) (fun _ _ => rfl)) pa_nil)))))))
      (pss_one (ps_ret (pv 3))))), ?_⟩
    refine ⟨Nat.zero_le _, fun u hu => ?_⟩
    refine ⟨_, rfl, _, rfl, by omega, by omega, for_range (n := m.toNat) (fun i σ H' => ∃ (us : List V) (ts : List (Option (Int × Int))) (v4 v5 v6 : Option V), σ = [some (.ref p), some (.int k0), some (.int m), some (.ref u), v4, v5, v6] ∧ Ex H H' ∧ H' u = some (.lst us) ∧ DpAll K H' us (ts.map dTime) ∧ ts.length = i ∧ (∀ b ∈ ts, TimeOk b)) ?_ ?_ ?_⟩
    · exact ⟨[], [], none, none, none, rfl, Ex.new hu, upd_same, .nil, rfl, fun b hb => by cases hb⟩
    · rintro i σ H1 hi ⟨us, ts, v4, v5, v6, rfl, e1, hU, hd, hl, hok⟩
      have N1 := N.ex e1
      have ul : us.length = i := by rw [dps_len hd, List.length_map, hl]
      -- first
      refine ⟨_, rfl, _, rfl, _, rfl, _, _, rfl, rfl, p, ks, _, rfl, N1, by omega, fun x1 _ => ⟨_, _, rfl, rfl, (by show (0 : Int) < 1000; decide), _, _, rfl, rfl, ?_⟩⟩
      refine ⟨_, rfl, _, rfl, _, rfl, _, _, rfl, rfl, p, ks, _, rfl, N1, by omega, fun x2 _ => ⟨_, _, rfl, rfl, (by show (0 : Int) < 30; decide), _, _, rfl, rfl, ?_⟩⟩
      refine ⟨by show 4 ≤ sizeLine; decide, fun l1 hl1 => ?_⟩
      have e2 : Ex H (upd H1 l1 (.lst [.int 1, .int 1000, .int (1 + x1 % 1000), .int (1 + x2 % 30)])) := e1.trans (Ex.new hl1)
      refine ⟨_, rfl, _, rfl, _, rfl, _, _, rfl, rfl, _, _, rfl, rfl, p, ks, _, rfl, N.ex e2, by omega, fun x3 _ => ⟨_, _, rfl, rfl, (by show (0 : Int) < 4; decide), ?_⟩⟩
      have q1 := Int.emod_nonneg x1 (show (1000 : Int) ≠ 0 by decide)
      have q2 := Int.emod_lt_of_pos x1 (show (0 : Int) < 1000 by decide)
      have q3 := Int.emod_nonneg x2 (show (30 : Int) ≠ 0 by decide)
      have q4 := Int.emod_lt_of_pos x2 (show (0 : Int) < 30 by decide)
      obtain ⟨fv, hf, cf⟩ := at4 (x := V.int 1) (y := V.int 1000) (z := V.int (1 + x1 % 1000)) (u := V.int (1 + x2 % 30)) (Int.emod_nonneg x3 (show (4 : Int) ≠ 0 by decide)) (Int.emod_lt_of_pos x3 (show (0 : Int) < 4 by decide))
      obtain ⟨f, rfl, f1, f2⟩ : ∃ f : Int, fv = .int f ∧ 1 ≤ f ∧ f ≤ 1000 := by
        rcases cf with c | c | c | c
        · exact ⟨_, c, by decide, by decide⟩
        · exact ⟨_, c, by decide, by decide⟩
        · exact ⟨_, c, by omega, by omega⟩
        · exact ⟨_, c, by omega, by omega⟩
      refine ⟨l1, _, _, _, rfl, rfl, SqL.of upd_same, hf, ?_⟩
      have hU2 : (upd H1 l1 (.lst [.int 1, .int 1000, .int (1 + x1 % 1000), .int (1 + x2 % 30)])) u = some (.lst us) := Ex.new hl1 _ _ hU
      have hd2 := dps_ex (Ex.new (o := .lst [.int 1, .int 1000, .int (1 + x1 % 1000), .int (1 + x2 % 30)]) hl1) hd
      generalize upd H1 l1 (.lst [.int 1, .int 1000, .int (1 + x1 % 1000), .int (1 + x2 % 30)]) = H2 at e2 hU2 hd2
      -- last
      refine ⟨_, rfl, _, rfl, _, rfl, _, rfl, _, rfl, _, _, rfl, rfl, _, _, rfl, rfl, p, ks, _, rfl, N.ex e2, by omega, fun x4 _ => ⟨_, rfl, _, _, rfl, rfl, _, _, rfl, rfl, by omega, _, _, rfl, rfl, ?_⟩⟩
      refine ⟨by show 3 ≤ sizeLine; decide, fun l2 hl2 => ?_⟩
      have e3 : Ex H (upd H2 l2 (.lst [.int f, .int 1000, .int (f + x4.fmod (1001 - f))])) := e2.trans (Ex.new hl2)
      refine ⟨_, rfl, _, rfl, _, rfl, _, _, rfl, rfl, _, _, rfl, rfl, p, ks, _, rfl, N.ex e3, by omega, fun x5 _ => ⟨_, _, rfl, rfl, (by show (0 : Int) < 3; decide), ?_⟩⟩
      have dpos : 0 < 1001 - f := by omega
      have q5 := Int.fmod_nonneg_of_pos x4 dpos
      have q6 := Int.fmod_lt_of_pos x4 dpos
      obtain ⟨lv, hlv, cl⟩ := at3 (x := V.int f) (y := V.int 1000) (z := V.int (f + x4.fmod (1001 - f))) (Int.emod_nonneg x5 (show (3 : Int) ≠ 0 by decide)) (Int.emod_lt_of_pos x5 (show (0 : Int) < 3 by decide))
      obtain ⟨g, rfl, g1, g2⟩ : ∃ g : Int, lv = .int g ∧ f ≤ g ∧ g ≤ 1000 := by
        rcases cl with c | c | c
        · exact ⟨_, c, by omega, by omega⟩
        · exact ⟨_, c, by omega, by omega⟩
        · exact ⟨_, c, by omega, by omega⟩
      refine ⟨l2, _, _, _, rfl, rfl, SqL.of upd_same, hlv, ?_⟩
      have hU3 : (upd H2 l2 (.lst [.int f, .int 1000, .int (f + x4.fmod (1001 - f))])) u = some (.lst us) := Ex.new hl2 _ _ hU2
      have hd3 := dps_ex (Ex.new (o := .lst [.int f, .int 1000, .int (f + x4.fmod (1001 - f))]) hl2) hd2
      generalize upd H2 l2 (.lst [.int f, .int 1000, .int (f + x4.fmod (1001 - f))]) = H3 at e3 hU3 hd3
      -- times.append(..)
      refine ⟨_, rfl, .inl ⟨rfl, _, SqL.of hU3⟩, _, rfl, _, rfl, by show 2 ≤ sizeLine; decide, fun t1 ht1 => ?_⟩
      refine ⟨_, rfl, _, rfl, by show 2 ≤ sizeLine; decide, fun t2 ht2 => ?_⟩
      refine ⟨by show 3 ≤ sizeLine; decide, fun l3 hl3 => ?_⟩
      have a1 : Ex H3 (upd (upd (upd H3 t1 (.tup [.int f, .int g])) t2 (.tup [.int f, .int g])) l3 (.lst [.ref t1, .ref t2, .non])) := ((Ex.new ht1).trans (Ex.new ht2)).trans (Ex.new hl3)
      have e4 := e3.trans a1
      refine ⟨_, rfl, _, rfl, _, rfl, _, _, rfl, rfl, .inl ⟨by decide, by decide⟩, _, _, rfl, rfl, _, _, rfl, rfl, p, ks, _, rfl, N.ex e4, by omega, fun x6 _ => ⟨_, _, rfl, rfl, (by show (0 : Int) < 3; decide), ?_⟩⟩
      obtain ⟨tv, htv, ct⟩ := at3 (x := V.ref t1) (y := V.ref t2) (z := V.non) (Int.emod_nonneg x6 (show (3 : Int) ≠ 0 by decide)) (Int.emod_lt_of_pos x6 (show (0 : Int) < 3 by decide))
      refine ⟨l3, _, _, _, rfl, rfl, SqL.of upd_same, htv, u, us, _, rfl, rfl, a1 _ _ hU3, sz_lt (by omega), ?_⟩
      have T1 : (upd (upd (upd H3 t1 (.tup [.int f, .int g])) t2 (.tup [.int f, .int g])) l3 (.lst [.ref t1, .ref t2, .non])) t1 = some (.tup [.int f, .int g]) := (Ex.new hl3) _ _ ((Ex.new ht2) _ _ upd_same)
      have T2 : (upd (upd (upd H3 t1 (.tup [.int f, .int g])) t2 (.tup [.int f, .int g])) l3 (.lst [.ref t1, .ref t2, .non])) t2 = some (.tup [.int f, .int g]) := (Ex.new hl3) _ _ upd_same
      have hd4 := dps_ex a1 hd3
      have hU4 := a1 _ _ hU3
      generalize upd (upd (upd H3 t1 (.tup [.int f, .int g])) t2 (.tup [.int f, .int g])) l3 (.lst [.ref t1, .ref t2, .non]) = H4 at a1 e4 T1 T2 hd4 hU4
      obtain ⟨b, hb, bok⟩ : ∃ b, Dp K H4 tv (dTime b) ∧ TimeOk b := by
        rcases ct with c | c | c
        · exact ⟨some (f, g), by rw [c]; exact .tup (st_of T1) (.cons (.int f) (.cons (.int g) .nil)), f1, g1, g2⟩
        · exact ⟨some (f, g), by rw [c]; exact .tup (st_of T2) (.cons (.int f) (.cons (.int g) .nil)), f1, g1, g2⟩
        · exact ⟨none, by rw [c]; exact .non, trivial⟩
      refine ⟨us ++ [tv], ts ++ [b], _, _, _, rfl, e4.mut hu, upd_same, ?_, by rw [List.length_append, hl] <;> rfl, fun b2 hb2 => ?_⟩
      · rw [List.map_append]
        exact dps_app (dps_exT (exT_mut hU4) hd4 (frozen_times _)) (dps_one (dp_exT (exT_mut hU4) hb (frozen_time _)))
      · rcases List.mem_append.mp hb2 with z | z
        · exact hok b2 z
        · rw [List.mem_singleton.mp z]
          exact bok
    · rintro σ H' ⟨us, ts, v4, v5, v6, rfl, e1, hU, hd, hl, hok⟩
      exact ⟨_, rfl, k H' u us ts e1 hu hU hd (by omega) hok⟩
end
end EV

set_option Elab.async false
set_option linter.all false
set_option maxRecDepth 100000
set_option maxHeartbeats 4000000
namespace EV
open PySem PySem.Spec PyProof.Rows L2 EvS Evl
/-! ### names as the law makes them -/
def CH : List Nat := ("abcdefghijklmnopqrstuvwxyz0123456789" : Str).cps.toList
def chAt (i : Int) : Nat := CH.getD i.toNat 0
theorem ch_len : CH.length = 36 := by decide +kernel
theorem ch_slen : ("abcdefghijklmnopqrstuvwxyz0123456789" : Str).length = 36 := by decide +kernel
theorem ch_get {i : Int} (h0 : 0 ≤ i) (h : i < 36) : atI CH i = some (chAt i) := by
  have hl : i.toNat < CH.length := by rw [ch_len]; omega
  have z := atI_nat (xs := CH) (j := i.toNat) (List.getElem?_eq_getElem hl)
  rw [show ((i.toNat : Nat) : Int) = i by omega] at z
  rw [z]
  unfold chAt
  rw [List.getD_eq_getElem?_getD, List.getElem?_eq_getElem hl]
  rfl
theorem ch_all : ∀ i, i < 36 → okSign (CH.getD i 0) = true := by decide +kernel
theorem ch_let : ∀ i, i < 26 → decide (CH.getD i 0 ∈ LETS) = true := by decide +kernel
theorem ch_inj : ∀ i, i < 36 → ∀ j, j < 36 → CH.getD i 0 = CH.getD j 0 → i = j := by decide +kernel
theorem chAt_ok {i : Int} (h0 : 0 ≤ i) (h : i < 36) : okSign (chAt i) = true := ch_all i.toNat (by omega)
theorem chAt_let {i : Int} (h0 : 0 ≤ i) (h : i < 26) : chAt i ∈ LETS := of_decide_eq_true (ch_let i.toNat (by omega))
theorem chAt_inj {i j : Int} (h0 : 0 ≤ i) (h : i < 36) (k0 : 0 ≤ j) (k : j < 36) (e : chAt i = chAt j) : i = j := by
  have := ch_inj i.toNat (by omega) j.toNat (by omega) e
  omega
theorem m36 (x : Int) : 0 ≤ x % 36 ∧ x % 36 < 36 := ⟨Int.emod_nonneg _ (by decide), Int.emod_lt_of_pos _ (by decide)⟩
def bas (ks : List Int) (at_ : Nat) : Nat := if ks.getD 1 0 % 5 = 1 then 2 else at_
def preN (ks : List Int) (b n : Nat) : List Nat := chAt (ks.getD b 0 % 26) :: (List.range n).map fun (k : Nat) => chAt ((ks.getD (b + 2) 0 + (k : Int) * ks.getD (b + 3) 0) % 36)
def pre (ks : List Int) (b : Nat) : List Nat := preN ks b (ks.getD (b + 1) 0 % 10).toNat
def plc (ks : List Int) (b : Nat) : Nat := (1 + (ks.getD (b + 4) 0).fmod (((pre ks b).length : Nat) : Int)).toNat
def tailN (k : Nat) : List Nat := if 36 ≤ k then [113] else []
def codes (ks : List Int) (b k : Nat) : List Nat := (pre ks b).take (plc ks b) ++ ([chAt ((ks.getD (b + 5) 0 + 5 * (k : Int)) % 36)] ++ (tailN k ++ (pre ks b).drop (plc ks b)))
def nameOf (ks : List Int) (at_ k : Nat) : Str := ⟨(codes ks (bas ks at_) k).toArray⟩
def names (ks : List Int) (at_ m : Nat) : List Str := (List.range m).map (nameOf ks at_)
theorem pre_len (ks : List Int) (b : Nat) : 1 ≤ (pre ks b).length ∧ (pre ks b).length ≤ 10 := by
  unfold pre preN
  rw [List.length_cons, List.length_map, List.length_range]
  have := Int.emod_nonneg (ks.getD (b + 1) 0) (show (10 : Int) ≠ 0 by decide)
  have := Int.emod_lt_of_pos (ks.getD (b + 1) 0) (show (0 : Int) < 10 by decide)
  omega
theorem plc_le (ks : List Int) (b : Nat) : 1 ≤ plc ks b ∧ plc ks b ≤ (pre ks b).length := by
  have h := pre_len ks b
  have p : (0 : Int) < (((pre ks b).length : Nat) : Int) := by omega
  have := Int.fmod_nonneg_of_pos (ks.getD (b + 4) 0) p
  have := Int.fmod_lt_of_pos (ks.getD (b + 4) 0) p
  unfold plc
  omega
theorem pre_ok (ks : List Int) (b : Nat) : ∀ c ∈ pre ks b, okSign c = true := by
  intro c hc
  unfold pre preN at hc
  rcases List.mem_cons.mp hc with e | hc
  · rw [e]
    have := Int.emod_lt_of_pos (ks.getD b 0) (show (0 : Int) < 26 by decide)
    exact chAt_ok (Int.emod_nonneg _ (by decide)) (by omega)
  · obtain ⟨k, _, rfl⟩ := List.mem_map.mp hc
    exact chAt_ok (m36 _).1 (m36 _).2
theorem tail_len (k : Nat) : (tailN k).length = if 36 ≤ k then 1 else 0 := by
  unfold tailN
  split <;> rfl
theorem codes_len (ks : List Int) (b k : Nat) : (codes ks b k).length = (pre ks b).length + 1 + if 36 ≤ k then 1 else 0 := by
  have h := plc_le ks b
  unfold codes
  rw [List.length_append, List.length_append, List.length_append, List.length_take, List.length_drop, tail_len, List.length_singleton]
  omega
theorem name_ok (ks : List Int) (at_ k : Nat) : isName (nameOf ks at_ k) = true := by
  have hl := codes_len ks (bas ks at_) k
  have hp := pre_len ks (bas ks at_)
  have hq := plc_le ks (bas ks at_)
  have len : (nameOf ks at_ k).length = (codes ks (bas ks at_) k).length := by
    show (codes ks (bas ks at_) k).toArray.size = _
    rw [List.size_toArray]
  have lst : (nameOf ks at_ k).cps.toList = codes ks (bas ks at_) k := rfl
  unfold isName
  rw [lst, len, Bool.and_eq_true, Bool.and_eq_true]
  refine ⟨⟨decide_eq_true ⟨by omega, by rw [hl]; split <;> omega⟩, ?_⟩, ?_⟩
  · obtain ⟨m, hm⟩ : ∃ m, plc ks (bas ks at_) = m + 1 := ⟨plc ks (bas ks at_) - 1, by omega⟩
    have e : (codes ks (bas ks at_) k).head? = some (chAt (ks.getD (bas ks at_) 0 % 26)) := by
      unfold codes
      rw [hm]
      unfold pre preN
      rfl
    rw [e]
    exact decide_eq_true (chAt_let (Int.emod_nonneg _ (by decide)) (Int.emod_lt_of_pos _ (by decide)))
  · rw [List.all_eq_true]
    intro c hc
    unfold codes at hc
    rcases List.mem_append.mp hc with z | z
    · exact pre_ok _ _ c (List.mem_of_mem_take z)
    rcases List.mem_append.mp z with z | z
    · rw [List.mem_singleton.mp z]
      exact chAt_ok (m36 _).1 (m36 _).2
    rcases List.mem_append.mp z with z | z
    · unfold tailN at z
      split at z
      · rw [List.mem_singleton.mp z]
        decide +kernel
      · cases z
    · exact pre_ok _ _ c (List.mem_of_mem_drop z)
theorem name_inj (ks : List Int) (at_ : Nat) {i j : Nat} (hi : i < 72) (hj : j < 72) (e : nameOf ks at_ i = nameOf ks at_ j) : i = j := by
  have ec : codes ks (bas ks at_) i = codes ks (bas ks at_) j := by
    have z := congrArg (fun s : Str => s.cps.toList) e
    exact z
  have hl := congrArg List.length ec
  rw [codes_len, codes_len] at hl
  have hb : (36 ≤ i) ↔ (36 ≤ j) := by
    constructor
    · intro h
      rw [if_pos h] at hl
      by_cases q : 36 ≤ j
      · exact q
      · rw [if_neg q] at hl
        omega
    · intro h
      rw [if_pos h] at hl
      by_cases q : 36 ≤ i
      · exact q
      · rw [if_neg q] at hl
        omega
  have ht := plc_le ks (bas ks at_)
  have lt : ((pre ks (bas ks at_)).take (plc ks (bas ks at_))).length = plc ks (bas ks at_) := by
    rw [List.length_take]
    omega
  have gi : ∀ k, (codes ks (bas ks at_) k)[plc ks (bas ks at_)]? = some (chAt ((ks.getD (bas ks at_ + 5) 0 + 5 * (k : Int)) % 36)) := fun k => by
    unfold codes
    rw [List.getElem?_append_right (by omega), lt, Nat.sub_self]
    rfl
  have z := gi i
  rw [ec, gi j] at z
  have y := chAt_inj (m36 _).1 (m36 _).2 (m36 _).1 (m36 _).2 (Option.some.inj z)
  omega
theorem names_good (ks : List Int) (at_ : Nat) {m : Nat} (h : m ≤ 72) : Good (names ks at_ m) := by
  refine ⟨fun n hn => ?_, ?_⟩
  · obtain ⟨k, _, rfl⟩ := List.mem_map.mp hn
    exact name_ok ks at_ k
  · unfold names
    refine List.pairwise_map.mpr (List.Pairwise.imp_of_mem (fun ha hb ne e => ?_) (List.nodup_range (n := m)))
    have h1 := List.mem_range.mp ha
    have h2 := List.mem_range.mp hb
    exact ne (name_inj ks at_ (by omega) (by omega) e)
theorem names_len (ks : List Int) (at_ m : Nat) : (names ks at_ m).length = m := by
  unfold names
  rw [List.length_map, List.length_range]
theorem names_more (ks : List Int) (at_ m : Nat) : names ks at_ (m + 1) = names ks at_ m ++ [nameOf ks at_ m] := by
  unfold names
  rw [List.range_succ, List.map_append]
  rfl
/-! texts by their codes -/
abbrev tx (l : List Nat) : Str := ⟨l.toArray⟩
theorem tx_add (l m : List Nat) : tx l ++ tx m = tx (l ++ m) := Str.ext' (by rw [Str.cps_append]; simp)
theorem tx_one (c : Nat) : (⟨#[c]⟩ : Str) = tx [c] := rfl
theorem tx_len (l : List Nat) : (tx l).length = l.length := by
  show l.toArray.size = _
  rw [List.size_toArray]
theorem tx_to (l : List Nat) (n : Nat) : cutS (tx l) none (some (n : Int)) = tx (l.take n) := by
  have e : (tx l).cps.toList = l := rfl
  unfold cutS
  rw [HT.sIx_nat, HT.sIx_none, e, tx_len, List.drop_zero, Nat.sub_zero]
  rcases Nat.le_total n l.length with h | h
  · rw [Nat.min_eq_left h]
  · rw [Nat.min_eq_right h, List.take_length, List.take_of_length_le h]
theorem tx_from (l : List Nat) (n : Nat) : cutS (tx l) (some (n : Int)) none = tx (l.drop n) := by
  have e : (tx l).cps.toList = l := rfl
  unfold cutS
  rw [HT.sIx_nat, HT.sIx_none, e, tx_len]
  rcases Nat.le_total n l.length with h | h
  · rw [Nat.min_eq_left h, List.take_of_length_le (by rw [List.length_drop]; exact Nat.le_refl _)]
  · rw [Nat.min_eq_right h, List.drop_length, List.drop_eq_nil_of_le h, List.take_nil]
theorem one_len (c : Nat) : (⟨#[c]⟩ : Str).length = 1 := rfl
def sp__law_names (K : PySem.W.Frag) : Sp := fun vs H Q _ => ∃ (p : Addr) (ks : List Int) (at_ m : Nat), vs = [.ref p, .int (at_ : Int), .int (m : Int)] ∧ Nums K H p ks ∧ 2 ≤ at_ ∧ at_ ≤ 100 ∧ m ≤ 72 ∧
  ∀ H' q, Ex H H' → H q = none → H' q = some (.lst ((names ks at_ m).map V.str)) → Q (.ref q) H'
section
variable {P : Program} {w : World} {K : PySem.W.Frag} {mg : Str → Option Value} {base : Heap} {a : Ad}
theorem G__law_names (T : Txt K mg a) : FnOk P w K mg base CX0 1 a.f__law_names a.d__law_names ["numbers", "at", "many"] (sp__law_names K) := by
  refine T.F__law_names.ok sc__law_names (fun vs H Q E h => ?_) (fun cdv A outer s H vs Q E hr h => ?_)
  · obtain ⟨p, ks, at_, m, rfl, _⟩ := h
    rfl
  · obtain ⟨p, ks, at_, m, rfl, N, a2, a100, m72, k⟩ := h
    have lo := N.lo
    refine ⟨_, (pss_cut (ps_if (pt_cmpR op_eq (pe_op op_mod (pe_callTy call_int1 (by rfl) T.z_int (by decide +kernel) (pa_cons (pe_ix ix_list (pv 0) pe_int (fun _ _ => rfl)) pa_nil)) pe_int) pe_int (nomark _)) (pss_one (ps_set (i := 1) sc__law_names.nd rfl (Or.inl rfl) pe_int)) pss_nil)
      (pss_cons (ps_set (i := 3) sc__law_names.nd rfl (Or.inl rfl) pe_str)
      (pss_cons (ps_set (i := 4) sc__law_names.nd rfl (Or.inl rfl) (pe_ix ix_str (pv 3) (pe_op op_mod (pe_callTy call_int1 (by rfl) T.z_int (by decide +kernel) (pa_cons (pe_ix ix_list (pv 0) (pv 1) (fun _ _ => rfl)) pa_nil)) pe_int) (fun _ _ => rfl)))
      (pss_cons (ps_for PassesOwn.never rfl (pi_range1 (by rfl) T.z_range (pa_cons (pe_op op_mod (pe_callTy call_int1 (by rfl) T.z_int (by decide +kernel) (pa_cons (pe_ix ix_list (pv 0) (pe_op op_add (pv 1) pe_int) (fun _ _ => rfl)) pa_nil)) pe_int) pa_nil)) (pg_name (i := 5) sc__law_names.nd rfl (Or.inl rfl)) (pss_one (ps_set (i := 4) sc__law_names.nd rfl (Or.inl rfl) (pe_op op_add_str (pv 4) (pe_ix ix_str (pv 3) (pe_op op_mod (pe_callTy call_int1 (by rfl) T.z_int (by decide +kernel) (pa_cons (pe_op op_add (pe_ix ix_list (pv 0) (pe_op op_add (pv 1) pe_int) (fun _ _ => rfl)) (pe_op op_mul (pv 5) (pe_ix ix_list (pv 0) (pe_op op_add (pv 1) pe_int) (fun _ _ => rfl)))) pa_nil)) pe_int) (fun _ _ => rfl))))))
      (pss_cons (ps_set (i := 6) sc__law_names.nd rfl (Or.inl rfl) (pe_op op_add pe_int (pe_op op_modN (pe_callTy call_int1 (by rfl) T.z_int (by decide +kernel) (pa_cons (pe_ix ix_list (pv 0) (pe_op op_add (pv 1) pe_int) (fun _ _ => rfl)) pa_nil)) (pe_callB call_len_str (by rfl) T.z_len PySem.boot_len (pa_cons (pv 4) pa_nil)))))
      (pss_cons (ps_set (i := 7) sc__law_names.nd rfl (Or.inl rfl) (pe_callTy call_int1 (by rfl) T.z_int (by decide +kernel) (pa_cons (pe_ix ix_list (pv 0) (pe_op op_add (pv 1) pe_int) (fun _ _ => rfl)) pa_nil)))
      (pss_cons (ps_set (i := 8) sc__law_names.nd rfl (Or.inl rfl) (pe_lst pa_nil))
      (pss_cons (ps_for PassesOwn.never rfl (pi_range1 (by rfl) T.z_range (pa_cons (pv 2) pa_nil)) (pg_name (i := 5) sc__law_names.nd rfl (Or.inl rfl)) (pss_cons (ps_set (i := 9) sc__law_names.nd rfl (Or.inl rfl) (pe_ix ix_list (pe_lst (pa_cons pe_str (pa_cons pe_str pa_nil))) (pe_callTy call_int1 (by rfl) T.z_int (by decide +kernel) (pa_cons (pe_cmpR op_ge (pv 5) pe_int (nomark _)) pa_nil)) (fun _ _ => rfl)))
        (pss_one (ps_expr (pe_bm PySem.F.plainAttrs_list PySem.F.slot_list_append PySem.F.type_list_append mt_append (pv 8) (pa_cons (pe_op op_add_str (pe_op op_add_str (pe_op op_add_str (pe_slice sl_str (pv 4) po_none (po_some (pv 6))) (pe_ix ix_str (pv 3) (pe_op op_mod (pe_callTy call_int1 (by rfl) T.z_int (by decide +kernel) (pa_cons (pe_op op_add (pv 7) (pe_op op_mul pe_int (pv 5))) pa_nil)) pe_int) (fun _ _ => rfl))) (pv 9)) (pe_slice sl_str (pv 4) (po_some (pv 6)) po_none)) pa_nil))))))
      (pss_one (ps_ret (pv 8))))))))))), ?_⟩
    obtain ⟨n1, _, hn1, en1⟩ := num_in (ks := ks) (i := 1) (by decide) (by omega)
    refine ⟨fun σ H' => σ = [some (.ref p), some (.int ((bas ks at_ : Nat) : Int)), some (.int (m : Int)), none, none, none, none, none, none, none] ∧ H' = H, ?_, ?_⟩
    · refine ⟨_, rfl, p, _, _, _, rfl, rfl, N.at_, hn1, .inl ⟨_, rfl, _, _, rfl, rfl, (by show (0 : Int) < 5; decide), rfl, _, rfl, ?_⟩⟩
      have en : n1 = ks.getD 1 0 := en1
      refine ite2 (fun h => ?_) (fun h => ?_)
      · refine ⟨?_, rfl⟩
        have q : ks.getD 1 0 % 5 = 1 := by
          rw [← en]
          exact V.int.inj (of_decide_eq_true h)
        unfold bas
        rw [if_pos q]
        rfl
      · refine ⟨?_, rfl⟩
        have q : ¬ ks.getD 1 0 % 5 = 1 := fun z => h (decide_eq_true (by rw [en]; exact congrArg V.int z))
        unfold bas
        rw [if_neg q]
        rfl
    rintro σ H' ⟨rfl, hH⟩
    rw [hH]
    clear hH H'
    have bb : 2 ≤ bas ks at_ ∧ bas ks at_ ≤ 100 := by
      unfold bas
      split <;> omega
    generalize hbv : bas ks at_ = b at bb
    have kb : nameOf ks at_ = fun k => tx (codes ks b k) := by
      funext k0
      unfold nameOf
      rw [hbv]
    have get : ∀ j : Nat, j ≤ 5 → atI (ks.map V.int) ((b : Int) + (j : Int)) = some (.int (ks.getD (b + j) 0)) := fun j hj => by
      obtain ⟨n, _, h1, h2⟩ := num_in (ks := ks) (i := (b : Int) + (j : Int)) (by omega) (by omega)
      rw [h1, h2, show ((b : Int) + (j : Int)).toNat = b + j by omega]
    have get0 : atI (ks.map V.int) (b : Int) = some (.int (ks.getD b 0)) := by
      have z := get 0 (by omega)
      simpa using z
    have s36 : ("abcdefghijklmnopqrstuvwxyz0123456789" : Str).length ≤ sizeLine := by decide +kernel
    -- prefix
    have w0 := Int.emod_nonneg (ks.getD b 0) (show (26 : Int) ≠ 0 by decide)
    have w1 := Int.emod_lt_of_pos (ks.getD b 0) (show (0 : Int) < 26 by decide)
    refine ⟨_, rfl, _, rfl, _, rfl, p, _, _, _, rfl, rfl, N.at_, get0, .inl ⟨_, rfl, _, _, rfl, rfl, (by show (0 : Int) < 26; decide), _, _, _, rfl, rfl, s36, ch_get w0 (by omega), ?_⟩⟩
    have u0 := Int.emod_nonneg (ks.getD (b + 1) 0) (show (10 : Int) ≠ 0 by decide)
    have u1 := Int.emod_lt_of_pos (ks.getD (b + 1) 0) (show (0 : Int) < 10 by decide)
    refine ⟨_, rfl, _, rfl, _, _, rfl, rfl, p, _, _, _, rfl, rfl, N.at_, get 1 (by omega), .inl ⟨_, rfl, _, _, rfl, rfl, (by show (0 : Int) < 10; decide), _, rfl, by omega, by omega, ?_⟩⟩
    refine for_range (n := (ks.getD (b + 1) 0 % 10).toNat) (fun i σ H' => ∃ v5, σ = [some (.ref p), some (.int (b : Int)), some (.int (m : Int)), some (.str "abcdefghijklmnopqrstuvwxyz0123456789"), some (.str (tx (preN ks b i))), v5, none, none, none, none] ∧ H' = H) ⟨none, rfl, rfl⟩ ?_ ?_
    · rintro i σ H' hi ⟨v5, rfl, hH⟩
      rw [hH]
      have pl : (preN ks b i).length = i + 1 := by
        unfold preN
        rw [List.length_cons, List.length_map, List.length_range]
      refine ⟨_, rfl, _, rfl, _, rfl, _, rfl, _, _, rfl, rfl, p, _, _, _, rfl, rfl, N.at_, get 2 (by omega), _, rfl, _, rfl, _, rfl, _, _, rfl, rfl, p, _, _, _, rfl, rfl, N.at_, get 3 (by omega), _, _, rfl, rfl, .inl ⟨by omega, by omega⟩, _, _, rfl, rfl, .inl ⟨_, rfl, _, _, rfl, rfl, (by show (0 : Int) < 36; decide), _, _, _, rfl, rfl, s36, ch_get (m36 _).1 (m36 _).2, _, _, rfl, rfl, sz_of ?_, ?_⟩⟩
      · rw [tx_len, pl, one_len]
        omega
      · refine ⟨some (.int (0 + (i : Int))), ?_, rfl⟩
        rw [tx_one, tx_add]
        have st : preN ks b (i + 1) = preN ks b i ++ [chAt ((ks.getD (b + 2) 0 + (0 + (i : Int)) * ks.getD (b + 3) 0) % 36)] := by
          unfold preN
          rw [List.range_succ, List.map_append, Int.zero_add]
          rfl
        rw [st]
        rfl
    rintro σ H' ⟨v5, rfl, hH⟩
    rw [hH]
    clear hH H'
    have pl := pre_len ks b
    have pq := plc_le ks b
    have ple : (pre ks b).length ≤ 100000 := by omega
    -- place, shift, names
    refine ⟨_, rfl, _, rfl, _, _, rfl, rfl, p, _, _, _, rfl, rfl, N.at_, get 4 (by omega), .inl ⟨_, rfl, _, rfl, _, rfl, sz_of (by rw [tx_len]; exact ple), _, _, rfl, rfl, by rw [tx_len]; show (((pre ks b).length : Nat) : Int) ≠ 0; omega, _, _, rfl, rfl, ?_⟩⟩
    refine ⟨_, rfl, _, rfl, _, _, rfl, rfl, p, _, _, _, rfl, rfl, N.at_, get 5 (by omega), .inl ⟨_, rfl, ?_⟩⟩
    refine ⟨Nat.zero_le _, fun q hq => ?_⟩
    have eplc : 1 + (ks.getD (b + 4) 0).fmod (((tx (preN ks b (ks.getD (b + 1) 0 % 10).toNat)).length : Nat) : Int) = ((plc ks b : Nat) : Int) := by
      rw [tx_len]
      have p0 : (0 : Int) < (((pre ks b).length : Nat) : Int) := by omega
      have z1 := Int.fmod_nonneg_of_pos (ks.getD (b + 4) 0) p0
      unfold plc
      show 1 + (ks.getD (b + 4) 0).fmod (((pre ks b).length : Nat) : Int) = _
      omega
    refine ⟨_, rfl, _, rfl, by omega, by omega, for_range (n := (m : Int).toNat) (fun i σ H' => ∃ v5 v9, σ = [some (.ref p), some (.int (b : Int)), some (.int (m : Int)), some (.str "abcdefghijklmnopqrstuvwxyz0123456789"), some (.str (tx (pre ks b))), v5, some (.int ((plc ks b : Nat) : Int)), some (.int (ks.getD (b + 5) 0)), some (.ref q), v9] ∧ Ex H H' ∧ H' q = some (.lst ((names ks at_ i).map V.str))) ?_ ?_ ?_⟩
    · refine ⟨v5, none, ?_, Ex.new hq, upd_same⟩
      exact congrArg (fun x : Int => [some (V.ref p), some (V.int (b : Int)), some (V.int (m : Int)), some (V.str "abcdefghijklmnopqrstuvwxyz0123456789"), some (V.str (tx (pre ks b))), v5, some (V.int x), some (V.int (ks.getD (b + 5) 0)), some (V.ref q), none]) eplc
    · rintro i σ H' hi ⟨v5, v9, rfl, e, hL⟩
      refine ⟨by show 2 ≤ sizeLine; decide, fun l hl => ?_⟩
      have e2 : Ex H (upd H' l (.lst [.str "", .str "q"])) := e.trans (Ex.new hl)
      have hL2 : (upd H' l (.lst [.str "", .str "q"])) q = some (.lst ((names ks at_ i).map V.str)) := Ex.new hl _ _ hL
      have tl : atI [V.str "", V.str "q"] (if decide ((36 : Int) ≤ 0 + (i : Int)) = true then 1 else 0) = some (.str (tx (tailN i))) := by
        unfold tailN
        by_cases h : 36 ≤ i
        · rw [if_pos (decide_eq_true (by omega)), if_pos h]
          exact atI_nat (j := 1) rfl
        · rw [if_neg (fun z => h (by have := of_decide_eq_true z; omega)), if_neg h]
          exact atI_nat (j := 0) rfl
      refine ⟨_, rfl, _, _, rfl, rfl, .inr ⟨_, rfl, l, _, _, _, rfl, rfl, SqL.of upd_same, tl, ?_⟩⟩
      generalize upd H' l (.lst [.str "", .str "q"]) = H2 at e2 hL2
      refine ⟨_, rfl, .inl ⟨rfl, _, SqL.of hL2⟩, ?_⟩
      have ls : (tx (pre ks b)).length ≤ sizeLine := sz_of (by rw [tx_len]; exact ple)
      refine ⟨_, rfl, _, rfl, _, rfl, _, rfl, ls, _, rfl, _, rfl, _, rfl, _, _, rfl, rfl, .inl ⟨by decide, by decide⟩, _, _, rfl, rfl, .inl ⟨_, rfl, _, _, rfl, rfl, (by show (0 : Int) < 36; decide), _, _, _, rfl, rfl, s36, ch_get (m36 _).1 (m36 _).2, _, _, rfl, rfl, sz_of ?_, _, rfl, _, _, rfl, rfl, sz_of ?_, _, rfl, _, rfl, _, rfl, _, rfl, ls, _, _, rfl, rfl, sz_of ?_, q, _, _, rfl, rfl, hL2, sz_lt (by rw [List.length_map, names_len]; omega), ?_⟩⟩
      · rw [tx_to, tx_len, one_len, List.length_take]
        omega
      · rw [tx_to, Str.length_append, one_len, tx_len, tx_len, tail_len, List.length_take]
        split <;> omega
      · rw [tx_to, tx_from, Str.length_append, Str.length_append, one_len, tx_len, tx_len, tx_len, tail_len, List.length_take, List.length_drop]
        split <;> omega
      · refine ⟨_, _, rfl, e2.mut hq, ?_⟩
        rw [upd_same, names_more, List.map_append, tx_to, tx_from, tx_one, tx_add, tx_add, tx_add, kb]
        show some (HO.lst (_ ++ [V.str (tx _)])) = some (HO.lst (_ ++ [V.str (tx (codes ks b i))]))
        unfold codes
        rw [Int.zero_add, List.append_assoc, List.append_assoc]
    · rintro σ H' ⟨v5, v9, rfl, e, hL⟩
      exact ⟨_, rfl, k H' q e hq hL⟩
end
end EV

set_option Elab.async false
set_option linter.all false
set_option maxRecDepth 100000
set_option maxHeartbeats 4000000
namespace EV
open PySem PySem.Spec PyProof.Rows L2 EvS Evl
/-! ### a heap without one place -/
def del (H : Hp) (D : Addr) : Hp := fun a => if a = D then none else H a
theorem del_upd {H : Hp} {D : Addr} {o : HO} : del (upd H D o) D = del H D := by
  funext a
  unfold del
  by_cases h : a = D
  · rw [if_pos h, if_pos h]
  · rw [if_neg h, if_neg h, upd_ne h]
theorem del_ex {H : Hp} {D : Addr} : Ex (del H D) H := fun a o h => by
  unfold del at h
  split at h
  · cases h
  · exact h
theorem ex_del {H H' : Hp} {D : Addr} (e : Ex H H') : Ex (del H D) (del H' D) := fun a o h => by
  unfold del at h ⊢
  split at h
  · cases h
  · rename_i n
    rw [if_neg n]
    exact e _ _ h
theorem ex_to_del {H H' : Hp} {D : Addr} (e : Ex H H') (h : H D = none) : Ex H (del H' D) := fun a o q => by
  unfold del
  rw [if_neg (ne_of_none q h)]
  exact e _ _ q
theorem del_at {H : Hp} {D a : Addr} {o : HO} (n : a ≠ D) (h : H a = some o) : del H D a = some o := by
  unfold del
  rw [if_neg n]
  exact h
theorem dps_drop {K : PySem.W.Frag} {H : Hp} : ∀ {vs : List V} {ds : List PyData} (n : Nat), DpAll K H vs ds → DpAll K H (vs.drop n) (ds.drop n)
  | _, _, 0, h => h
  | _, _, _ + 1, .nil => .nil
  | _, _, n + 1, .cons _ r => dps_drop n r
theorem dps_take {K : PySem.W.Frag} {H : Hp} : ∀ {vs : List V} {ds : List PyData} (n : Nat), DpAll K H vs ds → DpAll K H (vs.take n) (ds.take n)
  | _, _, 0, _ => .nil
  | _, _, _ + 1, .nil => .nil
  | _, _, n + 1, .cons h r => .cons h (dps_take n r)
theorem cut_from (xs : List V) (n : Nat) : cutV xs (some (n : Int)) none = xs.drop n := by
  unfold cutV
  rw [HT.sIx_nat, HT.sIx_none]
  rcases Nat.le_total n xs.length with h | h
  · rw [Nat.min_eq_left h, List.take_of_length_le (by rw [List.length_drop]; exact Nat.le_refl _)]
  · rw [Nat.min_eq_right h, List.drop_length, List.drop_eq_nil_of_le h, List.take_nil]
theorem cut_to (xs : List V) (n : Nat) : cutV xs none (some (n : Int)) = xs.take n := by
  unfold cutV
  rw [HT.sIx_nat, HT.sIx_none, List.drop_zero, Nat.sub_zero]
  rcases Nat.le_total n xs.length with h | h
  · rw [Nat.min_eq_left h]
  · rw [Nat.min_eq_right h, List.take_length, List.take_of_length_le h]
/-! ### pairs of places, by their numbers -/
def dIdx (ps : List Str) (q : Nat × Nat) : PyData := .tuple [.str (ps.getD q.1 ""), .str (ps.getD q.2 "")]
theorem getD_in {ps : List Str} {i : Nat} (h : i < ps.length) : ps.getD i "" ∈ ps ∧ ps[i]? = some (ps.getD i "") := by
  rw [List.getD_eq_getElem?_getD, List.getElem?_eq_getElem h]
  exact ⟨List.getElem_mem h, rfl⟩
theorem getD_inj {ps : List Str} (nd : ps.Nodup) {i j : Nat} (hi : i < ps.length) (hj : j < ps.length) (e : ps.getD i "" = ps.getD j "") : i = j := by
  rw [List.getD_eq_getElem?_getD, List.getElem?_eq_getElem hi, List.getD_eq_getElem?_getD, List.getElem?_eq_getElem hj] at e
  rcases Nat.lt_trichotomy i j with h | h | h
  · exact absurd e (List.pairwise_iff_getElem.mp nd i j hi hj h)
  · exact h
  · exact absurd e.symm (List.pairwise_iff_getElem.mp nd j i hj hi h)
theorem idx_ne {ps : List Str} (nd : ps.Nodup) {q r : Nat × Nat} (hq : q.1 < q.2 ∧ q.2 < ps.length) (hr : r.1 < r.2 ∧ r.2 < ps.length) (ne : q ≠ r) : ¬ [ps.getD q.1 "", ps.getD q.2 ""].Perm [ps.getD r.1 "", ps.getD r.2 ""] := fun p => by
  have inj := fun {i j : Nat} (hi : i < ps.length) (hj : j < ps.length) e => getD_inj nd hi hj e
  have h1 : q.1 = r.1 ∨ q.1 = r.2 := by
    have z := p.mem_iff.mp (List.mem_cons_self : ps.getD q.1 "" ∈ _)
    rcases List.mem_cons.mp z with z | z
    · exact .inl (inj (by omega) (by omega) z)
    · exact .inr (inj (by omega) (by omega) (List.mem_singleton.mp z))
  have h2 : q.2 = r.1 ∨ q.2 = r.2 := by
    have z := p.mem_iff.mp (List.mem_cons_of_mem _ (List.mem_singleton.mpr rfl) : ps.getD q.2 "" ∈ [ps.getD q.1 "", ps.getD q.2 ""])
    rcases List.mem_cons.mp z with z | z
    · exact .inl (inj (by omega) (by omega) z)
    · exact .inr (inj (by omega) (by omega) (List.mem_singleton.mp z))
  refine ne (Prod.ext ?_ ?_) <;> omega
theorem idx_apart {ps : List Str} (nd : ps.Nodup) {I : List (Nat × Nat)} : ∀ {pa : List (Str × Str × Int)}, I.Nodup → (∀ q ∈ I, q.1 < q.2 ∧ q.2 < ps.length) → All2 (fun (x : Str × Str × Int) (q : Nat × Nat) => [x.1, x.2.1].Perm [ps.getD q.1 "", ps.getD q.2 ""] ∧ 1 ≤ x.2.2 ∧ x.2.2 ≤ 1000) pa I → (pa.map fun p => (p.1, p.2.1)).Pairwise Apart ∧ ∀ p ∈ pa, PathOk ps p := by
  induction I with
  | nil =>
    intro pa _ _ h
    cases h
    exact ⟨List.Pairwise.nil, fun p hp => by cases hp⟩
  | cons q I ih =>
    intro pa hn hI h
    cases h with
    | @cons x _ xs _ hx r =>
      rw [List.nodup_cons] at hn
      obtain ⟨h1, h2⟩ := ih hn.2 (fun q hq => hI q (List.mem_cons_of_mem _ hq)) r
      have hq := hI q List.mem_cons_self
      refine ⟨?_, fun p hp => ?_⟩
      · rw [List.map_cons, List.pairwise_cons]
        refine ⟨fun y hy pm => ?_, h1⟩
        obtain ⟨z, hz, rfl⟩ := List.mem_map.mp hy
        obtain ⟨i, hi, ei⟩ := List.getElem_of_mem hz
        obtain ⟨r2, hr2, p2⟩ := r.at i (show xs[i]? = some z by rw [List.getElem?_eq_getElem hi, ei])
        have hm := List.mem_of_getElem? hr2
        exact idx_ne nd hq (hI r2 (List.mem_cons_of_mem _ hm)) (fun e => hn.1 (e ▸ hm)) (hx.1.symm.trans (pm.trans p2.1))
      · rcases List.mem_cons.mp hp with rfl | hp
        · have g1 := (getD_in (ps := ps) (i := q.1) (by omega)).1
          have g2 := (getD_in (ps := ps) (i := q.2) (by omega)).1
          have m1 := hx.1.mem_iff.mp (List.mem_cons_self : p.1 ∈ _)
          have m2 := hx.1.mem_iff.mp (List.mem_cons_of_mem _ (List.mem_singleton.mpr rfl) : p.2.1 ∈ [p.1, p.2.1])
          refine ⟨?_, ?_, fun e => ?_, hx.2.1, hx.2.2⟩
          · rcases List.mem_cons.mp m1 with z | z
            · rw [z]; exact g1
            · rw [List.mem_singleton.mp z]; exact g2
          · rcases List.mem_cons.mp m2 with z | z
            · rw [z]; exact g1
            · rw [List.mem_singleton.mp z]; exact g2
          · have z1 := hx.1.symm.mem_iff.mp (List.mem_cons_self : ps.getD q.1 "" ∈ _)
            have z2 := hx.1.symm.mem_iff.mp (List.mem_cons_of_mem _ (List.mem_singleton.mpr rfl) : ps.getD q.2 "" ∈ [ps.getD q.1 "", ps.getD q.2 ""])
            rw [← e] at z1 z2
            have w1 : ps.getD q.1 "" = p.1 := by simpa using z1
            have w2 : ps.getD q.2 "" = p.1 := by simpa using z2
            have := getD_inj nd (by omega) (by omega) (w1.trans w2.symm)
            omega
        · exact h2 p hp
def sp__law_paths (K : PySem.W.Frag) : Sp := fun vs H Q _ => ∃ (p pl : Addr) (ks : List Int) (ps : List Str) (k m : Int), vs = [.ref p, .int k, .ref pl, .int m] ∧ Nums K H p ks ∧ SqL K H pl (ps.map V.str) ∧ Good ps ∧ ps.length ≤ 24 ∧ 0 ≤ k ∧ 0 ≤ m ∧ m ≤ 60 ∧
  ∀ H' q (pa : List (Str × Str × Int)), Ex H H' → H q = none → Dp K H' (.ref q) (.list (pa.map dPath)) → pa.length ≤ 60 → (∀ p ∈ pa, PathOk ps p) → (pa.map fun p => (p.1, p.2.1)).Pairwise Apart → Q (.ref q) H'
section
variable {P : Program} {w : World} {K : PySem.W.Frag} {mg : Str → Option Value} {base : Heap} {a : Ad}
theorem G__law_paths (T : Txt K mg a) : FnOk P w K mg base CX0 2 a.f__law_paths a.d__law_paths ["numbers", "k", "places", "many"] (sp__law_paths K) := by
  refine T.F__law_paths.ok sc__law_paths (fun vs H Q E h => ?_) (fun cdv A outer s H vs Q E hr h => ?_)
  · obtain ⟨p, pl, ks, ps, k0, m, rfl, _⟩ := h
    rfl
  · obtain ⟨p, pl, ks, ps, k0, m, rfl, N, hP, gd, p24, k1, m0, m60, k⟩ := h
    have lp : (ps.map V.str).length = ps.length := List.length_map ..
    refine ⟨_, (pss_cons (ps_set (i := 4) sc__law_paths.nd rfl (Or.inl rfl) (pe_lst pa_nil))
      (pss_cons (ps_for PassesOwn.never rfl (pi_range1 (by rfl) T.z_range (pa_cons (pe_callB call_len_seq (by rfl) T.z_len PySem.boot_len (pa_cons (pv 2) pa_nil)) pa_nil)) (pg_name (i := 5) sc__law_paths.nd rfl (Or.inl rfl)) (pss_one (ps_for PassesOwn.never rfl (pi_list (pe_slice sl_list (pv 2) (po_some (pe_op op_add (pv 5) pe_int)) po_none)) (pg_name (i := 6) sc__law_paths.nd rfl (Or.inl rfl)) (pss_one (ps_expr (pe_bm PySem.F.plainAttrs_list PySem.F.slot_list_append PySem.F.type_list_append mt_append (pv 4) (pa_cons (pe_tup (pa_cons (pe_ix ix_list (pv 2) (pv 5) (fun _ _ => rfl)) (pa_cons (pv 6) pa_nil))) pa_nil)))))))
      (pss_cons (ps_set (i := 7) sc__law_paths.nd rfl (Or.inl rfl) (pe_op op_modN (pe_call (G__law_pick T) (hr.mono (by decide)) (by rfl) T.g__law_pick T.k__law_pick T.B__law_pick .nil pass0 (pa_cons (pv 0) (pa_cons (pv 1) pa_nil))) (pe_callB (call_max2 rfl) (by rfl) T.z_max (by decide +kernel) (pa_cons pe_int (pa_cons (pe_callB call_len_seq (by rfl) T.z_len PySem.boot_len (pa_cons (pv 4) pa_nil)) pa_nil)))))
      (pss_cons (ps_set (i := 4) sc__law_paths.nd rfl (Or.inl rfl) (pe_slice sl_list (pe_op op_cat (pe_slice sl_list (pv 4) (po_some (pv 7)) po_none) (pe_slice sl_list (pv 4) po_none (po_some (pv 7)))) po_none (po_some (pv 3))))
      (pss_cons (ps_set (i := 8) sc__law_paths.nd rfl (Or.inl rfl) (pe_lst pa_nil))
      (pss_cons (ps_for PassesOwn.never rfl (pi_range1 (by rfl) T.z_range (pa_cons (pe_callB call_len_seq (by rfl) T.z_len PySem.boot_len (pa_cons (pv 4) pa_nil)) pa_nil)) (pg_name (i := 5) sc__law_paths.nd rfl (Or.inl rfl)) (pss_cons (ps_asg (pe_ix ix_list (pv 4) (pv 5) (fun _ _ => rfl)) (pg_tup (by rfl) (pgs_cons (pg_name (i := 9) sc__law_paths.nd rfl (Or.inl rfl)) (pgs_cons (pg_name (i := 6) sc__law_paths.nd rfl (Or.inl rfl)) pgs_nil))))
        (pss_cons (ps_if (pt_cmpR op_eq (pe_op op_mod (pe_call (G__law_pick T) (hr.mono (by decide)) (by rfl) T.g__law_pick T.k__law_pick T.B__law_pick .nil pass0 (pa_cons (pv 0) (pa_cons (pe_op op_add (pe_op op_add (pv 1) pe_int) (pv 5)) pa_nil))) pe_int) pe_int (nomark _)) (pss_one (ps_par (i := 9) (j := 6) (by rfl) sc__law_paths.nd rfl rfl (by decide) rfl rfl (pa_cons (pv 6) (pa_cons (pv 9) pa_nil)) (by rfl))) pss_nil)
        (pss_one (ps_expr (pe_bm PySem.F.plainAttrs_list PySem.F.slot_list_append PySem.F.type_list_append mt_append (pv 8) (pa_cons (pe_tup (pa_cons (pv 9) (pa_cons (pv 6) (pa_cons (pe_ix ix_list (pe_lst (pa_cons pe_int (pa_cons pe_int (pa_cons (pe_op op_add pe_int (pe_op op_mod (pe_call (G__law_pick T) (hr.mono (by decide)) (by rfl) T.g__law_pick T.k__law_pick T.B__law_pick .nil pass0 (pa_cons (pv 0) (pa_cons (pe_op op_add (pe_op op_add (pv 1) pe_int) (pv 5)) pa_nil))) pe_int)) pa_nil)))) (pe_op op_mod (pe_call (G__law_pick T) (hr.mono (by decide)) (by rfl) T.g__law_pick T.k__law_pick T.B__law_pick .nil pass0 (pa_cons (pv 0) (pa_cons (pe_op op_add (pe_op op_add (pv 1) pe_int) (pv 5)) pa_nil))) pe_int) (fun _ _ => rfl)) pa_nil)))) pa_nil)))))))
      (pss_one (ps_ret (pv 8))))))))), ?_⟩
    have pat : ∀ {i : Nat}, i < ps.length → atI (ps.map V.str) (0 + (i : Int)) = some (.str (ps.getD i "")) := fun {i} hi => by
      rw [Int.zero_add]
      exact atI_nat (by rw [List.getElem?_map, (getD_in hi).2] <;> rfl)
    refine ⟨Nat.zero_le _, fun D hD => ?_⟩
    refine ⟨_, rfl, pl, _, rfl, .inl (ex_l (Ex.new hD) hP), _, rfl, by omega, by omega, for_range (n := (((ps.map V.str).length : Nat) : Int).toNat) (fun i σ H' => ∃ (vs : List V) (I : List (Nat × Nat)) (v5 v6 : Option V), σ = [some (.ref p), some (.int k0), some (.ref pl), some (.int m), some (.ref D), v5, v6, none, none, none] ∧ Ex H H' ∧ H' D = some (.lst vs) ∧ DpAll K (del H' D) vs (I.map (dIdx ps)) ∧ I.length ≤ 24 * i ∧ I.Nodup ∧ ∀ q ∈ I, q.1 < i ∧ q.1 < q.2 ∧ q.2 < ps.length) ?_ ?_ ?_⟩
    · exact ⟨[], [], none, none, rfl, Ex.new hD, upd_same, .nil, Nat.zero_le _, List.nodup_nil, fun q h => by cases h⟩
    · rintro i σ H1 hi ⟨vs, I, v5, v6, rfl, e1, hV, hd, hl, nd, hI⟩
      have hi' : i < ps.length := by rw [lp] at hi; omega
      refine ⟨_, rfl, _, rfl, _, _, rfl, rfl, _, rfl, pl, _, rfl, ex_l e1 hP, fun q hq => ?_⟩
      have qD : q ≠ D := fun z => by rw [z, hV] at hq; cases hq
      have ce : cutV (ps.map V.str) (some (0 + (i : Int) + 1)) none = (ps.drop (i + 1)).map V.str := by
        rw [show (0 + (i : Int) + 1) = ((i + 1 : Nat) : Int) by omega, cut_from, List.map_drop]
      rw [ce]
      refine ⟨q, rfl, ⟨_, SqL.of upd_same⟩, for_list (K := K) (a := q) (xs := (ps.drop (i + 1)).map V.str) (fun j σ H' => ∃ (vs : List V) (I : List (Nat × Nat)) (v6 : Option V), σ = [some (.ref p), some (.int k0), some (.ref pl), some (.int m), some (.ref D), some (.int (0 + (i : Int))), v6, none, none, none] ∧ Ex H H' ∧ H' q = some (.lst ((ps.drop (i + 1)).map V.str)) ∧ H' D = some (.lst vs) ∧ DpAll K (del H' D) vs (I.map (dIdx ps)) ∧ I.length ≤ 24 * i + j ∧ I.Nodup ∧ ∀ q ∈ I, (q.1 < i ∨ (q.1 = i ∧ q.2 < i + 1 + j)) ∧ q.1 < q.2 ∧ q.2 < ps.length) ?_ ?_ ?_ ?_⟩
      · refine ⟨vs, I, v6, rfl, e1.trans (Ex.new hq), upd_same, Ex.new hq _ _ hV, dps_ex (ex_del (Ex.new hq)) hd, by omega, nd, fun r hr => ?_⟩
        obtain ⟨z1, z2, z3⟩ := hI r hr
        exact ⟨.inl z1, z2, z3⟩
      · rintro j σ H' _ ⟨vs, I, v6, rfl, e, hq2, _⟩
        exact SqL.of hq2
      · rintro j y σ H2 hy ⟨vs, I, v6, rfl, e2, hq2, hV2, hd2, hl2, nd2, hI2⟩
        have hj : i + 1 + j < ps.length := by
          have := (List.getElem?_eq_some_iff.mp hy).1
          rw [List.length_map, List.length_drop] at this
          omega
        have ey : y = .str (ps.getD (i + 1 + j) "") := by
          rw [List.getElem?_map, List.getElem?_drop, (getD_in hj).2] at hy
          exact (Option.some.inj hy).symm
        subst ey
        have vl : vs.length = I.length := by rw [dps_len hd2, List.length_map]
        refine ⟨_, rfl, .inl ⟨rfl, _, SqL.of hV2⟩, _, rfl, _, rfl, pl, _, _, _, rfl, rfl, ex_l e2 hP, pat hi', _, rfl, by show 2 ≤ sizeLine; decide, fun t ht => ?_⟩
        have tD : t ≠ D := fun z => by rw [z, hV2] at ht; cases ht
        refine ⟨D, vs, _, rfl, rfl, Ex.new ht _ _ hV2, sz_lt (by omega), vs ++ [.ref t], I ++ [(i, i + 1 + j)], _, rfl, (e2.trans (Ex.new ht)).mut hD, ?_, upd_same, ?_, by rw [List.length_append, List.length_singleton]; omega, ?_, fun r hr => ?_⟩
        · rw [upd_ne qD]
          exact Ex.new ht _ _ hq2
        · rw [del_upd, List.map_append]
          exact dps_app (dps_ex (ex_del (Ex.new ht)) hd2) (dps_one (.tup (st_of (del_at tD upd_same)) (.cons (.str _) (.cons (.str _) .nil))))
        · refine List.nodup_append.mpr ⟨nd2, List.nodup_cons.mpr ⟨by simp, List.nodup_nil⟩, fun x hx y hy z => ?_⟩
          rw [List.mem_singleton.mp hy] at z
          obtain ⟨h1, _⟩ := hI2 x hx
          rw [z] at h1
          rcases h1 with h1 | h1
          · exact absurd h1 (Nat.lt_irrefl _)
          · exact absurd h1.2 (Nat.lt_irrefl _)
        · rcases List.mem_append.mp hr with z | z
          · obtain ⟨h1, h2⟩ := hI2 r z
            exact ⟨by omega, h2⟩
          · rw [List.mem_singleton.mp z]
            exact ⟨.inr ⟨rfl, Nat.lt_succ_self _⟩, by show i < i + 1 + j; omega, hj⟩
      · rintro σ H2 ⟨vs, I, v6, rfl, e2, hq2, hV2, hd2, hl2, nd2, hI2⟩
        have : ((ps.drop (i + 1)).map V.str).length ≤ 24 := by rw [List.length_map, List.length_drop]; omega
        refine ⟨vs, I, _, _, rfl, e2, hV2, hd2, by omega, nd2, fun r hr => ?_⟩
        obtain ⟨h1, h2⟩ := hI2 r hr
        exact ⟨by omega, h2⟩
    rintro σ H1 ⟨vs, I, v5, v6, rfl, e1, hV, hd, hl, nd, hI⟩
    have vl : vs.length = I.length := by rw [dps_len hd, List.length_map]
    have il : I.length ≤ 576 := by
      have : (((ps.map V.str).length : Nat) : Int).toNat ≤ 24 := by omega
      omega
    -- turn
    refine ⟨_, rfl, _, rfl, p, ks, _, rfl, N.ex e1, k1, fun x x0 => ⟨_, rfl, D, _, rfl, .inl (SqL.of hV), _, _, rfl, _, _, rfl, rfl, by split <;> omega, ?_⟩⟩
    have t0 : 0 ≤ x.fmod (if ((vs.length : Nat) : Int) > 1 then ((vs.length : Nat) : Int) else 1) := Int.fmod_nonneg_of_pos _ (by split <;> omega)
    obtain ⟨t, et⟩ : ∃ t : Nat, x.fmod (if ((vs.length : Nat) : Int) > 1 then ((vs.length : Nat) : Int) else 1) = (t : Int) := ⟨_, (Int.toNat_of_nonneg t0).symm⟩
    -- pairs
    refine ⟨_, rfl, _, rfl, _, rfl, D, _, rfl, SqL.of hV, fun q1 h1 => ?_⟩
    refine ⟨_, rfl, _, rfl, _, rfl, D, _, rfl, SqL.of (Ex.new h1 _ _ hV), fun q2 h2 => ?_⟩
    have c1 := cutV_length vs (some (x.fmod (if ((vs.length : Nat) : Int) > 1 then ((vs.length : Nat) : Int) else 1))) none
    have c2 := cutV_length vs none (some (x.fmod (if ((vs.length : Nat) : Int) > 1 then ((vs.length : Nat) : Int) else 1)))
    refine ⟨q1, q2, _, _, rfl, rfl, Ex.new h2 _ _ upd_same, upd_same, sz_of (by omega), fun q3 h3 => ?_⟩
    refine ⟨_, rfl, _, rfl, q3, _, rfl, SqL.of upd_same, fun q4 h4 => ?_⟩
    obtain ⟨mn, em⟩ : ∃ mn : Nat, m = (mn : Int) := ⟨_, (Int.toNat_of_nonneg m0).symm⟩
    have cc : cutV (cutV vs (some (x.fmod (if ((vs.length : Nat) : Int) > 1 then ((vs.length : Nat) : Int) else 1))) none ++ cutV vs none (some (x.fmod (if ((vs.length : Nat) : Int) > 1 then ((vs.length : Nat) : Int) else 1)))) none (some m) = (vs.drop t ++ vs.take t).take mn := by
      rw [et, cut_from, cut_to, em, cut_to]
    rw [cc]
    have a1 : Ex H1 (upd (upd (upd (upd H1 q1 (.lst (cutV vs (some (x.fmod (if ((vs.length : Nat) : Int) > 1 then ((vs.length : Nat) : Int) else 1))) none))) q2 (.lst (cutV vs none (some (x.fmod (if ((vs.length : Nat) : Int) > 1 then ((vs.length : Nat) : Int) else 1)))))) q3 (.lst (cutV vs (some (x.fmod (if ((vs.length : Nat) : Int) > 1 then ((vs.length : Nat) : Int) else 1))) none ++ cutV vs none (some (x.fmod (if ((vs.length : Nat) : Int) > 1 then ((vs.length : Nat) : Int) else 1)))))) q4 (.lst ((vs.drop t ++ vs.take t).take mn))) := (((Ex.new h1).trans (Ex.new h2)).trans (Ex.new h3)).trans (Ex.new h4)
    have hq4 : (upd (upd (upd (upd H1 q1 (.lst (cutV vs (some (x.fmod (if ((vs.length : Nat) : Int) > 1 then ((vs.length : Nat) : Int) else 1))) none))) q2 (.lst (cutV vs none (some (x.fmod (if ((vs.length : Nat) : Int) > 1 then ((vs.length : Nat) : Int) else 1)))))) q3 (.lst (cutV vs (some (x.fmod (if ((vs.length : Nat) : Int) > 1 then ((vs.length : Nat) : Int) else 1))) none ++ cutV vs none (some (x.fmod (if ((vs.length : Nat) : Int) > 1 then ((vs.length : Nat) : Int) else 1)))))) q4 (.lst ((vs.drop t ++ vs.take t).take mn))) q4 = some (.lst ((vs.drop t ++ vs.take t).take mn)) := upd_same
    generalize (upd (upd (upd (upd H1 q1 (.lst (cutV vs (some (x.fmod (if ((vs.length : Nat) : Int) > 1 then ((vs.length : Nat) : Int) else 1))) none))) q2 (.lst (cutV vs none (some (x.fmod (if ((vs.length : Nat) : Int) > 1 then ((vs.length : Nat) : Int) else 1)))))) q3 (.lst (cutV vs (some (x.fmod (if ((vs.length : Nat) : Int) > 1 then ((vs.length : Nat) : Int) else 1))) none ++ cutV vs none (some (x.fmod (if ((vs.length : Nat) : Int) > 1 then ((vs.length : Nat) : Int) else 1)))))) q4 (.lst ((vs.drop t ++ vs.take t).take mn))) = H5 at a1 hq4
    have e5 : Ex H H5 := e1.trans a1
    have hd5 : DpAll K H5 ((vs.drop t ++ vs.take t).take mn) (((I.drop t ++ I.take t).take mn).map (dIdx ps)) := by
      have z := dps_ex (del_ex.trans a1) hd
      rw [List.map_take, List.map_append, List.map_drop, List.map_take]
      exact dps_take mn (dps_app (dps_drop t z) (dps_take t z))
    have pm : (I.drop t ++ I.take t).Perm I := by
      have z : (I.take t ++ I.drop t).Perm I := by rw [List.take_append_drop]
      exact List.perm_append_comm.trans z
    have ndJ : ((I.drop t ++ I.take t).take mn).Nodup := (pm.nodup_iff.mpr nd).sublist (List.take_sublist _ _)
    have hJ : ∀ q ∈ (I.drop t ++ I.take t).take mn, q.1 < q.2 ∧ q.2 < ps.length := fun q hq => (hI q (pm.mem_iff.mp (List.mem_of_mem_take hq))).2
    have lJ : ((I.drop t ++ I.take t).take mn).length ≤ 60 := by rw [List.length_take]; omega
    generalize (I.drop t ++ I.take t).take mn = J at hd5 ndJ hJ lJ
    generalize (vs.drop t ++ vs.take t).take mn = ys at hq4 hd5
    have yl : ys.length = J.length := by rw [dps_len hd5, List.length_map]
    -- paths
    refine ⟨Nat.zero_le _, fun R hR => ?_⟩
    have hq4' := Ex.new hR (o := .lst []) _ _ hq4
    have q4R : q4 ≠ R := ne_of_none hq4 hR
    refine ⟨_, rfl, q4, _, rfl, .inl (SqL.of hq4'), _, rfl, by omega, by omega, for_range (n := ((ys.length : Nat) : Int).toNat) (fun i σ H' => ∃ (us : List V) (pa : List (Str × Str × Int)) (v5 v6 v9 : Option V), σ = [some (.ref p), some (.int k0), some (.ref pl), some (.int m), some (.ref q4), v5, v6, some (.int (x.fmod (if ((vs.length : Nat) : Int) > 1 then ((vs.length : Nat) : Int) else 1))), some (.ref R), v9] ∧ Ex H5 H' ∧ H' R = some (.lst us) ∧ DpAll K (del H' R) us (pa.map dPath) ∧ All2 (fun (x : Str × Str × Int) (q : Nat × Nat) => [x.1, x.2.1].Perm [ps.getD q.1 "", ps.getD q.2 ""] ∧ 1 ≤ x.2.2 ∧ x.2.2 ≤ 1000) pa (J.take i)) ?_ ?_ ?_⟩
    · exact ⟨[], [], _, _, _, rfl, Ex.new hR, upd_same, .nil, .nil⟩
    · rintro i σ H1 hi ⟨us, pa, v5, v6, v9, rfl, f1, hU, hdU, hA⟩
      have hi' : i < J.length := by omega
      have eJ : J[i]? = some (J[i]'hi') := List.getElem?_eq_getElem hi'
      have hin := hJ _ (List.getElem_mem hi')
      obtain ⟨y, hy⟩ : ∃ y, ys[i]? = some y := ⟨ys[i]'(by omega), List.getElem?_eq_getElem (by omega)⟩
      obtain ⟨d, hd1, hd2⟩ := dps_at (dps_ex f1 hd5) hy
      rw [List.getElem?_map, eJ] at hd1
      obtain rfl := Option.some.inj hd1
      generalize J[i]'hi' = b at eJ hin hd2
      have ul : us.length = i := by rw [dps_len hdU, List.length_map, hA.len, List.length_take]; omega
      unfold dIdx at hd2
      cases hd2 with
      | @tup u _ _ hs hr =>
        cases hr with
        | cons a1 hr =>
          cases a1
          cases hr with
          | cons a2 hr =>
            cases a2
            cases hr
            have N1 := N.ex (e5.trans f1)
            refine ⟨_, rfl, _, rfl, q4, _, _, _, rfl, rfl, SqL.of (f1 _ _ hq4), by rw [Int.zero_add]; exact atI_nat hy, u, _, rfl, hs, rfl, _, _, rfl, _, _, rfl, rfl, ?_⟩
            refine ⟨_, rfl, _, rfl, _, _, rfl, rfl, _, rfl, _, _, rfl, rfl, p, ks, _, rfl, N1, by omega, fun x1 _ => ⟨_, _, rfl, rfl, (by show (0 : Int) < 2; decide), rfl, _, rfl, ?_⟩⟩
            refine ite2 (fun _ => ⟨_, rfl, _, rfl, _, _, rfl, ?_⟩) (fun _ => ?_)
            all_goals
              refine ⟨_, rfl, .inl ⟨rfl, _, SqL.of hU⟩, _, rfl, _, rfl, _, rfl, _, rfl, _, _, rfl, rfl, _, rfl, _, _, rfl, rfl, p, ks, _, rfl, N1, by omega, fun x2 _ => ⟨_, _, rfl, rfl, (by show (0 : Int) < 1000; decide), _, _, rfl, rfl, by show 3 ≤ sizeLine; decide, fun l hl => ?_⟩⟩
              have lR : l ≠ R := fun z => by rw [z, hU] at hl; cases hl
              have f2 := f1.trans (Ex.new (o := .lst [.int 1, .int 1000, .int (1 + x2 % 1000)]) hl)
              have hU2 := Ex.new (o := .lst [.int 1, .int 1000, .int (1 + x2 % 1000)]) hl _ _ hU
              have hd3 := dps_ex (ex_del (D := R) (Ex.new (o := .lst [.int 1, .int 1000, .int (1 + x2 % 1000)]) hl)) hdU
              refine ⟨_, rfl, _, rfl, _, _, rfl, rfl, _, rfl, _, _, rfl, rfl, p, ks, _, rfl, N.ex (e5.trans f2), by omega, fun x3 _ => ⟨_, _, rfl, rfl, (by show (0 : Int) < 3; decide), ?_⟩⟩
              have q1 := Int.emod_nonneg x2 (show (1000 : Int) ≠ 0 by decide)
              have q2 := Int.emod_lt_of_pos x2 (show (0 : Int) < 1000 by decide)
              obtain ⟨fv, hf, cf⟩ := at3 (x := V.int 1) (y := V.int 1000) (z := V.int (1 + x2 % 1000)) (Int.emod_nonneg x3 (show (3 : Int) ≠ 0 by decide)) (Int.emod_lt_of_pos x3 (show (0 : Int) < 3 by decide))
              obtain ⟨f, rfl, g1, g2⟩ : ∃ f : Int, fv = .int f ∧ 1 ≤ f ∧ f ≤ 1000 := by
                rcases cf with c | c | c
                · exact ⟨_, c, by decide, by decide⟩
                · exact ⟨_, c, by decide, by decide⟩
                · exact ⟨_, c, by omega, by omega⟩
              refine ⟨l, _, _, _, rfl, rfl, SqL.of upd_same, hf, by show 3 ≤ sizeLine; decide, fun z hz => ?_⟩
              generalize upd H1 l (.lst [.int 1, .int 1000, .int (1 + x2 % 1000)]) = H2 at f2 hU2 hd3 hz
              have zR : z ≠ R := fun zz => by rw [zz, hU2] at hz; cases hz
              first
                | exact ⟨R, us, _, rfl, rfl, Ex.new hz _ _ hU2, sz_lt (by omega), us ++ [.ref z], pa ++ [(ps.getD b.2 "", ps.getD b.1 "", f)], _, _, _, rfl, (f2.trans (Ex.new hz)).mut hR, upd_same, by
                    rw [del_upd, List.map_append]
                    exact dps_app (dps_ex (ex_del (Ex.new hz)) hd3) (dps_one (.tup (st_of (del_at zR upd_same)) (.cons (.str _) (.cons (.str _) (.cons (.int _) .nil))))), by
                    rw [take_one eJ]
                    exact hA.app (.cons ⟨List.Perm.swap _ _ _, g1, g2⟩ .nil)⟩
                | exact ⟨R, us, _, rfl, rfl, Ex.new hz _ _ hU2, sz_lt (by omega), us ++ [.ref z], pa ++ [(ps.getD b.1 "", ps.getD b.2 "", f)], _, _, _, rfl, (f2.trans (Ex.new hz)).mut hR, upd_same, by
                    rw [del_upd, List.map_append]
                    exact dps_app (dps_ex (ex_del (Ex.new hz)) hd3) (dps_one (.tup (st_of (del_at zR upd_same)) (.cons (.str _) (.cons (.str _) (.cons (.int _) .nil))))), by
                    rw [take_one eJ]
                    exact hA.app (.cons ⟨List.Perm.refl _, g1, g2⟩ .nil)⟩
    · rintro σ H1 ⟨us, pa, v5, v6, v9, rfl, f1, hU, hdU, hA⟩
      have ee : ((ys.length : Nat) : Int).toNat = J.length := by omega
      rw [ee, List.take_length] at hA
      obtain ⟨z1, z2⟩ := idx_apart gd.2 ndJ hJ hA
      exact ⟨_, rfl, k H1 R pa (e5.trans f1) (fresh_back e5 hR) (.lst (SqL.of hU) (dps_ex del_ex hdU)) (by rw [hA.len]; exact lJ) z2 z1⟩
end
end EV

set_option Elab.async false
set_option linter.all false
set_option maxRecDepth 100000
set_option maxHeartbeats 4000000
namespace EV
open PySem PySem.Spec PyProof.Rows L2 EvS Evl
theorem other_ne {o y L : Int} (o0 : 0 ≤ o) (oL : o < L) (y0 : 0 ≤ y) (yL : y < L - 1) : 0 ≤ (o + 1 + y).fmod L ∧ (o + 1 + y).fmod L < L ∧ (o + 1 + y).fmod L ≠ o := by
  rw [Int.fmod_eq_emod_of_nonneg _ (by omega)]
  rcases Int.lt_or_le (o + 1 + y) L with h | h
  · rw [Int.emod_eq_of_lt (by omega) h]
    omega
  · have e : o + 1 + y = (o + 1 + y - L) + L := by omega
    rw [e, Int.add_emod_right, Int.emod_eq_of_lt (by omega) (by omega)]
    omega
/-- the names are the drawn ones -/
def Named (ks : List Int) (D : LandD) : Prop := ∃ m1 m2 m3 : Nat, m1 ≤ 4 ∧ m2 ≤ 24 ∧ m3 ≤ 60 ∧ D.ws = names ks 8 m1 ∧ D.ps = names ks 15 m2 ∧ D.ls.map (·.n) = names ks 22 m3
def sp__law_parts (K : PySem.W.Frag) : Sp := fun vs H Q _ => ∃ (p : Addr) (ks : List Int), vs = [.ref p] ∧ Nums K H p ks ∧ ∀ H' q D, Ex H H' → H q = none → Dp K H' (.ref q) (dParts D) → LandOk D → Named ks D → Q (.ref q) H'
section
variable {P : Program} {w : World} {K : PySem.W.Frag} {mg : Str → Option Value} {base : Heap} {a : Ad}
theorem G__law_parts (T : Txt K mg a) : FnOk P w K mg base CX0 3 a.f__law_parts a.d__law_parts ["numbers"] (sp__law_parts K) := by
  refine T.F__law_parts.ok sc__law_parts (fun vs H Q E h => ?_) (fun cdv A outer s H vs Q E hr h => ?_)
  · obtain ⟨p, ks, rfl, _⟩ := h
    rfl
  · obtain ⟨p, ks, rfl, N, k⟩ := h
    have lo := N.lo
    refine ⟨_, (pss_cons (ps_set (i := 1) sc__law_parts.nd rfl (Or.inl rfl) (pe_call (G__law_names T) (hr.mono (by decide)) (by rfl) T.g__law_names T.k__law_names T.B__law_names .nil pass0 (pa_cons (pv 0) (pa_cons pe_int (pa_cons (pe_op op_add pe_int (pe_op op_mod (pe_callTy call_int1 (by rfl) T.z_int (by decide +kernel) (pa_cons (pe_ix ix_list (pv 0) pe_int (fun _ _ => rfl)) pa_nil)) pe_int)) pa_nil)))))
      (pss_cons (ps_set (i := 2) sc__law_parts.nd rfl (Or.inl rfl) (pe_call (G__law_names T) (hr.mono (by decide)) (by rfl) T.g__law_names T.k__law_names T.B__law_names .nil pass0 (pa_cons (pv 0) (pa_cons pe_int (pa_cons (pe_call (G__law_count T) (hr.mono (by decide)) (by rfl) T.g__law_count T.k__law_count T.B__law_count .nil pass0 (pa_cons (pe_ix ix_list (pv 0) pe_int (fun _ _ => rfl)) (pa_cons pe_int (pa_cons pe_int pa_nil)))) pa_nil)))))
      (pss_cons (ps_set (i := 3) sc__law_parts.nd rfl (Or.inl rfl) (pe_call (G__law_names T) (hr.mono (by decide)) (by rfl) T.g__law_names T.k__law_names T.B__law_names .nil pass0 (pa_cons (pv 0) (pa_cons pe_int (pa_cons (pe_op op_mul (pe_call (G__law_count T) (hr.mono (by decide)) (by rfl) T.g__law_count T.k__law_count T.B__law_count .nil pass0 (pa_cons (pe_ix ix_list (pv 0) pe_int (fun _ _ => rfl)) (pa_cons pe_int (pa_cons pe_int pa_nil)))) (pe_callTy call_int1 (by rfl) T.z_int (by decide +kernel) (pa_cons (pe_cmpR op_gt (pe_callB call_len_seq (by rfl) T.z_len PySem.boot_len (pa_cons (pv 2) pa_nil)) pe_int (nomark _)) pa_nil))) pa_nil)))))
      (pss_cons (ps_set (i := 4) sc__law_parts.nd rfl (Or.inl rfl) (pe_lst pa_nil))
      (pss_cons (ps_for PassesOwn.never rfl (pi_range1 (by rfl) T.z_range (pa_cons (pe_callB call_len_seq (by rfl) T.z_len PySem.boot_len (pa_cons (pv 3) pa_nil)) pa_nil)) (pg_name (i := 5) sc__law_parts.nd rfl (Or.inl rfl)) (pss_cons (ps_set (i := 6) sc__law_parts.nd rfl (Or.inl rfl) (pe_op op_add pe_int (pe_op op_mul pe_int (pv 5))))
        (pss_cons (ps_set (i := 7) sc__law_parts.nd rfl (Or.inl rfl) (pe_op op_modN (pe_call (G__law_pick T) (hr.mono (by decide)) (by rfl) T.g__law_pick T.k__law_pick T.B__law_pick .nil pass0 (pa_cons (pv 0) (pa_cons (pv 6) pa_nil))) (pe_callB call_len_seq (by rfl) T.z_len PySem.boot_len (pa_cons (pv 2) pa_nil))))
        (pss_cons (ps_set (i := 8) sc__law_parts.nd rfl (Or.inl rfl) (pe_op op_modN (pe_callTy call_int1 (by rfl) T.z_int (by decide +kernel) (pa_cons (pe_op op_add (pe_op op_add (pv 7) pe_int) (pe_op op_modN (pe_call (G__law_pick T) (hr.mono (by decide)) (by rfl) T.g__law_pick T.k__law_pick T.B__law_pick .nil pass0 (pa_cons (pv 0) (pa_cons (pe_op op_add (pv 6) pe_int) pa_nil))) (pe_op op_sub (pe_callB call_len_seq (by rfl) T.z_len PySem.boot_len (pa_cons (pv 2) pa_nil)) pe_int))) pa_nil)) (pe_callB call_len_seq (by rfl) T.z_len PySem.boot_len (pa_cons (pv 2) pa_nil))))
        (pss_one (ps_expr (pe_bm PySem.F.plainAttrs_list PySem.F.slot_list_append PySem.F.type_list_append mt_append (pv 4) (pa_cons (pe_tup (pa_cons (pe_ix ix_list (pv 3) (pv 5) (fun _ _ => rfl)) (pa_cons (pe_ix ix_list (pv 2) (pv 7) (fun _ _ => rfl)) (pa_cons (pe_ix ix_list (pv 2) (pv 8) (fun _ _ => rfl)) (pa_cons (pe_call (G__law_times T) (hr.mono (by decide)) (by rfl) T.g__law_times T.k__law_times T.B__law_times .nil pass0 (pa_cons (pv 0) (pa_cons (pe_op op_add (pv 6) pe_int) (pa_cons (pe_callB call_len_seq (by rfl) T.z_len PySem.boot_len (pa_cons (pv 1) pa_nil)) pa_nil)))) pa_nil))))) pa_nil))))))))
      (pss_one (ps_ret (pe_lst (pa_cons (pv 1) (pa_cons (pv 2) (pa_cons (pv 4) (pa_cons (pe_call (G__law_paths T) (hr.mono (by decide)) (by rfl) T.g__law_paths T.k__law_paths T.B__law_paths .nil pass0 (pa_cons (pv 0) (pa_cons pe_int (pa_cons (pv 2) (pa_cons (pe_call (G__law_count T) (hr.mono (by decide)) (by rfl) T.g__law_count T.k__law_count T.B__law_count .nil pass0 (pa_cons (pe_ix ix_list (pv 0) pe_int (fun _ _ => rfl)) (pa_cons pe_int (pa_cons pe_int pa_nil)))) pa_nil))))) pa_nil)))))))))))), ?_⟩
    obtain ⟨n14, i14, h14, _⟩ := num_in (ks := ks) (i := 14) (by decide) (by omega)
    obtain ⟨n21, i21, h21, _⟩ := num_in (ks := ks) (i := 21) (by decide) (by omega)
    obtain ⟨n28, i28, h28, _⟩ := num_in (ks := ks) (i := 28) (by decide) (by omega)
    obtain ⟨n29, i29, h29, _⟩ := num_in (ks := ks) (i := 29) (by decide) (by omega)
    have sm := N.sm
    -- winds
    have w0 := Int.emod_nonneg n14 (show (4 : Int) ≠ 0 by decide)
    have w4 := Int.emod_lt_of_pos n14 (show (0 : Int) < 4 by decide)
    obtain ⟨m1, em1⟩ : ∃ m1 : Nat, 1 + n14 % 4 = (m1 : Int) := ⟨_, (Int.toNat_of_nonneg (by omega)).symm⟩
    refine ⟨_, rfl, _, rfl, p, _, _, _, rfl, rfl, N.at_, h14, .inl ⟨_, rfl, _, _, rfl, rfl, (by show (0 : Int) < 4; decide), _, _, rfl, rfl, ?_⟩⟩
    refine ⟨p, ks, 8, m1, congrArg (fun x : Int => [V.ref p, .int 8, .int x]) em1, N, by decide, by decide, by omega, fun H1 q1 e1 f1 h1 => ?_⟩
    -- places
    refine ⟨_, rfl, _, rfl, p, _, _, _, rfl, rfl, (N.ex e1).at_, h21, _, 1, 24, rfl, by decide, fun c c1 c24 => ?_⟩
    obtain ⟨m2, em2⟩ : ∃ m2 : Nat, c = (m2 : Int) := ⟨_, (Int.toNat_of_nonneg (by omega)).symm⟩
    refine ⟨p, ks, 15, m2, congrArg (fun x : Int => [V.ref p, .int 15, .int x]) em2, N.ex e1, by decide, by decide, by omega, fun H2 q2 e2 f2 h2 => ?_⟩
    have g2 := e1.trans e2
    have l2 : ((names ks 15 m2).map V.str).length = m2 := by rw [List.length_map, names_len]
    -- names
    refine ⟨_, rfl, _, rfl, p, _, _, _, rfl, rfl, (N.ex g2).at_, h28, _, 0, 60, rfl, by decide, fun d d0 d60 => ?_⟩
    refine ⟨_, rfl, q2, _, rfl, .inl (SqL.of h2), _, _, rfl, rfl, .inr ⟨_, rfl, _, _, rfl, rfl, ?_⟩⟩
    obtain ⟨m3, em3, b3, b31⟩ : ∃ m3 : Nat, d * (if decide ((((names ks 15 m2).map V.str).length : Nat) > (1 : Int)) = true then 1 else 0) = (m3 : Int) ∧ m3 ≤ 60 ∧ (0 < m3 → 1 < m2) := by
      rw [l2]
      by_cases z : ((m2 : Nat) : Int) > 1
      · rw [if_pos (decide_eq_true z)]
        exact ⟨d.toNat, by omega, by omega, fun _ => by omega⟩
      · rw [if_neg (fun y => z (of_decide_eq_true y))]
        exact ⟨0, by omega, by omega, fun y => absurd y (by decide)⟩
    refine ⟨.inl ⟨by omega, by omega⟩, p, ks, 22, m3, congrArg (fun x : Int => [V.ref p, .int 22, .int x]) em3, N.ex g2, by decide, by decide, by omega, fun H3 q3 e3 f3 h3 => ?_⟩
    have g3 := g2.trans e3
    have h13 := e3 _ _ (e2 _ _ h1)
    have h23 := e3 _ _ h2
    have gw := names_good ks 8 (m := m1) (by omega)
    have gp := names_good ks 15 (m := m2) (by omega)
    have gn := names_good ks 22 (m := m3) (by omega)
    have lw := names_len ks 8 m1
    have lp := names_len ks 15 m2
    have ln := names_len ks 22 m3
    generalize zw : names ks 8 m1 = ws at h1 h13 gw lw
    generalize zp : names ks 15 m2 = ps at h2 h23 gp lp l2
    generalize zn : names ks 22 m3 = ns at h3 gn ln
    have pat : ∀ {xs : List Str} {i : Nat} {j : Int}, i < xs.length → j = (i : Int) → atI (xs.map V.str) j = some (.str (xs.getD i "")) := fun {xs i j} hi ej => by
      rw [ej]
      exact atI_nat (by rw [List.getElem?_map, (getD_in hi).2] <;> rfl)
    have l3 : (ns.map V.str).length = m3 := by rw [List.length_map, ln]
    have l1 : (ws.map V.str).length = m1 := by rw [List.length_map, lw]
    -- links
    refine ⟨Nat.zero_le _, fun D hD => ?_⟩
    have start : Ex H3 (upd H3 D (.lst [])) := Ex.new hD
    refine ⟨_, rfl, q3, _, rfl, .inl (SqL.of (start _ _ h3)), _, rfl, by omega, by omega, for_range (n := (((ns.map V.str).length : Nat) : Int).toNat) (fun i σ H' => ∃ (rows : List V) (ls : List Link) (v5 v6 v7 v8 : Option V), σ = [some (.ref p), some (.ref q1), some (.ref q2), some (.ref q3), some (.ref D), v5, v6, v7, v8] ∧ Ex H3 H' ∧ H' D = some (.lst rows) ∧ DpAll K (del H' D) rows (ls.map dRaw) ∧ ls.map (·.n) = ns.take i ∧ ∀ k ∈ ls, LinkOk ws ps k) ?_ ?_ ?_⟩
    · exact ⟨[], [], none, none, none, none, rfl, start, upd_same, .nil, rfl, fun k hk => by cases hk⟩
    · rintro i σ H4 hi ⟨rows, ls, v5, v6, v7, v8, rfl, e4, hR, hd, hn, hok⟩
      have hi3 : i < ns.length := by omega
      have p2 : 1 < m2 := b31 (by omega)
      have N4 := N.ex (g3.trans e4)
      have sq2 := SqL.of (K := K) (e4 _ _ h23)
      have rl : rows.length = i := by
        have z := congrArg List.length hn
        rw [List.length_map, List.length_take] at z
        rw [dps_len hd, List.length_map, z]
        omega
      refine ⟨_, rfl, _, _, rfl, rfl, .inl ⟨by decide, by decide⟩, _, _, rfl, rfl, ?_⟩
      refine ⟨_, rfl, _, rfl, p, ks, _, rfl, N4, by omega, fun x1 x10 => ⟨_, rfl, q2, _, rfl, .inl sq2, _, _, rfl, rfl, by rw [l2]; omega, ?_⟩⟩
      refine ⟨_, rfl, _, _, rfl, rfl, _, rfl, _, rfl, _, _, rfl, rfl, p, ks, _, rfl, N4, by omega, fun x2 x20 => ⟨_, rfl, q2, _, rfl, .inl sq2, _, _, rfl, rfl, _, _, rfl, rfl, by rw [l2]; omega, _, _, rfl, rfl, .inl ⟨_, rfl, _, rfl, q2, _, rfl, .inl sq2, _, _, rfl, rfl, by rw [l2]; omega, ?_⟩⟩⟩
      have o0 := Int.fmod_nonneg_of_pos x1 (b := (((ps.map V.str).length : Nat) : Int)) (by rw [l2]; omega)
      have o1 := Int.fmod_lt_of_pos x1 (b := (((ps.map V.str).length : Nat) : Int)) (by rw [l2]; omega)
      have y0 := Int.fmod_nonneg_of_pos x2 (b := (((ps.map V.str).length : Nat) : Int) - 1) (by rw [l2]; omega)
      have y1 := Int.fmod_lt_of_pos x2 (b := (((ps.map V.str).length : Nat) : Int) - 1) (by rw [l2]; omega)
      obtain ⟨t0, t1, tn⟩ := other_ne o0 o1 y0 y1
      obtain ⟨ia, ea⟩ : ∃ ia : Nat, x1.fmod (((ps.map V.str).length : Nat) : Int) = (ia : Int) := ⟨_, (Int.toNat_of_nonneg o0).symm⟩
      obtain ⟨ib, eb⟩ : ∃ ib : Nat, (x1.fmod (((ps.map V.str).length : Nat) : Int) + 1 + x2.fmod ((((ps.map V.str).length : Nat) : Int) - 1)).fmod (((ps.map V.str).length : Nat) : Int) = (ib : Int) := ⟨_, (Int.toNat_of_nonneg t0).symm⟩
      have ha : ia < ps.length := by omega
      have hb : ib < ps.length := by omega
      have hab : ia ≠ ib := by omega
      refine ⟨_, rfl, .inl ⟨rfl, _, SqL.of hR⟩, _, rfl, _, rfl, q3, _, _, _, rfl, rfl, SqL.of (e4 _ _ h3), pat hi3 (Int.zero_add _), _, rfl, _, rfl, q2, _, _, _, rfl, rfl, sq2, pat ha ea, _, rfl, _, rfl, q2, _, _, _, rfl, rfl, sq2, pat hb eb, ?_⟩
      refine ⟨_, rfl, _, rfl, _, _, rfl, rfl, _, rfl, q1, _, rfl, .inl (SqL.of (e4 _ _ h13)), p, ks, _, _, rfl, N4, by omega, by omega, by rw [l1]; omega, fun H5 u us ts e5 fu hu hdu hlu hok5 => ?_⟩
      refine ⟨by show 4 ≤ sizeLine; decide, fun t ht => ?_⟩
      have uD : u ≠ D := fun z => by rw [z, hR] at fu; cases fu
      have tD : t ≠ D := fun z => by rw [z, e5 _ _ hR] at ht; cases ht
      have e6 := e5.trans (Ex.new (o := .tup [.str (ns.getD i ""), .str (ps.getD ia ""), .str (ps.getD ib ""), .ref u]) ht)
      refine ⟨D, rows, _, rfl, rfl, e6 _ _ hR, sz_lt (by omega), rows ++ [.ref t], ls ++ [⟨ns.getD i "", ps.getD ia "", ps.getD ib "", ts⟩], _, _, _, _, rfl, (e4.trans e6).mut hD, upd_same, ?_, ?_, fun k0 hk => ?_⟩
      · rw [del_upd, List.map_append]
        have us_del : DpAll K (del (upd H5 t (.tup [.str (ns.getD i ""), .str (ps.getD ia ""), .str (ps.getD ib ""), .ref u])) D) us (ts.map dTime) := by
          have z := dps_exT (exT_mut (ys := []) (e6 _ _ hR)) (dps_ex (Ex.new ht) hdu) (frozen_times _)
          refine dps_exT (fun x ys r => ?_) z (frozen_times _)
          rcases r with r | ⟨o, r⟩
          · refine .inl ?_
            have nx : x ≠ D := fun q => by rw [q, upd_same] at r; cases r
            rw [upd_ne nx] at r
            exact del_at nx r
          · refine .inr ⟨o, ?_⟩
            have nx : x ≠ D := fun q => by rw [q, upd_same] at r; cases r
            rw [upd_ne nx] at r
            exact del_at nx r
        refine dps_app (dps_ex (ex_del e6) hd) (dps_one (.tup (st_of (del_at tD upd_same)) (.cons (.str _) (.cons (.str _) (.cons (.str _) (.cons (.lst (SqL.of (del_at uD (Ex.new ht _ _ hu))) us_del) .nil))))))
      · rw [List.map_append, hn, take_one (getD_in hi3).2]
        rfl
      · rcases List.mem_append.mp hk with z | z
        · exact hok k0 z
        · rw [List.mem_singleton.mp z]
          refine ⟨(getD_in ha).1, (getD_in hb).1, fun q => hab (getD_inj gp.2 ha hb q), ?_, hok5⟩
          rw [l1] at hlu
          show ts.length = ws.length
          omega
    · rintro σ H4 ⟨rows, ls, v5, v6, v7, v8, rfl, e4, hR, hd, hn, hok⟩
      have en : (((ns.map V.str).length : Nat) : Int).toNat = ns.length := by omega
      rw [en, List.take_length] at hn
      have ll : ls.length = m3 := by
        have z := congrArg List.length hn
        rw [List.length_map] at z
        omega
      have g4 := g3.trans e4
      refine ⟨_, rfl, _, rfl, _, rfl, _, rfl, _, rfl, _, rfl, p, _, _, _, rfl, rfl, (N.ex g4).at_, h29, _, 0, 60, rfl, by decide, fun c' c0 c60 => ?_⟩
      refine ⟨p, q2, ks, ps, 30, c', rfl, N.ex g4, SqL.of (e4 _ _ h23), gp, by omega, by decide, c0, c60, fun H5 y pa e5 fy hy ly z1 z2 => ?_⟩
      refine ⟨by show 4 ≤ sizeLine; decide, fun r hr => ?_⟩
      have e6 := e5.trans (Ex.new (o := .lst [.ref q1, .ref q2, .ref D, .ref y]) hr)
      refine k _ r ⟨ws, ps, ls, pa⟩ (g4.trans e6) (fresh_back (g4.trans e5) hr) (.lst (SqL.of upd_same) (.cons (.lst (SqL.of (e6 _ _ (e4 _ _ h13))) (dps_str ws)) (.cons (.lst (SqL.of (e6 _ _ (e4 _ _ h23))) (dps_str ps)) (.cons (.lst (SqL.of (e6 _ _ hR)) (dps_ex (del_ex.trans e6) hd)) (.cons (dp_ex (Ex.new hr) hy) .nil))))) ?_ ⟨m1, m2, m3, by omega, by omega, b3, zw.symm, zp.symm, by rw [zn]; exact hn⟩
      exact ⟨by show 1 ≤ ws.length; omega, by show ws.length ≤ 4; omega, by show 1 ≤ ps.length; omega, by show ps.length ≤ 24; omega, by show ls.length ≤ 60; omega, ly, gw, gp, by show Good (ls.map (·.n)); rw [hn]; exact gn, hok, z1, z2⟩
end
end EV

set_option Elab.async false
set_option linter.all false
set_option maxRecDepth 100000
set_option maxHeartbeats 4000000
namespace EV
open PySem PySem.Spec PyProof.Rows L2 EvS Evl
/-! ### data that may be compared -/
theorem sign_small : ∀ c ∈ LETS ++ DIGS, c < 1114112 := by decide +kernel
theorem name_strOk {z : Str} (h : isName z = true) : PyData.strOk z = true := by
  unfold isName at h
  rw [Bool.and_eq_true] at h
  unfold PyData.strOk
  rw [Array.all_eq_true_iff_forall_mem]
  intro c hc
  have q := List.all_eq_true.mp h.2 c (Array.mem_toList_iff.mpr hc)
  unfold okSign at q
  rw [Bool.or_eq_true] at q
  refine decide_eq_true (sign_small c ?_)
  rcases q with q | q
  · exact List.mem_append_left _ (of_decide_eq_true q)
  · exact List.mem_append_right _ (of_decide_eq_true q)
theorem lay_of : ∀ {ds : List PyData}, (∀ d ∈ ds, PyData.canLay0 d = true) → PyData.canLayAll0 ds = true
  | [], _ => by simp [PyData.canLayAll0]
  | d :: ds, h => by
    rw [PyData.canLayAll0, h d List.mem_cons_self, lay_of fun x hx => h x (List.mem_cons_of_mem _ hx)]
    rfl
theorem deep_of {n : Nat} : ∀ {ds : List PyData}, (∀ d ∈ ds, PyData.depth d ≤ n) → PyData.depthAll ds ≤ n
  | [], _ => by simp [PyData.depthAll]
  | d :: ds, h => by
    have h1 := h d List.mem_cons_self
    have h2 := deep_of (n := n) (ds := ds) fun x hx => h x (List.mem_cons_of_mem _ hx)
    simp only [PyData.depthAll]
    omega
/-- small data: fit to be laid, and not deep -/
def Sh (n : Nat) (d : PyData) : Prop := PyData.canLay0 d = true ∧ PyData.depth d ≤ n
theorem sh_str {z : Str} {n : Nat} (h : isName z = true) : Sh (n + 1) (.str z) := ⟨by simp only [PyData.canLay0]; exact name_strOk h, by simp only [PyData.depth]; omega⟩
theorem sh_tup {n : Nat} {ds : List PyData} (h : ∀ d ∈ ds, Sh n d) : Sh (n + 1) (.tuple ds) := by
  have := deep_of (n := n) fun d hd => (h d hd).2
  exact ⟨by simp only [PyData.canLay0]; exact lay_of fun d hd => (h d hd).1, by simp only [PyData.depth]; omega⟩
theorem sh_lst {n : Nat} {ds : List PyData} (h : ∀ d ∈ ds, Sh n d) : Sh (n + 1) (.list ds) := by
  have := deep_of (n := n) fun d hd => (h d hd).2
  exact ⟨by simp only [PyData.canLay0]; exact lay_of fun d hd => (h d hd).1, by simp only [PyData.depth]; omega⟩
theorem sh_int (i : Int) (n : Nat) : Sh (n + 1) (.int i) := ⟨by simp only [PyData.canLay0], by simp only [PyData.depth]; omega⟩
theorem sh_up {n m : Nat} {d : PyData} (h : n ≤ m) (q : Sh n d) : Sh m d := ⟨q.1, Nat.le_trans q.2 h⟩
theorem sh_shaped {n : Nat} {d : PyData} (h : Sh n d) (hn : n ≤ 64) : SeqAt.shaped d = true := by
  show (PyData.canLay0 d && decide (PyData.depth d ≤ 64)) = true
  rw [Bool.and_eq_true]
  exact ⟨h.1, decide_eq_true (Nat.le_trans h.2 hn)⟩
theorem sh_time (b : Option (Int × Int)) : Sh 3 (dTime b) := by
  cases b with
  | none => exact ⟨by simp [dTime, PyData.canLay0], by simp [dTime, PyData.depth]⟩
  | some b =>
    refine sh_tup (n := 2) fun d hd => ?_
    rcases List.mem_cons.mp hd with rfl | hd
    · exact sh_int _ _
    · rw [List.mem_singleton.mp hd]
      exact sh_int _ _
theorem sh_strs {ns : List Str} (h : ∀ n ∈ ns, isName n = true) : Sh 6 (.tuple (ns.map .str)) := sh_tup (n := 5) fun d hd => by
  obtain ⟨n, hn, rfl⟩ := List.mem_map.mp hd
  exact sh_str (h n hn)
theorem mem4 {α : Type} {x a b c d : α} (h : x ∈ [a, b, c, d]) : x = a ∨ x = b ∨ x = c ∨ x = d := by simpa using h
theorem sh_link {D : LandD} (ok : LandOk D) {k : Link} (hk : k ∈ D.ls) : Sh 5 (dLink k) := by
  have l := ok.lk k hk
  refine sh_tup (n := 4) fun d hd => ?_
  rcases mem4 hd with rfl | rfl | rfl | rfl
  · exact sh_str (ok.gl.1 _ (List.mem_map.mpr ⟨k, hk, rfl⟩))
  · exact sh_str (ok.gp.1 _ l.o)
  · exact sh_str (ok.gp.1 _ l.t)
  · refine sh_tup (n := 3) fun d hd => ?_
    obtain ⟨b, _, rfl⟩ := List.mem_map.mp hd
    exact sh_time b
theorem sh_path {D : LandD} (ok : LandOk D) {p : Str × Str × Int} (hp : p ∈ D.pa) : Sh 5 (dPath p) := by
  have l := ok.pt p hp
  refine sh_tup (n := 4) fun d hd => ?_
  have q : d = .str p.1 ∨ d = .str p.2.1 ∨ d = .int p.2.2 := by simpa using hd
  rcases q with rfl | rfl | rfl
  · exact sh_str (ok.gp.1 _ l.o)
  · exact sh_str (ok.gp.1 _ l.t)
  · exact sh_int _ _
theorem sh_land {D : LandD} (ok : LandOk D) : Sh 7 (dLand D) := by
  refine sh_tup (n := 6) fun d hd => ?_
  rcases mem4 hd with rfl | rfl | rfl | rfl
  · exact sh_strs ok.gw.1
  · exact sh_strs ok.gp.1
  · refine sh_tup (n := 5) fun d hd => ?_
    obtain ⟨b, hb, rfl⟩ := List.mem_map.mp hd
    exact sh_link ok hb
  · refine sh_tup (n := 5) fun d hd => ?_
    obtain ⟨b, hb, rfl⟩ := List.mem_map.mp hd
    exact sh_path ok hb
theorem shaped_land {D : LandD} (ok : LandOk D) : SeqAt.shaped (dLand D) = true := sh_shaped (sh_land ok) (by decide)
theorem eqv_self {d : PyData} (h : SeqAt.shaped d = true) : PyData.eqv d d = true := SeqAt.eqv_refl _ (SeqAt.canLay_of_shaped h)
/-! ### the parts of a list of parts -/
structure PartsAt (K : PySem.W.Frag) (H : Hp) (p : Addr) (D : LandD) (wi pl li pa : Addr) (rows prs : List V) : Prop where
  ob : SqL K H p [.ref wi, .ref pl, .ref li, .ref pa]
  wi : SqL K H wi (D.ws.map V.str)
  pl : SqL K H pl (D.ps.map V.str)
  li : SqL K H li rows
  ls : DpAll K H rows (D.ls.map dRaw)
  pa : SqL K H pa prs
  ps : DpAll K H prs (D.pa.map dPath)
theorem PartsAt.ex {K : PySem.W.Frag} {H H' : Hp} {p : Addr} {D : LandD} {wi pl li pa : Addr} {rows prs : List V} (e : Ex H H') (h : PartsAt K H p D wi pl li pa rows prs) : PartsAt K H' p D wi pl li pa rows prs :=
  ⟨ex_l e h.ob, ex_l e h.wi, ex_l e h.pl, ex_l e h.li, dps_ex e h.ls, ex_l e h.pa, dps_ex e h.ps⟩
theorem parts_in {K : PySem.W.Frag} {H : Hp} {p : Addr} {D : LandD} (h : Dp K H (.ref p) (dParts D)) : ∃ wi pl li pa rows prs, PartsAt K H p D wi pl li pa rows prs := by
  unfold dParts at h
  cases h with
  | lst hs hr =>
    cases hr with
    | cons a1 hr =>
      cases a1 with
      | lst s1 d1 =>
        cases hr with
        | cons a2 hr =>
          cases a2 with
          | lst s2 d2 =>
            cases hr with
            | cons a3 hr =>
              cases a3 with
              | lst s3 d3 =>
                cases hr with
                | cons a4 hr =>
                  cases a4 with
                  | lst s4 d4 =>
                    cases hr
                    rw [dps_strs d1] at s1
                    rw [dps_strs d2] at s2
                    exact ⟨_, _, _, _, _, _, hs, s1, s2, s3, d3, s4, d4⟩
def sp__law_made (K : PySem.W.Frag) (C : Addr) : Sp := fun vs H Q _ => ∃ (p : Addr) (D : LandD), vs = [.ref p] ∧ Dp K H (.ref p) (dParts D) ∧ LandOk D ∧ ∀ H' x, Ex H H' → H x = none → IsLand K C H' x D → Q (.ref x) H'
def sp__law_frozen (K : PySem.W.Frag) : Sp := fun vs H Q _ => ∃ (p : Addr) (D : LandD), vs = [.ref p] ∧ Dp K H (.ref p) (dParts D) ∧ LandOk D ∧ ∀ H' q, Ex H H' → H q = none → Dp K H' (.ref q) (dLand D) → Q (.ref q) H'
def sp__law_same (K : PySem.W.Frag) (C : Addr) : Sp := fun vs H Q _ => ∃ (x d : Addr) (D : LandD), vs = [.ref x, .ref d] ∧ IsLand K C H x D ∧ Dp K H (.ref d) (dLand D) ∧ LandOk D ∧ ∀ H', Ex H H' → Q (.bl true) H'
section
variable {P : Program} {w : World} {K : PySem.W.Frag} {mg : Str → Option Value} {base : Heap} {a : Ad}
theorem G__law_made (T : Txt K mg a) : FnOk P w K mg base CX0 5 a.f__law_made a.d__law_made ["parts"] (sp__law_made K a.C) := by
  obtain ⟨mv, kb_Land_wplp⟩ := kb_wplp T
  refine T.F__law_made.ok sc__law_made (fun vs H Q E h => ?_) (fun cdv A outer s H vs Q E hr h => ?_)
  · obtain ⟨p, D, rfl, _⟩ := h
    rfl
  · obtain ⟨p, D, rfl, hp, ok, k⟩ := h
    obtain ⟨wi, pl, li, pa, rows, prs, S⟩ := parts_in hp
    refine ⟨_, (pss_one (ps_ret (pe_makeK0 T.mk_Land (G_init T) (hr.mono (by decide)) (by rfl) T.g_Land kb_Land_wplp pass0 (pk_cons (pe_callTy call_lstK (by rfl) T.z_list (by decide +kernel) (pa_cons (pe_ix ix_list (pv 0) pe_int (fun _ _ => rfl)) pa_nil)) (pk_cons (pe_callTy call_lstK (by rfl) T.z_list (by decide +kernel) (pa_cons (pe_ix ix_list (pv 0) pe_int (fun _ _ => rfl)) pa_nil)) (pk_cons (pe_callTy call_lstK (by rfl) T.z_list (by decide +kernel) (pa_cons (pe_ix ix_list (pv 0) pe_int (fun _ _ => rfl)) pa_nil)) (pk_cons (pe_callTy call_lstK (by rfl) T.z_list (by decide +kernel) (pa_cons (pe_ix ix_list (pv 0) pe_int (fun _ _ => rfl)) pa_nil)) pk_nil))))))), ?_⟩
    refine ⟨_, rfl, p, _, _, _, rfl, rfl, S.ob, atI_nat (j := 0) rfl, wi, _, rfl, .inl S.wi, fun l1 h1 => ?_⟩
    have S1 := S.ex (Ex.new (o := .lst (D.ws.map V.str)) h1)
    refine ⟨_, rfl, p, _, _, _, rfl, rfl, S1.ob, atI_nat (j := 1) rfl, pl, _, rfl, .inl S1.pl, fun l2 h2 => ?_⟩
    have S2 := S1.ex (Ex.new (o := .lst (D.ps.map V.str)) h2)
    refine ⟨_, rfl, p, _, _, _, rfl, rfl, S2.ob, atI_nat (j := 2) rfl, li, _, rfl, .inl S2.li, fun l3 h3 => ?_⟩
    have S3 := S2.ex (Ex.new (o := .lst rows) h3)
    refine ⟨_, rfl, p, _, _, _, rfl, rfl, S3.ob, atI_nat (j := 3) rfl, pa, _, rfl, .inl S3.pa, fun l4 h4 => ?_⟩
    have S4 := S3.ex (Ex.new (o := .lst prs) h4)
    have b1 := upd_same (H := H) (a := l1) (o := .lst (D.ws.map V.str))
    have b2 := upd_same (H := upd H l1 (.lst (D.ws.map V.str))) (a := l2) (o := .lst (D.ps.map V.str))
    have b3 := upd_same (H := upd (upd H l1 (.lst (D.ws.map V.str))) l2 (.lst (D.ps.map V.str))) (a := l3) (o := .lst rows)
    have e0 : Ex H (upd (upd (upd (upd H l1 (.lst (D.ws.map V.str))) l2 (.lst (D.ps.map V.str))) l3 (.lst rows)) l4 (.lst prs)) := (((Ex.new h1).trans (Ex.new h2)).trans (Ex.new h3)).trans (Ex.new h4)
    have c1 := Ex.new h4 (o := .lst prs) _ _ (Ex.new h3 (o := .lst rows) _ _ (Ex.new h2 (o := .lst (D.ps.map V.str)) _ _ b1))
    have c2 := Ex.new h4 (o := .lst prs) _ _ (Ex.new h3 (o := .lst rows) _ _ b2)
    have c3 := Ex.new h4 (o := .lst prs) _ _ b3
    have c4 : (upd (upd (upd (upd H l1 (.lst (D.ws.map V.str))) l2 (.lst (D.ps.map V.str))) l3 (.lst rows)) l4 (.lst prs)) l4 = some (.lst prs) := upd_same
    refine ⟨rfl, rfl, fun x dx nx ndx ne => ?_⟩
    exact ⟨_, x, dx, l1, l2, l3, l4, D, rows, prs, rfl, (Ex.new ndx).mut nx, nx, upd_same, SqL.of c1, .inl (SqL.of c2), .inl (SqL.of c3), all2_dps (f := dRaw) (R := LinkIn K _) (fun v b h => raw_in h) S4.ls, .inl (SqL.of c4), S4.ps, ok, fun H' e hl => ⟨rfl, k H' x (e0.trans e) (fresh_back e0 nx) hl⟩⟩
theorem G__law_frozen (T : Txt K mg a) : FnOk P w K mg base CX0 1 a.f__law_frozen a.d__law_frozen ["parts"] (sp__law_frozen K) := by
  refine T.F__law_frozen.ok sc__law_frozen (fun vs H Q E h => ?_) (fun cdv A outer s H vs Q E hr h => ?_)
  · obtain ⟨p, D, rfl, _⟩ := h
    rfl
  · obtain ⟨p, D, rfl, hp, ok, k⟩ := h
    obtain ⟨wi, pl, li, pa, rows, prs, S⟩ := parts_in hp
    have l60 := ok.l60
    have a60 := ok.a60
    have rl : rows.length = D.ls.length := by rw [dps_len S.ls, List.length_map]
    have al : prs.length = D.pa.length := by rw [dps_len S.ps, List.length_map]
    refine ⟨_, (pss_cons (ps_set (i := 1) sc__law_frozen.nd rfl (Or.inl rfl) (pe_lst pa_nil))
      (pss_cons (ps_for PassesOwn.never rfl (pi_list (pe_ix ix_list (pv 0) pe_int (fun _ _ => rfl))) (pg_tup (by rfl) (pgs_cons (pg_name (i := 2) sc__law_frozen.nd rfl (Or.inl rfl)) (pgs_cons (pg_name (i := 3) sc__law_frozen.nd rfl (Or.inl rfl)) (pgs_cons (pg_name (i := 4) sc__law_frozen.nd rfl (Or.inl rfl)) (pgs_cons (pg_name (i := 5) sc__law_frozen.nd rfl (Or.inl rfl)) pgs_nil))))) (pss_cons (ps_set (i := 6) sc__law_frozen.nd rfl (Or.inl rfl) (pe_lst pa_nil))
        (pss_cons (ps_for PassesOwn.never rfl (pi_list (pv 5)) (pg_name (i := 7) sc__law_frozen.nd rfl (Or.inl rfl)) (pss_cons (ps_if (pt_cmpR op_notN (pv 7) pe_non (nomark _)) (pss_one (ps_set (i := 7) sc__law_frozen.nd rfl (Or.inl rfl) (pe_callTy call_tupK (by rfl) T.z_tuple (by decide +kernel) (pa_cons (pv 7) pa_nil)))) pss_nil)
          (pss_one (ps_expr (pe_bm PySem.F.plainAttrs_list PySem.F.slot_list_append PySem.F.type_list_append mt_append (pv 6) (pa_cons (pv 7) pa_nil))))))
        (pss_one (ps_expr (pe_bm PySem.F.plainAttrs_list PySem.F.slot_list_append PySem.F.type_list_append mt_append (pv 1) (pa_cons (pe_tup (pa_cons (pv 2) (pa_cons (pv 3) (pa_cons (pv 4) (pa_cons (pe_callTy call_tupK (by rfl) T.z_tuple (by decide +kernel) (pa_cons (pv 6) pa_nil)) pa_nil))))) pa_nil)))))))
      (pss_one (ps_ret (pe_tup (pa_cons (pe_callTy call_tupK (by rfl) T.z_tuple (by decide +kernel) (pa_cons (pe_ix ix_list (pv 0) pe_int (fun _ _ => rfl)) pa_nil)) (pa_cons (pe_callTy call_tupK (by rfl) T.z_tuple (by decide +kernel) (pa_cons (pe_ix ix_list (pv 0) pe_int (fun _ _ => rfl)) pa_nil)) (pa_cons (pe_callTy call_tupK (by rfl) T.z_tuple (by decide +kernel) (pa_cons (pv 1) pa_nil)) (pa_cons (pe_callTy call_tupK (by rfl) T.z_tuple (by decide +kernel) (pa_cons (pe_lc (own := [("path", 8)]) (g := gName 8) (tt := tYes) rfl sc__law_frozen.nd (pi_list (pe_ix ix_list (pv 0) pe_int (fun _ _ => rfl))) (blkOk_by (N := ["parts", "links", "name", "one", "other", "times", "found", "pair", "path"]) (sc := defScope s__law_frozen) (by decide +kernel)) (fun _ _ _ _ _ => pg_name (i := 8) sc__law_frozen.nd rfl (Or.inl rfl)) (fun _ _ _ _ _ => pts_nil) (fun _ _ _ _ _ => (pe_callTy (show CallR _ _ (rTupK K) from call_tupK) (by rfl) T.z_tuple (by decide +kernel) (pa_cons (pv 8) pa_nil)))) pa_nil)) pa_nil))))))))), ?_⟩
    refine ⟨Nat.zero_le _, fun L hL => ?_⟩
    have st0 : Ex H (upd H L (.lst [])) := Ex.new hL
    refine ⟨_, rfl, p, _, _, _, rfl, rfl, (S.ex st0).ob, atI_nat (j := 2) rfl, li, rfl, ⟨_, (S.ex st0).li⟩, for_list (K := K) (a := li) (xs := rows) (fun i σ H' => ∃ (made : List V) (v2 v3 v4 v5 v6 v7 : Option V), σ = [some (.ref p), some (.ref L), v2, v3, v4, v5, v6, v7, none] ∧ Ex H H' ∧ H' L = some (.lst made) ∧ made.length = i ∧ DpAll K H' made ((D.ls.take i).map dLink)) ?_ ?_ ?_ ?_⟩
    · exact ⟨[], none, none, none, none, none, none, rfl, st0, upd_same, rfl, .nil⟩
    · rintro i σ H' _ ⟨made, v2, v3, v4, v5, v6, v7, rfl, e, _⟩
      exact (S.ex e).li
    · rintro i y σ H1 hy ⟨made, v2, v3, v4, v5, v6, v7, rfl, e1, hm, hl, hd⟩
      have hil : i < rows.length := (List.getElem?_eq_some_iff.mp hy).1
      have eL : D.ls[i]? = some (D.ls[i]'(by omega)) := List.getElem?_eq_getElem (by omega)
      have hk := List.getElem_mem (l := D.ls) (n := i) (by omega)
      obtain ⟨d, hd1, hd2⟩ := dps_at (S.ex e1).ls hy
      rw [List.getElem?_map, eL] at hd1
      obtain rfl := Option.some.inj hd1
      generalize D.ls[i]'(by omega) = q at eL hk hd2
      have lk := ok.lk q hk
      unfold dRaw at hd2
      cases hd2 with
      | @tup t _ _ hs hr =>
        cases hr with
        | cons a1 hr =>
          cases a1
          cases hr with
          | cons a2 hr =>
            cases a2
            cases hr with
            | cons a3 hr =>
              cases a3
              cases hr with
              | cons a4 hr =>
                cases hr
                cases a4 with
                | @lst u us _ hu hus =>
                  have ul : us.length = q.ts.length := by rw [dps_len hus, List.length_map]
                  have w4 := ok.w4
                  have tl := lk.len
                  refine ⟨t, _, rfl, hs, rfl, _, _, rfl, _, _, rfl, _, _, rfl, _, _, rfl, rfl, ?_⟩
                  refine ⟨Nat.zero_le _, fun F hF => ?_⟩
                  have FL : F ≠ L := fun z => by rw [z, hm] at hF; cases hF
                  refine ⟨_, rfl, u, rfl, ⟨_, ex_l (Ex.new hF) hu⟩, for_list (K := K) (a := u) (xs := us) (fun j σ H' => ∃ (got : List V) (v7 : Option V), σ = [some (.ref p), some (.ref L), some (.str q.n), some (.str q.o), some (.str q.t), some (.ref u), some (.ref F), v7, none] ∧ Ex H1 H' ∧ H' F = some (.lst got) ∧ got.length = j ∧ DpAll K H' got ((q.ts.take j).map dTime)) ?_ ?_ ?_ ?_⟩
                  · exact ⟨[], v7, rfl, Ex.new hF, upd_same, rfl, .nil⟩
                  · rintro j σ H' _ ⟨got, v7, rfl, e, _⟩
                    exact ex_l e hu
                  · rintro j y σ H2 hy ⟨got, v7, rfl, e2, hg, gl, hgd⟩
                    have hju : j < us.length := (List.getElem?_eq_some_iff.mp hy).1
                    have eT : q.ts[j]? = some (q.ts[j]'(by omega)) := List.getElem?_eq_getElem (by omega)
                    obtain ⟨d, hd1, hd2⟩ := dps_at (dps_ex e2 hus) hy
                    rw [List.getElem?_map, eT] at hd1
                    obtain rfl := Option.some.inj hd1
                    generalize q.ts[j]'(by omega) = b at eT hd2
                    have fin : ∃ got', (upd H2 F (.lst (got ++ [y]))) F = some (.lst got') ∧ got'.length = j + 1 ∧ DpAll K (upd H2 F (.lst (got ++ [y]))) got' ((q.ts.take (j + 1)).map dTime) ∧ Ex H1 (upd H2 F (.lst (got ++ [y]))) := by
                      refine ⟨got ++ [y], upd_same, by rw [List.length_append, gl] <;> rfl, ?_, e2.mut hF⟩
                      rw [take_one eT, List.map_append]
                      exact dps_app (dps_exT (exT_mut hg) hgd (frozen_times _)) (dps_one (dp_exT (exT_mut hg) hd2 (frozen_time _)))
                    obtain ⟨got', f1, f2, f3, f4⟩ := fin
                    cases b with
                    | none =>
                      cases hd2
                      refine ⟨_, rfl, rfl, _, rfl, iteNS rfl ?_⟩
                      exact ⟨_, rfl, .inl ⟨rfl, _, SqL.of hg⟩, _, rfl, F, _, _, rfl, rfl, hg, sz_lt (by omega), got', _, rfl, f4, f1, f2, f3⟩
                    | some b =>
                      cases hd2 with
                      | @tup z zs _ hz _ =>
                        refine ⟨_, rfl, rfl, _, rfl, iteT ?_⟩
                        refine ⟨_, rfl, z, _, rfl, .inr ⟨hz, ?_⟩⟩
                        exact ⟨_, rfl, .inl ⟨rfl, _, SqL.of hg⟩, _, rfl, F, _, _, rfl, rfl, hg, sz_lt (by omega), got', _, rfl, f4, f1, f2, f3⟩
                  · rintro σ H2 ⟨got, v7, rfl, e2, hg, gl, hgd⟩
                    rw [ul, List.take_length] at hgd
                    have hm2 := e2 _ _ hm
                    refine ⟨_, rfl, .inl ⟨rfl, _, SqL.of hm2⟩, _, rfl, _, rfl, _, rfl, _, rfl, F, _, rfl, .inl ⟨SqL.of hg, fun z hz => ?_⟩⟩
                    refine ⟨by show 4 ≤ sizeLine; decide, fun y hy2 => ?_⟩
                    have e3 := (Ex.new (o := .tup got) hz).trans (Ex.new (o := .tup [.str q.n, .str q.o, .str q.t, .ref z]) hy2)
                    have hm3 := e3 _ _ hm2
                    refine ⟨L, made, _, rfl, rfl, hm3, sz_lt (by omega), made ++ [.ref y], _, _, _, _, _, _, rfl, (e1.trans (e2.trans e3)).mut hL, upd_same, by rw [List.length_append, hl] <;> rfl, ?_⟩
                    rw [take_one eL, List.map_append]
                    refine dps_exT (exT_mut hm3) (dps_app (dps_ex (e2.trans e3) hd) (dps_one (.tup (st_of upd_same) (.cons (.str _) (.cons (.str _) (.cons (.str _) (.cons (.tup (st_of (Ex.new hy2 _ _ upd_same)) (dps_ex e3 hgd)) .nil))))))) ?_
                    exact frozenAll_of fun d hd => by
                      rcases List.mem_append.mp hd with hd | hd
                      · obtain ⟨b, _, rfl⟩ := List.mem_map.mp hd
                        exact frozen_link b
                      · obtain ⟨b, _, rfl⟩ := List.mem_map.mp hd
                        exact frozen_link b
    · rintro σ H1 ⟨made, v2, v3, v4, v5, v6, v7, rfl, e1, hm, hl, hd⟩
      rw [rl, List.take_length] at hd
      have S1 := S.ex e1
      refine ⟨_, rfl, p, _, _, _, rfl, rfl, S1.ob, atI_nat (j := 0) rfl, wi, _, rfl, .inl ⟨S1.wi, fun t1 h1 => ?_⟩⟩
      have a1 : Ex H1 (upd H1 t1 (.tup (D.ws.map V.str))) := Ex.new h1
      refine ⟨_, rfl, p, _, _, _, rfl, rfl, (S1.ex a1).ob, atI_nat (j := 1) rfl, pl, _, rfl, .inl ⟨(S1.ex a1).pl, fun t2 h2 => ?_⟩⟩
      have b1 : (upd (upd H1 t1 (.tup (D.ws.map V.str))) t2 (.tup (D.ps.map V.str))) t1 = some (.tup (D.ws.map V.str)) := Ex.new h2 _ _ upd_same
      have b2 : (upd (upd H1 t1 (.tup (D.ws.map V.str))) t2 (.tup (D.ps.map V.str))) t2 = some (.tup (D.ps.map V.str)) := upd_same
      have a2 := a1.trans (Ex.new (o := .tup (D.ps.map V.str)) h2)
      generalize upd (upd H1 t1 (.tup (D.ws.map V.str))) t2 (.tup (D.ps.map V.str)) = H2 at a2 b1 b2
      refine ⟨_, rfl, L, _, rfl, .inl ⟨SqL.of (a2 _ _ hm), fun t3 h3 => ?_⟩⟩
      have a3 := a2.trans (Ex.new (o := .tup made) h3)
      have b31 := Ex.new h3 (o := .tup made) _ _ b1
      have b32 := Ex.new h3 (o := .tup made) _ _ b2
      have b33 : (upd H2 t3 (.tup made)) t3 = some (.tup made) := upd_same
      generalize upd H2 t3 (.tup made) = H3 at a3 b31 b32 b33
      have S3 := S1.ex a3
      refine ⟨_, rfl, p, _, _, _, rfl, rfl, S3.ob, atI_nat (j := 3) rfl, pa, rfl, ⟨_, S3.pa⟩, fun D0 hD => lcY_list (K := K) (a := pa) (xs := prs) (fun i H' => Ex H3 H' ∧ ∃ got, H' D0 = some (.lst got) ∧ got.length = i ∧ DpAll K H' got ((D.pa.take i).map dPath)) ?_ ?_ ?_ ?_⟩
      · exact ⟨Ex.new hD, [], upd_same, rfl, .nil⟩
      · rintro i H' _ ⟨e, _⟩
        exact ex_l e S3.pa
      · rintro i y H' hy ⟨e, got, hg, gl, hgd⟩
        have hil : i < prs.length := (List.getElem?_eq_some_iff.mp hy).1
        have eP : D.pa[i]? = some (D.pa[i]'(by omega)) := List.getElem?_eq_getElem (by omega)
        obtain ⟨d, hd1, hd2⟩ := dps_at (dps_ex e S3.ps) hy
        rw [List.getElem?_map, eP] at hd1
        obtain rfl := Option.some.inj hd1
        generalize D.pa[i]'(by omega) = b at eP hd2
        obtain ⟨t, rfl, ht⟩ := path_in hd2
        refine ⟨rfl, _, rfl, t, _, rfl, .inr ⟨ht, got, hg, sz_lt (by omega), e.mut hD, _, upd_same, by rw [List.length_append, gl] <;> rfl, ?_⟩⟩
        rw [take_one eP, List.map_append]
        exact dps_app (dps_exT (exT_mut hg) hgd (frozen_paths _)) (dps_one (dp_exT (exT_mut hg) hd2 (frozen_path _)))
      · rintro H4 ⟨e, got, hg, gl, hgd⟩
        rw [al, List.take_length] at hgd
        refine ⟨D0, got, rfl, .inl ⟨SqL.of hg, fun t4 h4 => ?_⟩⟩
        refine ⟨by show 4 ≤ sizeLine; decide, fun r hr => ?_⟩
        have e4 := e.trans ((Ex.new (o := .tup got) h4).trans (Ex.new (o := .tup [.ref t1, .ref t2, .ref t3, .ref t4]) hr))
        have e5 := (Ex.new (o := .tup got) h4).trans (Ex.new (o := .tup [.ref t1, .ref t2, .ref t3, .ref t4]) hr)
        refine k _ r (e1.trans (a3.trans e4)) (fresh_back (e1.trans (a3.trans (e.trans (Ex.new h4)))) hr) ?_
        exact .tup (st_of upd_same) (.cons (.tup (st_of (e4 _ _ b31)) (dps_str _)) (.cons (.tup (st_of (e4 _ _ b32)) (dps_str _)) (.cons (.tup (st_of (e4 _ _ b33)) (dps_ex (a3.trans e4) hd)) (.cons (.tup (st_of (Ex.new hr _ _ upd_same)) (dps_ex e5 hgd)) .nil))))
theorem G__law_same (T : Txt K mg a) : FnOk P w K mg base CX0 1 a.f__law_same a.d__law_same ["land", "due"] (sp__law_same K a.C) := by
  refine T.F__law_same.ok sc__law_same (fun vs H Q E h => ?_) (fun cdv A outer s H vs Q E hr h => ?_)
  · obtain ⟨x, d, D, rfl, _⟩ := h
    rfl
  · obtain ⟨x, d, D, rfl, hx, hd, ok, k⟩ := h
    obtain ⟨dx, wi, pl, li, pa, rows, prs, L⟩ := hx
    refine ⟨_, (pss_one (ps_ret (pe_cmpR (op_eqD hr.units) (pe_tup (pa_cons (pe_fld (pv 0) rfl) (pa_cons (pe_fld (pv 0) rfl) (pa_cons (pe_fld (pv 0) rfl) (pa_cons (pe_fld (pv 0) rfl) pa_nil))))) (pv 1) (nomark _)))), ?_⟩
    refine ⟨_, rfl, x, a.C, dx, _, _, rfl, L.ob, T.cl, T.nW, fs_winds .., _, rfl, x, a.C, dx, _, _, rfl, L.ob, T.cl, T.nP, fs_places .., _, rfl, x, a.C, dx, _, _, rfl, L.ob, T.cl, T.nL, fs_links .., _, rfl, x, a.C, dx, _, _, rfl, L.ob, T.cl, T.nA, fs_paths .., ?_⟩
    refine ⟨by show 4 ≤ sizeLine; decide, fun t ht => ?_⟩
    have e1 : Ex H (upd H t (.tup [.ref wi, .ref pl, .ref li, .ref pa])) := Ex.new ht
    have dl : Dp K (upd H t (.tup [.ref wi, .ref pl, .ref li, .ref pa])) (.ref t) (dLand D) := .tup (st_of upd_same) (.cons (.tup (ex_t e1 L.wi.sq) (dps_str _)) (.cons (.tup (ex_t e1 L.pl) (dps_str _)) (.cons (.tup (ex_t e1 L.li) (dps_ex e1 L.ls)) (.cons (.tup (ex_t e1 L.pa) (dps_ex e1 L.ps)) .nil))))
    refine ⟨_, rfl, dLand D, dLand D, dl, dp_ex e1 hd, shaped_land ok, shaped_land ok, ?_⟩
    rw [eqv_self (shaped_land ok)]
    exact k _ e1
end
end EV

set_option Elab.async false
set_option linter.all false
set_option maxRecDepth 100000
set_option maxHeartbeats 4000000
namespace EV
open PySem PySem.Spec PyProof.Rows L2 EvS Evl
/-! ### what a land is asked -/
theorem fs_none (wi pl li pa : Addr) {m : Str} (h1 : m ≠ "winds") (h2 : m ≠ "places") (h3 : m ≠ "links") (h4 : m ≠ "paths") : (landFs wi pl li pa).lookup m = none := by
  unfold landFs
  rw [lookup_putF, if_neg h4, lookup_putF, if_neg h3, lookup_putF, if_neg h2, lookup_putF, if_neg h1]
  rfl
def UnN (U : Addr) (z : Str) (H : Hp) (E : XK) : Prop := ∀ d H', H d = none → Ex H H' → H' d = some (.xd [("name", .str z)]) → E (.ref U) (some d) H'
theorem UnN.ex {U : Addr} {z : Str} {H H1 : Hp} {E : XK} (h : UnN U z H E) (e : Ex H H1) : UnN U z H1 E := fun d H' hd e1 h1 => h d H' (fresh_back e hd) (e.trans e1) h1
def sp_check (sel : LandD → List Str) (K : PySem.W.Frag) (C U : Addr) : Sp := fun vs H Q E => ∃ (x : Addr) (D : LandD) (z : Str), vs = [.ref x, .str z] ∧ IsLand K C H x D ∧ z.length ≤ 1000 ∧ (z ∈ sel D → ∀ H', Ex H H' → Q .non H') ∧ (z ∉ sel D → UnN U z H E)
theorem inV_str_not {z : Str} {ys : List Str} (h : z ∉ ys) : inV (.str z) (ys.map V.str) = false := by
  unfold inV
  rw [List.any_map, List.any_eq_false]
  intro x hx
  show ¬ (x == z) = true
  intro e
  exact h (eq_of_beq e ▸ hx)
theorem inV_str_dec (z : Str) (ys : List Str) : inV (.str z) (ys.map V.str) = decide (z ∈ ys) := by
  by_cases h : z ∈ ys
  · rw [inV_str h, decide_eq_true h]
  · rw [inV_str_not h, decide_eq_false h]
theorem it_len {i : Int} (h : i.natAbs.log2 < 1920) : (Str.ofString (toString i)).length ≤ 1921 := by
  rw [PySem.ofString_length]
  exact int_text_length_le (by decide) h
theorem sz_unk {y : Str} (h : y.length ≤ 100000) : ((Str.empty ++ ("unknown name: " : Str)) ++ y).length ≤ sizeLine := by
  rw [Str.length_append, sizeLine_eq]
  have : (Str.empty ++ ("unknown name: " : Str)).length = 14 := by decide +kernel
  omega
def namesD (D : LandD) : List Str := D.ls.map (·.n)
def sp_link (K : PySem.W.Frag) (C U : Addr) : Sp := fun vs H Q E => ∃ (x : Addr) (D : LandD) (z : Str), vs = [.ref x, .str z] ∧ IsLand K C H x D ∧ z.length ≤ 1000 ∧ (∀ k ∈ D.ls, k.n = z → ∀ H' t, Ex H H' → Dp K H' (.ref t) (dLink k) → Q (.ref t) H') ∧ (z ∉ namesD D → UnN U z H E)
def sp_ends (sel : Link → Str) (K : PySem.W.Frag) (C U : Addr) : Sp := fun vs H Q E => ∃ (x : Addr) (D : LandD) (z : Str), vs = [.ref x, .str z] ∧ IsLand K C H x D ∧ D.ls.length ≤ 60 ∧ z.length ≤ 1000 ∧
  (z ∈ D.ps → ∀ H' q, Ex H H' → H q = none → H' q = some (.lst (((D.ls.filter fun k => decide (sel k = z)).map (·.n)).map V.str)) → Q (.ref q) H') ∧ (z ∉ D.ps → UnN U z H E)
theorem link_at {K : PySem.W.Frag} {H : Hp} {v : V} {k : Link} (h : Dp K H v (dLink k)) : ∃ t u us, v = .ref t ∧ SqT K H t [.str k.n, .str k.o, .str k.t, .ref u] ∧ SqT K H u us ∧ DpAll K H us (k.ts.map dTime) := by
  unfold dLink at h
  cases h with
  | tup st al =>
    cases al with
    | cons d1 al => cases al with
      | cons d2 al => cases al with
        | cons d3 al => cases al with
          | cons d4 al =>
            cases al
            cases d1
            cases d2
            cases d3
            cases d4 with
            | tup su au => exact ⟨_, _, _, rfl, st, su, au⟩
theorem row_link {K : PySem.W.Frag} {H : Hp} {rs : List V} {ls : List Link} {i : Nat} {y : V} (h : DpAll K H rs (ls.map dLink)) (hy : rs[i]? = some y) : ∃ k, ls[i]? = some k ∧ k ∈ ls ∧ Dp K H y (dLink k) := by
  obtain ⟨d, hd, dp⟩ := dps_at h hy
  rw [List.getElem?_map] at hd
  obtain ⟨k, hk, rfl⟩ := Option.map_eq_some_iff.mp hd
  exact ⟨k, hk, List.mem_of_getElem? hk, dp⟩
theorem filter_take {α : Type} {f : α → Bool} {l : List α} {i : Nat} {x : α} (h : l[i]? = some x) : (l.take (i + 1)).filter f = (l.take i).filter f ++ (if f x = true then [x] else []) := by
  rw [take_one h, List.filter_append]
  congr 1
  by_cases o : f x = true
  · rw [if_pos o, List.filter_cons_of_pos o]; rfl
  · rw [if_neg o, List.filter_cons_of_neg o]; rfl
section
variable {P : Program} {w : World} {K : PySem.W.Frag} {mg : Str → Option Value} {base : Heap} {a : Ad}
theorem G_UnknownName (T : Txt K mg a) (hP : PF P) : FnOk P w K mg base CX0 1 a.f_UnknownName a.d_UnknownName ["self", "name"] (SupX.spKeep a.X_UnknownName "name") := by
  refine SupX.sup_ok (T.S_UnknownName hP) (fun vs H Q E h => ?_) (fun A outer s H vs Q E hr h => ?_) (fun _ => rfl) (fun _ => ⟨_, rfl⟩)
  · obtain ⟨x, y, rfl, _⟩ := h
    rfl
  · obtain ⟨x, y, rfl, hy, hx, k⟩ := h
    refine ⟨x, y, _, _, rfl, hx, pa_cons (pe_joined (PJ.cons pe_str (PJ.cons (pe_fmt (pv 1)) PJ.nil))) pa_nil, ps_ost (pv 0) (pv 1) rfl, ?_⟩
    have fin : x = x → (1 : Nat) ≤ 1000 ∧ H x = some (exo x a.X_UnknownName none) ∧ tOst K "name" (tVar 0) (tVar 1) { nx := fun _ H' => Q V.non H', rt := Q } (NdefX.startF ["self", "name", "__class__"] [V.ref x, y] [none]) H := fun _ =>
      ⟨by decide, hx, _, rfl, _, rfl, x, a.X_UnknownName, rfl, T.o_UnknownName, T.nf_UnknownName, .inl ⟨hx, fun dx h1 h2 => k dx h1 h2⟩⟩
    have fin := fin rfl
    rcases hy with ⟨z, ⟨rfl, lz⟩ | ⟨i, rfl, li⟩⟩
    · exact ⟨_, rfl, by rw [sizeLine_eq]; decide +kernel, _, rfl, .inl ⟨z, rfl, by rw [sizeLine_eq]; omega, _, rfl, sz_unk (by omega), fin⟩⟩
    · exact ⟨_, rfl, by rw [sizeLine_eq]; decide +kernel, _, rfl, .inr ⟨i, rfl, li, _, rfl, sz_unk (by have := it_len li; omega), fin⟩⟩
theorem G_check_wind (T : Txt K mg a) (hP : PF P) : FnOk P w K mg base (CX P w) 3 a.f_check_wind a.d_check_wind ["self", "wind"] (sp_check LandD.ws K a.C a.X_UnknownName) := by
  refine T.F_check_wind.okX sc_check_wind (fun vs H Q E h => ?_) (fun cdv A outer s H vs Q E hr h => ?_)
  · obtain ⟨x, D, z, rfl, _⟩ := h
    rfl
  · obtain ⟨x, D, z, rfl, hx, lz, k1, k2⟩ := h
    refine ⟨_, (pss_one (ps_if (pt_cmpR op_notIn_seq (pv 1) (pe_fld (pv 0) rfl) (by rfl)) (pss_one (ps_raise rfl (takes_of rfl rfl rfl rfl) (SupX.pmk_keep T.o_UnknownName T.i_UnknownName T.ti_UnknownName (G_UnknownName T hP) (hr.mono (by decide)) T.B_UnknownName (by rfl) T.g_UnknownName (pa_cons (pv 1) pa_nil)))) pss_nil)), ?_⟩
    obtain ⟨dx, wi, pl, li, pa, rows, prs, L⟩ := hx
    refine ⟨_, rfl, _, rfl, x, a.C, dx, _, _, rfl, L.ob, T.cl, T.nW, fs_winds .., wi, _, rfl, .inr L.wi.sq, rfl, flat_str _, _, rfl, ?_⟩
    rw [inV_str_dec]
    by_cases c : z ∈ D.ws
    · rw [decide_eq_true c]
      exact iteF (k1 c H (Ex.refl _))
    · rw [decide_eq_false c]
      refine iteT ?_
      exact ⟨_, rfl, SupX.keep_post ⟨z, .inl ⟨rfl, by omega⟩⟩ fun d H' hd e h => k2 c d H' hd e h⟩
theorem G_check_place (T : Txt K mg a) (hP : PF P) : FnOk P w K mg base (CX P w) 3 a.f_check_place a.d_check_place ["self", "place"] (sp_check LandD.ps K a.C a.X_UnknownName) := by
  refine T.F_check_place.okX sc_check_place (fun vs H Q E h => ?_) (fun cdv A outer s H vs Q E hr h => ?_)
  · obtain ⟨x, D, z, rfl, _⟩ := h
    rfl
  · obtain ⟨x, D, z, rfl, hx, lz, k1, k2⟩ := h
    refine ⟨_, (pss_one (ps_if (pt_cmpR op_notIn_seq (pv 1) (pe_fld (pv 0) rfl) (by rfl)) (pss_one (ps_raise rfl (takes_of rfl rfl rfl rfl) (SupX.pmk_keep T.o_UnknownName T.i_UnknownName T.ti_UnknownName (G_UnknownName T hP) (hr.mono (by decide)) T.B_UnknownName (by rfl) T.g_UnknownName (pa_cons (pv 1) pa_nil)))) pss_nil)), ?_⟩
    obtain ⟨dx, wi, pl, li, pa, rows, prs, L⟩ := hx
    refine ⟨_, rfl, _, rfl, x, a.C, dx, _, _, rfl, L.ob, T.cl, T.nP, fs_places .., pl, _, rfl, .inr L.pl, rfl, flat_str _, _, rfl, ?_⟩
    rw [inV_str_dec]
    by_cases c : z ∈ D.ps
    · rw [decide_eq_true c]
      exact iteF (k1 c H (Ex.refl _))
    · rw [decide_eq_false c]
      refine iteT ?_
      exact ⟨_, rfl, SupX.keep_post ⟨z, .inl ⟨rfl, by omega⟩⟩ fun d H' hd e h => k2 c d H' hd e h⟩
theorem G_link (T : Txt K mg a) (hP : PF P) : FnOk P w K mg base (CX P w) 3 a.f_link a.d_link ["self", "name"] (sp_link K a.C a.X_UnknownName) := by
  refine T.F_link.okX sc_link (fun vs H Q E h => ?_) (fun cdv A outer s H vs Q E hr h => ?_)
  · obtain ⟨x, D, z, rfl, _⟩ := h
    rfl
  · obtain ⟨x, D, z, rfl, hx, lz, k1, k2⟩ := h
    refine ⟨_, (pss_cons (ps_for (passes_of rfl) rfl (pi_tup (pe_fld (pv 0) rfl)) (pg_name (i := 2) sc_link.nd rfl (Or.inl rfl)) (pss_one (ps_if (pt_cmpR op_eq (pe_ix ix_tup (pv 2) pe_int (fun _ _ => rfl)) (pv 1) (nomark _)) (pss_one (ps_ret (pv 2))) pss_nil)))
      (pss_one (ps_raise rfl (takes_of rfl rfl rfl rfl) (SupX.pmk_keep T.o_UnknownName T.i_UnknownName T.ti_UnknownName (G_UnknownName T hP) (hr.mono (by decide)) T.B_UnknownName (by rfl) T.g_UnknownName (pa_cons (pv 1) pa_nil))))), ?_⟩
    obtain ⟨dx, wi, pl, li, pa, rows, prs, L⟩ := hx
    refine ⟨_, rfl, x, a.C, dx, _, _, rfl, L.ob, T.cl, T.nL, fs_links .., li, rfl, ⟨_, L.li⟩, for_tup (K := K) (a := li) (xs := rows) (fun i σ H' => ∃ v2, σ = [some (.ref x), some (.str z), v2] ∧ Ex H H' ∧ ∀ j k, j < i → D.ls[j]? = some k → k.n ≠ z) ⟨_, rfl, Ex.refl _, fun j k hj => absurd hj (Nat.not_lt_zero _)⟩ (fun i σ H' _ q => by obtain ⟨_, rfl, e, _⟩ := q; exact ex_t e L.li) ?_ ?_⟩
    · rintro i y σ H1 hy ⟨v2, rfl, e1, no⟩
      obtain ⟨k, hk, kin, dk⟩ := row_link L.ls hy
      have dk1 := dp_ex e1 dk
      obtain ⟨t, u, us, rfl, st, su, au⟩ := link_at dk1
      refine ⟨_, rfl, t, _, _, _, rfl, rfl, st, atI_nat (j := 0) rfl, _, rfl, rfl, _, rfl, ite2 (fun c => ?_) (fun c => ?_)⟩
      · have c : k.n = z := by have := of_decide_eq_true c; injection this
        exact ⟨_, rfl, k1 k kin c H1 t e1 dk1⟩
      · have c : k.n ≠ z := fun q => c (by rw [q]; exact decide_eq_true rfl)
        refine ⟨_, rfl, e1, fun j k' hj hk' => ?_⟩
        by_cases q : j = i
        · rw [q, hk] at hk'
          rw [← Option.some.inj hk']; exact c
        · exact no j k' (by omega) hk'
    · rintro σ H1 ⟨v2, rfl, e1, no⟩
      have len : rows.length = D.ls.length := by rw [dps_len L.ls, List.length_map]
      have nn : z ∉ namesD D := fun q => by
        obtain ⟨k, hk, e⟩ := List.mem_map.mp q
        obtain ⟨j, hj⟩ := List.getElem?_of_mem hk
        exact no j k (by have := (List.getElem?_eq_some_iff.mp hj).1; omega) hj e
      exact ⟨_, rfl, SupX.keep_post ⟨z, .inl ⟨rfl, by omega⟩⟩ fun d H' hd e h => (k2 nn).ex e1 d H' hd e h⟩
theorem G_links_from (T : Txt K mg a) (hP : PF P) : FnOk P w K mg base (CX P w) 4 a.f_links_from a.d_links_from ["self", "place"] (sp_ends Link.o K a.C a.X_UnknownName) := by
  refine T.F_links_from.okX sc_links_from (fun vs H Q E h => ?_) (fun cdv A outer s H vs Q E hr h => ?_)
  · obtain ⟨x, D, z, rfl, _⟩ := h
    rfl
  · obtain ⟨x, D, z, rfl, hx, l60, lz, k1, k2⟩ := h
    refine ⟨_, (pss_cons (ps_expr (pe_meth (pv 0) T.cl T.m_check_place (G_check_place T hP) (hr.mono (by decide)) T.B_check_place .nil (passes_call (W := fun cls d _ H => E cls d H) (takes_of rfl rfl rfl rfl) (fun _ _ _ _ z => z)) (pa_cons (pv 1) pa_nil)))
      (pss_one (ps_ret (pe_lc (own := [("link", 2)]) (g := gName 2) rfl sc_links_from.nd (pi_tup (pe_fld (pv 0) rfl)) (blkOk_by (N := ["self", "place", "link"]) (sc := defScope s_links_from) (by decide +kernel)) (fun _ _ _ _ _ => pg_name (i := 2) sc_links_from.nd rfl (Or.inl rfl)) (fun _ _ _ _ _ => pts_one (pt_cmpR op_eq (pe_ix (show IxR _ (rIxT K) from ix_tup) (pv 2) pe_int (fun _ _ => rfl)) (pv 1) (nomark _))) (fun _ _ _ _ _ => (pe_ix (show IxR _ (rIxT K) from ix_tup) (pv 2) pe_int (fun _ _ => rfl))))))), ?_⟩
    obtain ⟨dx, wi, pl, li, pa, rows, prs, L⟩ := id hx
    refine ⟨_, rfl, x, dx, _, rfl, L.ob, fs_none _ _ _ _ (by decide +kernel) (by decide +kernel) (by decide +kernel) (by decide +kernel), _, rfl, x, D, z, rfl, hx, lz, fun c H1 e1 => ?_, k2⟩
    obtain ⟨dx, wi, pl, li, pa, rows, prs, L⟩ := hx.ex e1
    refine ⟨_, rfl, x, a.C, dx, _, _, rfl, L.ob, T.cl, T.nL, fs_links .., li, rfl, ⟨_, L.li⟩, fun D0 hD => lc_tup (K := K) (a := li) (xs := rows) (fun i H' => Ex H1 H' ∧ H' D0 = some (.lst ((((D.ls.take i).filter fun k => decide (k.o = z)).map (·.n)).map V.str))) ⟨Ex.new hD, upd_same⟩ (fun i H' _ q => ex_t q.1 L.li) ?_ ?_⟩
    · rintro i y H2 hy ⟨e2, hg⟩
      obtain ⟨k, hk, kin, dk⟩ := row_link L.ls hy
      obtain ⟨t, u, us, rfl, st, su, au⟩ := link_at (dp_ex e2 dk)
      refine ⟨rfl, _, rfl, t, _, _, _, rfl, rfl, st, atI_nat (j := 1) rfl, _, rfl, rfl, _, rfl, ?_⟩
      have flt := filter_take (f := fun k : Link => decide (k.o = z)) hk
      have fl := List.length_filter_le (fun k : Link => decide (k.o = z)) (D.ls.take i)
      rw [List.length_take] at fl
      refine ite2 (fun c => ?_) (fun c => ?_)
      · have c : k.o = z := by have := of_decide_eq_true c; injection this
        refine ⟨_, rfl, t, _, _, _, rfl, rfl, st, atI_nat (j := 0) rfl, _, hg, sz_lt (by rw [List.length_map, List.length_map]; omega), e2.mut hD, ?_⟩
        rw [upd_same, flt, decide_eq_true c, if_pos rfl, List.map_append, List.map_append]
        rfl
      · have c : k.o ≠ z := fun q => c (by rw [q]; exact decide_eq_true rfl)
        refine ⟨e2, ?_⟩
        rw [flt, decide_eq_false c, if_neg Bool.false_ne_true, List.append_nil]
        exact hg
    · rintro H2 ⟨e2, hg⟩
      have len : rows.length = D.ls.length := by rw [dps_len L.ls, List.length_map]
      rw [len, List.take_length] at hg
      exact k1 c H2 D0 (e1.trans e2) (fresh_back e1 hD) hg
theorem G_links_to (T : Txt K mg a) (hP : PF P) : FnOk P w K mg base (CX P w) 4 a.f_links_to a.d_links_to ["self", "place"] (sp_ends Link.t K a.C a.X_UnknownName) := by
  refine T.F_links_to.okX sc_links_to (fun vs H Q E h => ?_) (fun cdv A outer s H vs Q E hr h => ?_)
  · obtain ⟨x, D, z, rfl, _⟩ := h
    rfl
  · obtain ⟨x, D, z, rfl, hx, l60, lz, k1, k2⟩ := h
    refine ⟨_, (pss_cons (ps_expr (pe_meth (pv 0) T.cl T.m_check_place (G_check_place T hP) (hr.mono (by decide)) T.B_check_place .nil (passes_call (W := fun cls d _ H => E cls d H) (takes_of rfl rfl rfl rfl) (fun _ _ _ _ z => z)) (pa_cons (pv 1) pa_nil)))
      (pss_one (ps_ret (pe_lc (own := [("link", 2)]) (g := gName 2) rfl sc_links_to.nd (pi_tup (pe_fld (pv 0) rfl)) (blkOk_by (N := ["self", "place", "link"]) (sc := defScope s_links_to) (by decide +kernel)) (fun _ _ _ _ _ => pg_name (i := 2) sc_links_to.nd rfl (Or.inl rfl)) (fun _ _ _ _ _ => pts_one (pt_cmpR op_eq (pe_ix (show IxR _ (rIxT K) from ix_tup) (pv 2) pe_int (fun _ _ => rfl)) (pv 1) (nomark _))) (fun _ _ _ _ _ => (pe_ix (show IxR _ (rIxT K) from ix_tup) (pv 2) pe_int (fun _ _ => rfl))))))), ?_⟩
    obtain ⟨dx, wi, pl, li, pa, rows, prs, L⟩ := id hx
    refine ⟨_, rfl, x, dx, _, rfl, L.ob, fs_none _ _ _ _ (by decide +kernel) (by decide +kernel) (by decide +kernel) (by decide +kernel), _, rfl, x, D, z, rfl, hx, lz, fun c H1 e1 => ?_, k2⟩
    obtain ⟨dx, wi, pl, li, pa, rows, prs, L⟩ := hx.ex e1
    refine ⟨_, rfl, x, a.C, dx, _, _, rfl, L.ob, T.cl, T.nL, fs_links .., li, rfl, ⟨_, L.li⟩, fun D0 hD => lc_tup (K := K) (a := li) (xs := rows) (fun i H' => Ex H1 H' ∧ H' D0 = some (.lst ((((D.ls.take i).filter fun k => decide (k.t = z)).map (·.n)).map V.str))) ⟨Ex.new hD, upd_same⟩ (fun i H' _ q => ex_t q.1 L.li) ?_ ?_⟩
    · rintro i y H2 hy ⟨e2, hg⟩
      obtain ⟨k, hk, kin, dk⟩ := row_link L.ls hy
      obtain ⟨t, u, us, rfl, st, su, au⟩ := link_at (dp_ex e2 dk)
      refine ⟨rfl, _, rfl, t, _, _, _, rfl, rfl, st, atI_nat (j := 2) rfl, _, rfl, rfl, _, rfl, ?_⟩
      have flt := filter_take (f := fun k : Link => decide (k.t = z)) hk
      have fl := List.length_filter_le (fun k : Link => decide (k.t = z)) (D.ls.take i)
      rw [List.length_take] at fl
      refine ite2 (fun c => ?_) (fun c => ?_)
      · have c : k.t = z := by have := of_decide_eq_true c; injection this
        refine ⟨_, rfl, t, _, _, _, rfl, rfl, st, atI_nat (j := 0) rfl, _, hg, sz_lt (by rw [List.length_map, List.length_map]; omega), e2.mut hD, ?_⟩
        rw [upd_same, flt, decide_eq_true c, if_pos rfl, List.map_append, List.map_append]
        rfl
      · have c : k.t ≠ z := fun q => c (by rw [q]; exact decide_eq_true rfl)
        refine ⟨e2, ?_⟩
        rw [flt, decide_eq_false c, if_neg Bool.false_ne_true, List.append_nil]
        exact hg
    · rintro H2 ⟨e2, hg⟩
      have len : rows.length = D.ls.length := by rw [dps_len L.ls, List.length_map]
      rw [len, List.take_length] at hg
      exact k1 c H2 D0 (e1.trans e2) (fresh_back e1 hD) hg
end
end EV

set_option Elab.async false
set_option linter.all false
set_option maxRecDepth 100000
set_option maxHeartbeats 4000000
namespace EV
open PySem PySem.Spec PyProof.Rows L2 EvS Evl
def sp_bounds (K : PySem.W.Frag) (C U : Addr) : Sp := fun vs H Q E => ∃ (x : Addr) (D : LandD) (z w : Str), vs = [.ref x, .str z, .str w] ∧ IsLand K C H x D ∧ LandOk D ∧ z.length ≤ 1000 ∧ w.length ≤ 1000 ∧
  (z ∉ namesD D → UnN U z H E) ∧ (z ∈ namesD D → w ∉ D.ws → UnN U w H E) ∧
  (∀ k ∈ D.ls, k.n = z → ∀ (j : Nat) b, D.ws[j]? = some w → k.ts[j]? = some b → ∀ H' v, Ex H H' → Dp K H' v (dTime b) → Q v H')
theorem first_at {z : Str} : ∀ {l : List Str}, z ∈ l → ∃ j : Nat, l[j]? = some z ∧ ∀ (i : Nat) (y : Str), i < j → l[i]? = some y → y ≠ z
  | x :: t, h => by
    by_cases e : x = z
    · exact ⟨0, by rw [e]; rfl, fun i _ hi => absurd hi (Nat.not_lt_zero i)⟩
    · obtain ⟨j, hj, hb⟩ := first_at ((List.mem_cons.mp h).resolve_left fun q => e q.symm)
      refine ⟨j + 1, hj, fun i y hi hy => ?_⟩
      cases i with
      | zero => rw [← Option.some.inj hy]; exact e
      | succ i => exact hb i y (by omega) hy
def bet (p : Str × Str × Int) (a b : Str) : Prop := (p.1 = a ∧ p.2.1 = b) ∨ (p.1 = b ∧ p.2.1 = a)
theorem eqv_two (a b c d : Str) : PyData.eqv (.tuple [.str a, .str b]) (.tuple [.str c, .str d]) = decide (a = c ∧ b = d) := by
  simp only [PyData.eqv, PyData.eqvAll]
  by_cases h1 : a = c
  · by_cases h2 : b = d
    · simp [h1, h2]
    · simp [h1, h2]
  · simp [h1]
def sp__is_between (K : PySem.W.Frag) : Sp := fun vs H Q _ => ∃ (t : Addr) (p : Str × Str × Int) (one other : Str), vs = [.ref t, .str one, .str other] ∧ SqT K H t [.str p.1, .str p.2.1, .int p.2.2] ∧ isName p.1 = true ∧ isName p.2.1 = true ∧ isName one = true ∧ isName other = true ∧
  ∀ H', Ex H H' → (bet p one other → Q (.bl true) H') ∧ (¬ bet p one other → Q (.bl false) H')
def walk1 (z : Str) (p : Str × Str × Int) : Option (Str × Int) := if p.1 = z then some (p.2.1, p.2.2) else if p.2.1 = z then some (p.1, p.2.2) else none
def dWalk (q : Str × Int) : PyData := .tuple [.str q.1, .int q.2]
def sp_walks_from (K : PySem.W.Frag) (C U : Addr) : Sp := fun vs H Q E => ∃ (x : Addr) (D : LandD) (z : Str), vs = [.ref x, .str z] ∧ IsLand K C H x D ∧ D.pa.length ≤ 60 ∧ z.length ≤ 1000 ∧
  (z ∈ D.ps → ∀ H' q rs, Ex H H' → H q = none → H' q = some (.lst rs) → DpAll K H' rs ((D.pa.filterMap (walk1 z)).map dWalk) → Q (.ref q) H') ∧ (z ∉ D.ps → UnN U z H E)
def sp_minutes_between (K : PySem.W.Frag) (C U : Addr) : Sp := fun vs H Q E => ∃ (x : Addr) (D : LandD) (one other : Str), vs = [.ref x, .str one, .str other] ∧ IsLand K C H x D ∧ LandOk D ∧ one.length ≤ 1000 ∧ other.length ≤ 1000 ∧
  (one ∉ D.ps → UnN U one H E) ∧ (one ∈ D.ps → other ∉ D.ps → UnN U other H E) ∧
  (∀ p ∈ D.pa, bet p one other → ∀ H', Ex H H' → Q (.int p.2.2) H') ∧ (one ∈ D.ps → other ∈ D.ps → (∀ p ∈ D.pa, ¬ bet p one other) → ∀ H', Ex H H' → Q .non H')
theorem path_at {K : PySem.W.Frag} {H : Hp} {rs : List V} {ls : List (Str × Str × Int)} {i : Nat} {y : V} (h : DpAll K H rs (ls.map dPath)) (hy : rs[i]? = some y) : ∃ p t, ls[i]? = some p ∧ p ∈ ls ∧ y = .ref t ∧ SqT K H t [.str p.1, .str p.2.1, .int p.2.2] := by
  obtain ⟨d, hd, dp⟩ := dps_at h hy
  rw [List.getElem?_map] at hd
  obtain ⟨k, hk, rfl⟩ := Option.map_eq_some_iff.mp hd
  unfold dPath at dp
  cases dp with
  | tup st al =>
    cases al with
    | cons d1 al => cases al with
      | cons d2 al => cases al with
        | cons d3 al =>
          cases al
          cases d1
          cases d2
          cases d3
          exact ⟨k, _, hk, List.mem_of_getElem? hk, rfl, st⟩
theorem dec_str {x y : Str} : decide (V.str x = V.str y) = decide (x = y) := by
  by_cases h : x = y
  · rw [h, decide_eq_true rfl, decide_eq_true rfl]
  · rw [decide_eq_false h, decide_eq_false fun e => h (by injection e)]
theorem fmap_take {α β : Type} {f : α → Option β} {l : List α} {i : Nat} {x : α} (h : l[i]? = some x) : (l.take (i + 1)).filterMap f = (l.take i).filterMap f ++ (f x).toList := by
  rw [take_one h, List.filterMap_append]
  congr 1
section
variable {P : Program} {w : World} {K : PySem.W.Frag} {mg : Str → Option Value} {base : Heap} {a : Ad}
theorem G_bounds (T : Txt K mg a) (hP : PF P) : FnOk P w K mg base (CX P w) 4 a.f_bounds a.d_bounds ["self", "name", "wind"] (sp_bounds K a.C a.X_UnknownName) := by
  refine T.F_bounds.okX sc_bounds (fun vs H Q E h => ?_) (fun cdv A outer s H vs Q E hr h => ?_)
  · obtain ⟨x, D, z, w, rfl, _⟩ := h
    rfl
  · obtain ⟨x, D, z, w, rfl, hx, ok, lz, lw, k1, k2, k3⟩ := h
    refine ⟨_, (pss_cons (ps_set (i := 3) sc_bounds.nd rfl (Or.inl rfl) (pe_ix ix_tup (pe_meth (pv 0) T.cl T.m_link (G_link T hP) (hr.mono (by decide)) T.B_link .nil (passes_call (W := fun cls d _ H => E cls d H) (takes_of rfl rfl rfl rfl) (fun _ _ _ _ z => z)) (pa_cons (pv 1) pa_nil)) pe_int (fun _ _ => rfl)))
      (pss_cons (ps_expr (pe_meth (pv 0) T.cl T.m_check_wind (G_check_wind T hP) (hr.mono (by decide)) T.B_check_wind .nil (passes_call (W := fun cls d _ H => E cls d H) (takes_of rfl rfl rfl rfl) (fun _ _ _ _ z => z)) (pa_cons (pv 2) pa_nil)))
      (pss_one (ps_ret (pe_ix ix_tup (pv 3) (TupX.pe_bmT PySem.F.plainAttrs_tuple PySem.F.slot_tuple_index PySem.F.type_tuple_index mt_tup_index (pe_fld (pv 0) rfl) (pa_cons (pv 2) pa_nil)) (fun _ _ => rfl)))))), ?_⟩
    obtain ⟨dx, wi, pl, li, pa, rows, prs, L⟩ := id hx
    refine ⟨_, rfl, x, dx, _, rfl, L.ob, fs_none _ _ _ _ (by decide +kernel) (by decide +kernel) (by decide +kernel) (by decide +kernel), _, rfl, x, D, z, rfl, hx, lz, fun k kin kn H1 t e1 dk => ?_, k1⟩
    obtain ⟨t', u, us, et, st, su, au⟩ := link_at dk
    obtain rfl : t = t' := by injection et
    have hx1 := hx.ex e1
    obtain ⟨dx, wi, pl, li, pa, rows, prs, L⟩ := id hx1
    have zin : z ∈ namesD D := List.mem_map.mpr ⟨k, kin, kn⟩
    refine ⟨t, _, _, _, rfl, rfl, st, atI_nat (j := 3) rfl, ?_⟩
    refine ⟨_, rfl, x, dx, _, rfl, L.ob, fs_none _ _ _ _ (by decide +kernel) (by decide +kernel) (by decide +kernel) (by decide +kernel), _, rfl, x, D, w, rfl, hx1, lw, fun wc H2 e2 => ?_, fun wc => (k2 zin wc).ex e1⟩
    obtain ⟨dx, wi, pl, li, pa, rows, prs, L⟩ := hx1.ex e2
    obtain ⟨j, hj, hb⟩ := first_at wc
    have kl := (ok.lk k kin).len
    obtain ⟨b, hbt⟩ : ∃ b, k.ts[j]? = some b := ⟨_, List.getElem?_eq_getElem (by have := (List.getElem?_eq_some_iff.mp hj).1; omega)⟩
    have ul : us.length = k.ts.length := by rw [dps_len au, List.length_map]
    obtain ⟨v, hv⟩ : ∃ v, us[j]? = some v := ⟨_, List.getElem?_eq_getElem (by have := (List.getElem?_eq_some_iff.mp hbt).1; omega)⟩
    obtain ⟨d, hd, dp⟩ := dps_at au hv
    rw [List.getElem?_map, hbt] at hd
    obtain rfl : dTime b = d := Option.some.inj hd
    exact ⟨_, rfl, _, rfl, x, a.C, dx, _, _, rfl, L.ob, T.cl, T.nW, fs_winds .., wi, _, rfl, L.wi, _, rfl, wi, D.ws, w, j, rfl, rfl, L.wi.sq, hj, fun m hm q => hb m w hm q rfl, u, _, _, _, rfl, rfl, ex_t e2 su, atI_nat hv, k3 k kin kn j b hj hbt _ v (e1.trans e2) (dp_ex e2 dp)⟩
theorem G__is_between (T : Txt K mg a) : FnOk P w K mg base CX0 1 a.f__is_between a.d__is_between ["path", "one", "other"] (sp__is_between K) := by
  refine T.F__is_between.ok sc__is_between (fun vs H Q E h => ?_) (fun cdv A outer s H vs Q E hr h => ?_)
  · obtain ⟨t, p, one, other, rfl, _⟩ := h
    rfl
  · obtain ⟨t, p, one, other, rfl, ht, n1, n2, n3, n4, k⟩ := h
    refine ⟨_, (pss_one (ps_ret (pe_or (pe_cmpR (op_eqD hr.units) (pe_slice sl_tup (pv 0) po_none (po_some pe_int)) (pe_tup (pa_cons (pv 1) (pa_cons (pv 2) pa_nil))) (nomark _)) (pe_one (pe_cmpR (op_eqD hr.units) (pe_slice sl_tup (pv 0) po_none (po_some pe_int)) (pe_tup (pa_cons (pv 2) (pa_cons (pv 1) pa_nil))) (nomark _)))))), ?_⟩
    have cut : cutV [V.str p.1, .str p.2.1, .int p.2.2] none (some 2) = [.str p.1, .str p.2.1] := rfl
    have sh : ∀ {y z : Str}, isName y = true → isName z = true → SeqAt.shaped (.tuple [.str y, .str z]) = true := fun h1 h2 => sh_shaped (n := 6) (sh_tup (n := 5) fun d hd => by
      rcases List.mem_cons.mp hd with e | e
      · rw [e]; exact sh_str h1
      · rw [List.mem_singleton.mp e]; exact sh_str h2) (by decide)
    refine ⟨_, rfl, _, rfl, t, _, rfl, ht, fun q => absurd q.2 (by show ¬ HT.sIx 3 3 (some 2) = 3; decide), fun t1 h1 => ?_⟩
    rw [cut]
    refine ⟨_, rfl, _, rfl, by show 2 ≤ sizeLine; decide, fun t2 h2 => ?_⟩
    have b1 : Ex H (upd H t1 (.tup [.str p.1, .str p.2.1])) := Ex.new h1
    have b2 := Ex.new (o := .tup [.str one, .str other]) h2
    refine ⟨_, _, .tup (st_of (b2 _ _ upd_same)) (.cons (.str _) (.cons (.str _) .nil)), .tup (st_of upd_same) (.cons (.str _) (.cons (.str _) .nil)), sh n1 n2, sh n3 n4, _, rfl, ?_⟩
    rw [eqv_two]
    have b := b1.trans b2
    generalize upd (upd H t1 (.tup [.str p.1, .str p.2.1])) t2 (.tup [.str one, .str other]) = H1 at b
    refine ite2 (fun c => ?_) (fun c => ?_)
    · exact (k H1 b).1 (.inl (of_decide_eq_true c))
    have c : ¬ (p.1 = one ∧ p.2.1 = other) := fun q => c (decide_eq_true q)
    refine ⟨_, rfl, _, rfl, t, _, rfl, ex_t b ht, fun q => absurd q.2 (by show ¬ HT.sIx 3 3 (some 2) = 3; decide), fun t3 h3 => ?_⟩
    rw [cut]
    refine ⟨_, rfl, _, rfl, by show 2 ≤ sizeLine; decide, fun t4 h4 => ?_⟩
    have b3 := Ex.new (o := .tup [.str p.1, .str p.2.1]) h3
    have b4 := Ex.new (o := .tup [.str other, .str one]) h4
    refine ⟨_, _, .tup (st_of (b4 _ _ upd_same)) (.cons (.str _) (.cons (.str _) .nil)), .tup (st_of upd_same) (.cons (.str _) (.cons (.str _) .nil)), sh n1 n2, sh n4 n3, ?_⟩
    rw [eqv_two]
    have kk := k _ (b.trans (b3.trans b4))
    by_cases c2 : p.1 = other ∧ p.2.1 = one
    · rw [decide_eq_true c2]
      exact kk.1 (.inr c2)
    · rw [decide_eq_false c2]
      exact kk.2 fun q => q.elim c c2
theorem G_walks_from (T : Txt K mg a) (hP : PF P) : FnOk P w K mg base (CX P w) 4 a.f_walks_from a.d_walks_from ["self", "place"] (sp_walks_from K a.C a.X_UnknownName) := by
  refine T.F_walks_from.okX sc_walks_from (fun vs H Q E h => ?_) (fun cdv A outer s H vs Q E hr h => ?_)
  · obtain ⟨x, D, z, rfl, _⟩ := h
    rfl
  · obtain ⟨x, D, z, rfl, hx, a60, lz, k1, k2⟩ := h
    refine ⟨_, (pss_cons (ps_expr (pe_meth (pv 0) T.cl T.m_check_place (G_check_place T hP) (hr.mono (by decide)) T.B_check_place .nil (passes_call (W := fun cls d _ H => E cls d H) (takes_of rfl rfl rfl rfl) (fun _ _ _ _ z => z)) (pa_cons (pv 1) pa_nil)))
      (pss_cons (ps_set (i := 2) sc_walks_from.nd rfl (Or.inl rfl) (pe_lst pa_nil))
      (pss_cons (ps_for (passes_of rfl) rfl (pi_tup (pe_fld (pv 0) rfl)) (pg_tup (by rfl) (pgs_cons (pg_name (i := 3) sc_walks_from.nd rfl (Or.inl rfl)) (pgs_cons (pg_name (i := 4) sc_walks_from.nd rfl (Or.inl rfl)) (pgs_cons (pg_name (i := 5) sc_walks_from.nd rfl (Or.inl rfl)) pgs_nil)))) (pss_one (ps_if (pt_cmpR op_eq (pv 3) (pv 1) (nomark _)) (pss_one (ps_expr (pe_bm PySem.F.plainAttrs_list PySem.F.slot_list_append PySem.F.type_list_append mt_append (pv 2) (pa_cons (pe_tup (pa_cons (pv 4) (pa_cons (pv 5) pa_nil))) pa_nil)))) (pss_one (ps_if (pt_cmpR op_eq (pv 4) (pv 1) (nomark _)) (pss_one (ps_expr (pe_bm PySem.F.plainAttrs_list PySem.F.slot_list_append PySem.F.type_list_append mt_append (pv 2) (pa_cons (pe_tup (pa_cons (pv 3) (pa_cons (pv 5) pa_nil))) pa_nil)))) pss_nil)))))
      (pss_one (ps_ret (pv 2)))))), ?_⟩
    obtain ⟨dx, wi, pl, li, pa, rows, prs, L⟩ := id hx
    refine ⟨_, rfl, x, dx, _, rfl, L.ob, fs_none _ _ _ _ (by decide +kernel) (by decide +kernel) (by decide +kernel) (by decide +kernel), _, rfl, x, D, z, rfl, hx, lz, fun c H1 e1 => ?_, k2⟩
    refine ⟨Nat.zero_le _, fun D0 hD => ?_⟩
    have nD : Ex H1 (upd H1 D0 (.lst [])) := Ex.new hD
    obtain ⟨dx, wi, pl, li, pa, rows, prs, L⟩ := hx.ex e1
    have len : prs.length = D.pa.length := by rw [dps_len L.ps, List.length_map]
    refine ⟨_, rfl, x, a.C, dx, _, _, rfl, nD _ _ L.ob, T.cl, T.nA, fs_paths .., pa, rfl, ⟨_, ex_t nD L.pa⟩, for_tup (K := K) (a := pa) (xs := prs) (fun i σ H' => ∃ v3 v4 v5 rs, σ = [some (.ref x), some (.str z), some (.ref D0), v3, v4, v5] ∧ Ex H1 H' ∧ H' D0 = some (.lst rs) ∧ DpAll K H' rs (List.map dWalk ((D.pa.take i).filterMap (walk1 z)))) ?_ ?_ ?_ ?_⟩
    · exact ⟨none, none, none, [], rfl, nD, upd_same, .nil⟩
    · rintro i σ H' _ ⟨_, _, _, _, rfl, e, _⟩
      exact ex_t e L.pa
    · rintro i y σ H2 hy ⟨v3, v4, v5, rs, rfl, e2, hg, hd⟩
      obtain ⟨p, t, hp, pin, rfl, st⟩ := path_at L.ps hy
      have lr : rs.length ≤ 60 := by
        rw [dps_len hd, List.length_map]
        have := List.length_filterMap_le (walk1 z) (D.pa.take i)
        rw [List.length_take] at this
        omega
      have put : ∀ (one : Str) (m : Int), walk1 z p = some (one, m) → ∀ t2, H2 t2 = none → Ex H1 (upd (upd H2 t2 (.tup [.str one, .int m])) D0 (.lst (rs ++ [.ref t2]))) ∧ DpAll K (upd (upd H2 t2 (.tup [.str one, .int m])) D0 (.lst (rs ++ [.ref t2]))) (rs ++ [.ref t2]) (List.map dWalk ((D.pa.take (i + 1)).filterMap (walk1 z))) := fun one m hw t2 ht2 => by
        have e3 : Ex H2 (upd H2 t2 (.tup [.str one, .int m])) := Ex.new ht2
        refine ⟨(e2.trans e3).mut hD, ?_⟩
        rw [fmap_take hp, hw]
        refine dps_exT (exT_mut (e3 _ _ hg)) ?_ (frozenAll_of fun d hd => by obtain ⟨b, _, rfl⟩ := List.mem_map.mp hd; simp [dWalk, frozen, frozenAll])
        rw [List.map_append]
        exact dps_app (dps_ex e3 hd) (dps_one (.tup (st_of upd_same) (.cons (.str _) (.cons (.int _) .nil))))
      refine ⟨t, _, rfl, ex_t e2 st, rfl, _, _, rfl, _, _, rfl, _, _, rfl, rfl, ?_⟩
      refine ⟨_, rfl, _, rfl, rfl, _, rfl, ?_⟩
      rw [dec_str]
      refine ite2 (fun q => ?_) (fun q => ?_)
      · have q : p.1 = z := of_decide_eq_true q
        refine ⟨_, rfl, .inl ⟨rfl, _, SqL.of hg⟩, _, rfl, _, rfl, by show 2 ≤ sizeLine; decide, fun t2 ht2 => ?_⟩
        have pp := put p.2.1 p.2.2 (by unfold walk1; rw [if_pos q]) t2 ht2
        exact ⟨D0, rs, _, rfl, rfl, Ex.new ht2 _ _ hg, sz_lt (by omega), _, _, _, rs ++ [.ref t2], rfl, pp.1, upd_same, pp.2⟩
      have q : p.1 ≠ z := fun h => q (decide_eq_true h)
      refine ⟨_, rfl, _, rfl, rfl, _, rfl, ?_⟩
      rw [dec_str]
      refine ite2 (fun q2 => ?_) (fun q2 => ?_)
      · have q2 : p.2.1 = z := of_decide_eq_true q2
        refine ⟨_, rfl, .inl ⟨rfl, _, SqL.of hg⟩, _, rfl, _, rfl, by show 2 ≤ sizeLine; decide, fun t2 ht2 => ?_⟩
        have pp := put p.1 p.2.2 (by unfold walk1; rw [if_neg q, if_pos q2]) t2 ht2
        exact ⟨D0, rs, _, rfl, rfl, Ex.new ht2 _ _ hg, sz_lt (by omega), _, _, _, rs ++ [.ref t2], rfl, pp.1, upd_same, pp.2⟩
      · have q2 : p.2.1 ≠ z := fun h => q2 (decide_eq_true h)
        refine ⟨_, _, _, rs, rfl, e2, hg, ?_⟩
        rw [fmap_take hp, show walk1 z p = none by unfold walk1; rw [if_neg q, if_neg q2]]
        simpa using hd
    · rintro σ H2 ⟨v3, v4, v5, rs, rfl, e2, hg, hd⟩
      rw [len, List.take_length] at hd
      exact ⟨_, rfl, k1 c H2 D0 rs (e1.trans e2) (fresh_back e1 hD) hg hd⟩
theorem G_minutes_between (T : Txt K mg a) (hP : PF P) : FnOk P w K mg base (CX P w) 4 a.f_minutes_between a.d_minutes_between ["self", "one", "other"] (sp_minutes_between K a.C a.X_UnknownName) := by
  refine T.F_minutes_between.okX sc_minutes_between (fun vs H Q E h => ?_) (fun cdv A outer s H vs Q E hr h => ?_)
  · obtain ⟨x, D, one, other, rfl, _⟩ := h
    rfl
  · obtain ⟨x, D, one, other, rfl, hx, ok, l1, l2, k1, k2, k3, k4⟩ := h
    refine ⟨_, (pss_cons (ps_expr (pe_meth (pv 0) T.cl T.m_check_place (G_check_place T hP) (hr.mono (by decide)) T.B_check_place .nil (passes_call (W := fun cls d _ H => E cls d H) (takes_of rfl rfl rfl rfl) (fun _ _ _ _ z => z)) (pa_cons (pv 1) pa_nil)))
      (pss_cons (ps_expr (pe_meth (pv 0) T.cl T.m_check_place (G_check_place T hP) (hr.mono (by decide)) T.B_check_place .nil (passes_call (W := fun cls d _ H => E cls d H) (takes_of rfl rfl rfl rfl) (fun _ _ _ _ z => z)) (pa_cons (pv 2) pa_nil)))
      (pss_cons (ps_for (passes_of rfl) rfl (pi_tup (pe_fld (pv 0) rfl)) (pg_name (i := 3) sc_minutes_between.nd rfl (Or.inl rfl)) (pss_one (ps_if (pt_val (pe_call (G__is_between T) (hr.mono (by decide)) (by rfl) T.g__is_between T.k__is_between T.B__is_between .nil pass0 (pa_cons (pv 3) (pa_cons (pv 1) (pa_cons (pv 2) pa_nil))))) (pss_one (ps_ret (pe_ix ix_tup (pv 3) pe_int (fun _ _ => rfl)))) pss_nil)))
      (pss_one (ps_ret pe_non))))), ?_⟩
    obtain ⟨dx, wi, pl, li, pa, rows, prs, L⟩ := id hx
    refine ⟨_, rfl, x, dx, _, rfl, L.ob, fs_none _ _ _ _ (by decide +kernel) (by decide +kernel) (by decide +kernel) (by decide +kernel), _, rfl, x, D, one, rfl, hx, l1, fun c1 H1 e1 => ?_, k1⟩
    have hx1 := hx.ex e1
    obtain ⟨dx, wi, pl, li, pa, rows, prs, L⟩ := id hx1
    refine ⟨_, rfl, x, dx, _, rfl, L.ob, fs_none _ _ _ _ (by decide +kernel) (by decide +kernel) (by decide +kernel) (by decide +kernel), _, rfl, x, D, other, rfl, hx1, l2, fun c2 H2 e2 => ?_, fun c2 => (k2 c1 c2).ex e1⟩
    have hx2 := hx1.ex e2
    have e12 := e1.trans e2
    obtain ⟨dx, wi, pl, li, pa, rows, prs, L⟩ := id hx2
    have len : prs.length = D.pa.length := by rw [dps_len L.ps, List.length_map]
    refine ⟨_, rfl, x, a.C, dx, _, _, rfl, L.ob, T.cl, T.nA, fs_paths .., pa, rfl, ⟨_, L.pa⟩, for_tup (K := K) (a := pa) (xs := prs) (fun i σ H' => ∃ v3, σ = [some (.ref x), some (.str one), some (.str other), v3] ∧ Ex H2 H' ∧ ∀ p ∈ D.pa.take i, ¬ bet p one other) ⟨none, rfl, Ex.refl _, fun p hp => by cases hp⟩ (fun i σ H' _ z => by obtain ⟨_, rfl, e, _⟩ := z; exact ex_t e L.pa) ?_ ?_⟩
    · rintro i y σ H3 hy ⟨v3, rfl, e3, no⟩
      obtain ⟨p, t, hp, pin, rfl, st⟩ := path_at L.ps hy
      have pk := ok.pt p pin
      refine ⟨_, rfl, _, rfl, _, rfl, t, p, one, other, rfl, ex_t e3 st, ok.gp.1 _ pk.o, ok.gp.1 _ pk.t, ok.gp.1 _ c1, ok.gp.1 _ c2, fun H4 e4 => ⟨fun b => ?_, fun b => ?_⟩⟩
      · exact ⟨_, rfl, _, rfl, t, _, _, _, rfl, rfl, ex_t (e3.trans e4) st, atI_nat (j := 2) rfl, k3 p pin b _ (e12.trans (e3.trans e4))⟩
      · refine ⟨_, rfl, _, rfl, e3.trans e4, fun p' hp' => ?_⟩
        rw [take_one hp] at hp'
        rcases List.mem_append.mp hp' with q | q
        · exact no p' q
        · rw [List.mem_singleton.mp q]; exact b
    · rintro σ H3 ⟨v3, rfl, e3, no⟩
      rw [len, List.take_length] at no
      exact k4 c1 c2 no H3 (e12.trans e3)
end
end EV

set_option Elab.async false
set_option linter.all false
set_option maxRecDepth 100000
set_option maxHeartbeats 4000000
namespace EV
open PySem PySem.Spec PyProof.Rows L2 EvS Evl
theorem iv_no {A B : Prop} {d n : Int} (h : d ≠ n) (b : B) : if decide (V.int d = V.int n) = true then A else B := by
  rw [decide_eq_false (fun e => h (by injection e))]
  exact b
theorem iv_yes {A B : Prop} {d : Int} (x : A) : if decide (V.int d = V.int d) = true then A else B := by
  rw [decide_eq_true rfl]
  exact x
def lstD (D : LandD) (d : Int) : List Str := if d = 0 ∨ d = 3 then namesD D else if d = 7 then D.ws else D.ps
def Odd (D : LandD) (d : Int) (y z out : Str) : Prop := (y ∉ lstD D d ∧ out = y) ∨ (d = 5 ∧ y ∈ D.ps ∧ z ∉ D.ps ∧ out = z) ∨ (d = 3 ∧ y ∈ namesD D ∧ z ∉ D.ws ∧ out = z)
def sp__law_unknown (K : PySem.W.Frag) (C : Addr) : Sp := fun vs H Q _ => ∃ (x : Addr) (D : LandD) (d : Int) (y z out : Str), vs = [.ref x, .int d, .str y, .str z] ∧ 0 ≤ d ∧ d ≤ 7 ∧ IsLand K C H x D ∧ LandOk D ∧ y.length ≤ 1000 ∧ z.length ≤ 1000 ∧ Odd D d y z out ∧ ∀ H', Ex H H' → Q (.str out) H'
def sp__law_is_list (K : PySem.W.Frag) : Sp := fun vs H Q _ => ∃ (q d : Addr) (xs : List V) (ds : List PyData) (H0 : Hp), vs = [.ref q, .ref d] ∧ H q = some (.lst xs) ∧ xs.length ≤ 1000 ∧ DpAll K H xs ds ∧ Dp K H (.ref d) (.list ds) ∧ SeqAt.shaped (.list ds) = true ∧ Ex H0 H ∧ H0 q = none ∧ ∀ H', Ex H0 H' → Q (.bl true) H'
section
variable {P : Program} {w : World} {K : PySem.W.Frag} {mg : Str → Option Value} {base : Heap} {a : Ad}
theorem G__law_unknown (T : Txt K mg a) (hP : PF P) : FnOk P w K mg base CX0 6 a.f__law_unknown a.d__law_unknown ["land", "deed", "first", "second"] (sp__law_unknown K a.C) := by
  refine T.F__law_unknown.ok sc__law_unknown (fun vs H Q E h => ?_) (fun cdv A outer s H vs Q E hr h => ?_)
  · obtain ⟨x, D, d, y, z, out, rfl, _⟩ := h
    rfl
  · obtain ⟨x, D, d, y, z, out, rfl, d0, d7, hx, ok, ly, lz, odd, k⟩ := h
    refine ⟨_, (pss_cons (ps_try_as (i := 4) rfl rfl sc__law_unknown.nd rfl rfl ⟨rfl, by decide, .inl T.g_UnknownName⟩ takes0 (fun W pn xe tk _ => (pss_one (ps_if (pt_cmpR op_eq (pv 1) pe_int (nomark _)) (pss_one (ps_expr (SupX.pe_metT (pv 0) T.cl T.m_link (G_link T hP) (hr.mono (by decide)) T.B_link (fun σ => passAt tk σ) (by exact (pa_cons (pv 2) pa_nil))))) (pss_one (ps_if (pt_cmpR op_eq (pv 1) pe_int (nomark _)) (pss_one (ps_expr (SupX.pe_metT (pv 0) T.cl T.m_links_from (G_links_from T hP) (hr.mono (by decide)) T.B_links_from (fun σ => passAt tk σ) (by exact (pa_cons (pv 2) pa_nil))))) (pss_one (ps_if (pt_cmpR op_eq (pv 1) pe_int (nomark _)) (pss_one (ps_expr (SupX.pe_metT (pv 0) T.cl T.m_links_to (G_links_to T hP) (hr.mono (by decide)) T.B_links_to (fun σ => passAt tk σ) (by exact (pa_cons (pv 2) pa_nil))))) (pss_one (ps_if (pt_cmpR op_eq (pv 1) pe_int (nomark _)) (pss_one (ps_expr (SupX.pe_metT (pv 0) T.cl T.m_bounds (G_bounds T hP) (hr.mono (by decide)) T.B_bounds (fun σ => passAt tk σ) (by exact (pa_cons (pv 2) (pa_cons (pv 3) pa_nil)))))) (pss_one (ps_if (pt_cmpR op_eq (pv 1) pe_int (nomark _)) (pss_one (ps_expr (SupX.pe_metT (pv 0) T.cl T.m_walks_from (G_walks_from T hP) (hr.mono (by decide)) T.B_walks_from (fun σ => passAt tk σ) (by exact (pa_cons (pv 2) pa_nil))))) (pss_one (ps_if (pt_cmpR op_eq (pv 1) pe_int (nomark _)) (pss_one (ps_expr (SupX.pe_metT (pv 0) T.cl T.m_minutes_between (G_minutes_between T hP) (hr.mono (by decide)) T.B_minutes_between (fun σ => passAt tk σ) (by exact (pa_cons (pv 2) (pa_cons (pv 3) pa_nil)))))) (pss_one (ps_if (pt_cmpR op_eq (pv 1) pe_int (nomark _)) (pss_one (ps_expr (SupX.pe_metT (pv 0) T.cl T.m_check_place (G_check_place T hP) (hr.mono (by decide)) T.B_check_place (fun σ => passAt tk σ) (by exact (pa_cons (pv 2) pa_nil))))) (pss_one (ps_if (pt_cmpR op_eq (pv 1) pe_int (nomark _)) (pss_one (ps_expr (SupX.pe_metT (pv 0) T.cl T.m_check_wind (G_check_wind T hP) (hr.mono (by decide)) T.B_check_wind (fun σ => passAt tk σ) (by exact (pa_cons (pv 2) pa_nil))))) pss_nil))))))))))))))))) (fun ex oe cls dd pn hz hf => (pss_one (ps_ret (pe_ix (show IxR _ (rIxL K) from ix_list) (pe_lst (pa_cons pe_str (pa_cons (pe_xf T.xf_UnknownName T.nf_UnknownName hz hf (pv 4)) pa_nil))) (pe_callTy call_int1 (by rfl) T.z_int (by decide +kernel) (pa_cons (pe_and (pe_callB (SupX.call_isX hz hf) (by rfl) T.z_isinstance (by decide +kernel) (pa_cons (pv 4) (pa_cons (pe_glob (v := .ref a.X_EveryfireError) (by rfl) T.g_EveryfireError rfl) pa_nil))) (pe_one (pe_not (pe_callB (SupX.call_isX hz hf) (by rfl) T.z_isinstance (by decide +kernel) (pa_cons (pv 4) (pa_cons (pe_glob (v := .ref a.X_InvalidLand) (by rfl) T.g_InvalidLand rfl) pa_nil)))))) pa_nil)) (fun _ _ => rfl))))))
      (pss_one (ps_ret pe_non))), ?_⟩
    obtain ⟨dx, wi, pl, li, pa, rows, prs, L⟩ := id hx
    have b60 := ok.l60
    have b61 := ok.a60
    rcases (show d = 0 ∨ d = 1 ∨ d = 2 ∨ d = 3 ∨ d = 4 ∨ d = 5 ∨ d = 6 ∨ d = 7 by omega) with rfl | rfl | rfl | rfl | rfl | rfl | rfl | rfl
    · refine ⟨_, rfl, rfl, _, rfl, iv_yes ?_⟩
      obtain ⟨ny, rfl⟩ : y ∉ namesD D ∧ out = y := by
        rcases odd with o | o | o
        · exact o
        · exact absurd o.1 (by decide)
        · exact absurd o.1 (by decide)
      refine ⟨_, rfl, x, dx, _, rfl, L.ob, fs_none _ _ _ _ (by decide +kernel) (by decide +kernel) (by decide +kernel) (by decide +kernel), _, rfl, x, D, _, rfl, hx, ly, fun kk kin kn => absurd (List.mem_map.mpr ⟨kk, kin, kn⟩) ny, fun _ d H1 hd e h => ?_⟩
      · refine ⟨true, T.em_UnknownName_UnknownName, fun _ ae hae => ?_, fun z => nomatch z⟩
        refine ⟨_, rfl, rfl, rfl, d, _, _, rfl, h, rfl, by show 2 ≤ sizeLine; decide, fun M hM => ?_⟩
        refine ⟨_, rfl, ⟨_, _, true, a.X_UnknownName, rfl, rfl, T.ec_UnknownName, (fun u r => r), T.kt_UnknownName_EveryfireError, (fun dd e => by cases e; exact ⟨_, Ex.new hM _ _ h⟩), ?_⟩⟩
        refine ⟨_, rfl, _, rfl, ⟨_, _, false, a.X_UnknownName, rfl, rfl, T.ec_UnknownName, (fun u r => r), T.kt_UnknownName_InvalidLand, (fun dd e => by cases e; exact ⟨_, Ex.new hM _ _ h⟩), ?_⟩⟩
        exact ⟨_, rfl, .inr ⟨true, rfl, M, _, _, _, rfl, rfl, SqL.of upd_same, atI_nat (j := 1) rfl, k _ (e.trans (Ex.new hM))⟩⟩
    · refine ⟨_, rfl, rfl, _, rfl, iv_no (by decide) ?_⟩
      refine ⟨_, rfl, rfl, _, rfl, iv_yes ?_⟩
      obtain ⟨ny, rfl⟩ : y ∉ D.ps ∧ out = y := by
        rcases odd with o | o | o
        · exact o
        · exact absurd o.1 (by decide)
        · exact absurd o.1 (by decide)
      refine ⟨_, rfl, x, dx, _, rfl, L.ob, fs_none _ _ _ _ (by decide +kernel) (by decide +kernel) (by decide +kernel) (by decide +kernel), _, rfl, x, D, _, rfl, hx, b60, ly, fun c => absurd c ny, fun _ d H1 hd e h => ?_⟩
      · refine ⟨true, T.em_UnknownName_UnknownName, fun _ ae hae => ?_, fun z => nomatch z⟩
        refine ⟨_, rfl, rfl, rfl, d, _, _, rfl, h, rfl, by show 2 ≤ sizeLine; decide, fun M hM => ?_⟩
        refine ⟨_, rfl, ⟨_, _, true, a.X_UnknownName, rfl, rfl, T.ec_UnknownName, (fun u r => r), T.kt_UnknownName_EveryfireError, (fun dd e => by cases e; exact ⟨_, Ex.new hM _ _ h⟩), ?_⟩⟩
        refine ⟨_, rfl, _, rfl, ⟨_, _, false, a.X_UnknownName, rfl, rfl, T.ec_UnknownName, (fun u r => r), T.kt_UnknownName_InvalidLand, (fun dd e => by cases e; exact ⟨_, Ex.new hM _ _ h⟩), ?_⟩⟩
        exact ⟨_, rfl, .inr ⟨true, rfl, M, _, _, _, rfl, rfl, SqL.of upd_same, atI_nat (j := 1) rfl, k _ (e.trans (Ex.new hM))⟩⟩
    · refine ⟨_, rfl, rfl, _, rfl, iv_no (by decide) ?_⟩
      refine ⟨_, rfl, rfl, _, rfl, iv_no (by decide) ?_⟩
      refine ⟨_, rfl, rfl, _, rfl, iv_yes ?_⟩
      obtain ⟨ny, rfl⟩ : y ∉ D.ps ∧ out = y := by
        rcases odd with o | o | o
        · exact o
        · exact absurd o.1 (by decide)
        · exact absurd o.1 (by decide)
      refine ⟨_, rfl, x, dx, _, rfl, L.ob, fs_none _ _ _ _ (by decide +kernel) (by decide +kernel) (by decide +kernel) (by decide +kernel), _, rfl, x, D, _, rfl, hx, b60, ly, fun c => absurd c ny, fun _ d H1 hd e h => ?_⟩
      · refine ⟨true, T.em_UnknownName_UnknownName, fun _ ae hae => ?_, fun z => nomatch z⟩
        refine ⟨_, rfl, rfl, rfl, d, _, _, rfl, h, rfl, by show 2 ≤ sizeLine; decide, fun M hM => ?_⟩
        refine ⟨_, rfl, ⟨_, _, true, a.X_UnknownName, rfl, rfl, T.ec_UnknownName, (fun u r => r), T.kt_UnknownName_EveryfireError, (fun dd e => by cases e; exact ⟨_, Ex.new hM _ _ h⟩), ?_⟩⟩
        refine ⟨_, rfl, _, rfl, ⟨_, _, false, a.X_UnknownName, rfl, rfl, T.ec_UnknownName, (fun u r => r), T.kt_UnknownName_InvalidLand, (fun dd e => by cases e; exact ⟨_, Ex.new hM _ _ h⟩), ?_⟩⟩
        exact ⟨_, rfl, .inr ⟨true, rfl, M, _, _, _, rfl, rfl, SqL.of upd_same, atI_nat (j := 1) rfl, k _ (e.trans (Ex.new hM))⟩⟩
    · refine ⟨_, rfl, rfl, _, rfl, iv_no (by decide) ?_⟩
      refine ⟨_, rfl, rfl, _, rfl, iv_no (by decide) ?_⟩
      refine ⟨_, rfl, rfl, _, rfl, iv_no (by decide) ?_⟩
      refine ⟨_, rfl, rfl, _, rfl, iv_yes ?_⟩
      have o2 : (y ∉ namesD D ∧ out = y) ∨ (y ∈ namesD D ∧ z ∉ D.ws ∧ out = z) := by
        rcases odd with o | o | o
        · exact .inl o
        · exact absurd o.1 (by decide)
        · exact .inr o.2
      refine ⟨_, rfl, x, dx, _, rfl, L.ob, fs_none _ _ _ _ (by decide +kernel) (by decide +kernel) (by decide +kernel) (by decide +kernel), _, rfl, _, rfl, x, D, y, z, rfl, hx, ok, ly, lz, fun ny d H1 hd e h => ?_, fun yy nz d H1 hd e h => ?_, fun kk kin kn j b hj _ => ?_⟩
      · obtain rfl : out = y := o2.elim (fun q => q.2) fun q => absurd q.1 ny
        refine ⟨true, T.em_UnknownName_UnknownName, fun _ ae hae => ?_, fun z => nomatch z⟩
        refine ⟨_, rfl, rfl, rfl, d, _, _, rfl, h, rfl, by show 2 ≤ sizeLine; decide, fun M hM => ?_⟩
        refine ⟨_, rfl, ⟨_, _, true, a.X_UnknownName, rfl, rfl, T.ec_UnknownName, (fun u r => r), T.kt_UnknownName_EveryfireError, (fun dd e => by cases e; exact ⟨_, Ex.new hM _ _ h⟩), ?_⟩⟩
        refine ⟨_, rfl, _, rfl, ⟨_, _, false, a.X_UnknownName, rfl, rfl, T.ec_UnknownName, (fun u r => r), T.kt_UnknownName_InvalidLand, (fun dd e => by cases e; exact ⟨_, Ex.new hM _ _ h⟩), ?_⟩⟩
        exact ⟨_, rfl, .inr ⟨true, rfl, M, _, _, _, rfl, rfl, SqL.of upd_same, atI_nat (j := 1) rfl, k _ (e.trans (Ex.new hM))⟩⟩
      · obtain rfl : out = z := o2.elim (fun q => absurd yy q.1) fun q => q.2.2
        refine ⟨true, T.em_UnknownName_UnknownName, fun _ ae hae => ?_, fun z => nomatch z⟩
        refine ⟨_, rfl, rfl, rfl, d, _, _, rfl, h, rfl, by show 2 ≤ sizeLine; decide, fun M hM => ?_⟩
        refine ⟨_, rfl, ⟨_, _, true, a.X_UnknownName, rfl, rfl, T.ec_UnknownName, (fun u r => r), T.kt_UnknownName_EveryfireError, (fun dd e => by cases e; exact ⟨_, Ex.new hM _ _ h⟩), ?_⟩⟩
        refine ⟨_, rfl, _, rfl, ⟨_, _, false, a.X_UnknownName, rfl, rfl, T.ec_UnknownName, (fun u r => r), T.kt_UnknownName_InvalidLand, (fun dd e => by cases e; exact ⟨_, Ex.new hM _ _ h⟩), ?_⟩⟩
        exact ⟨_, rfl, .inr ⟨true, rfl, M, _, _, _, rfl, rfl, SqL.of upd_same, atI_nat (j := 1) rfl, k _ (e.trans (Ex.new hM))⟩⟩
      · have yin : y ∈ namesD D := List.mem_map.mpr ⟨kk, kin, kn⟩
        exact o2.elim (fun q => absurd yin q.1) fun q => absurd (List.mem_of_getElem? hj) q.2.1
    · refine ⟨_, rfl, rfl, _, rfl, iv_no (by decide) ?_⟩
      refine ⟨_, rfl, rfl, _, rfl, iv_no (by decide) ?_⟩
      refine ⟨_, rfl, rfl, _, rfl, iv_no (by decide) ?_⟩
      refine ⟨_, rfl, rfl, _, rfl, iv_no (by decide) ?_⟩
      refine ⟨_, rfl, rfl, _, rfl, iv_yes ?_⟩
      obtain ⟨ny, rfl⟩ : y ∉ D.ps ∧ out = y := by
        rcases odd with o | o | o
        · exact o
        · exact absurd o.1 (by decide)
        · exact absurd o.1 (by decide)
      refine ⟨_, rfl, x, dx, _, rfl, L.ob, fs_none _ _ _ _ (by decide +kernel) (by decide +kernel) (by decide +kernel) (by decide +kernel), _, rfl, x, D, _, rfl, hx, b61, ly, fun c => absurd c ny, fun _ d H1 hd e h => ?_⟩
      · refine ⟨true, T.em_UnknownName_UnknownName, fun _ ae hae => ?_, fun z => nomatch z⟩
        refine ⟨_, rfl, rfl, rfl, d, _, _, rfl, h, rfl, by show 2 ≤ sizeLine; decide, fun M hM => ?_⟩
        refine ⟨_, rfl, ⟨_, _, true, a.X_UnknownName, rfl, rfl, T.ec_UnknownName, (fun u r => r), T.kt_UnknownName_EveryfireError, (fun dd e => by cases e; exact ⟨_, Ex.new hM _ _ h⟩), ?_⟩⟩
        refine ⟨_, rfl, _, rfl, ⟨_, _, false, a.X_UnknownName, rfl, rfl, T.ec_UnknownName, (fun u r => r), T.kt_UnknownName_InvalidLand, (fun dd e => by cases e; exact ⟨_, Ex.new hM _ _ h⟩), ?_⟩⟩
        exact ⟨_, rfl, .inr ⟨true, rfl, M, _, _, _, rfl, rfl, SqL.of upd_same, atI_nat (j := 1) rfl, k _ (e.trans (Ex.new hM))⟩⟩
    · refine ⟨_, rfl, rfl, _, rfl, iv_no (by decide) ?_⟩
      refine ⟨_, rfl, rfl, _, rfl, iv_no (by decide) ?_⟩
      refine ⟨_, rfl, rfl, _, rfl, iv_no (by decide) ?_⟩
      refine ⟨_, rfl, rfl, _, rfl, iv_no (by decide) ?_⟩
      refine ⟨_, rfl, rfl, _, rfl, iv_no (by decide) ?_⟩
      refine ⟨_, rfl, rfl, _, rfl, iv_yes ?_⟩
      have o2 : (y ∉ D.ps ∧ out = y) ∨ (y ∈ D.ps ∧ z ∉ D.ps ∧ out = z) := by
        rcases odd with o | o | o
        · exact .inl o
        · exact .inr o.2
        · exact absurd o.1 (by decide)
      have no : ∀ p ∈ D.pa, ¬ bet p y z := fun p hp b => by
        have q := ok.pt p hp
        rcases b with b | b <;> rcases o2 with o | o
        · exact o.1 (b.1 ▸ q.o)
        · exact o.2.1 (b.2 ▸ q.t)
        · exact o.1 (b.2 ▸ q.t)
        · exact o.2.1 (b.1 ▸ q.o)
      refine ⟨_, rfl, x, dx, _, rfl, L.ob, fs_none _ _ _ _ (by decide +kernel) (by decide +kernel) (by decide +kernel) (by decide +kernel), _, rfl, _, rfl, x, D, y, z, rfl, hx, ok, ly, lz, fun ny d H1 hd e h => ?_, fun yy nz d H1 hd e h => ?_, fun p hp b => absurd b (no p hp), fun yy zz _ H1 e1 => ?_⟩
      · obtain rfl : out = y := o2.elim (fun q => q.2) fun q => absurd q.1 ny
        refine ⟨true, T.em_UnknownName_UnknownName, fun _ ae hae => ?_, fun z => nomatch z⟩
        refine ⟨_, rfl, rfl, rfl, d, _, _, rfl, h, rfl, by show 2 ≤ sizeLine; decide, fun M hM => ?_⟩
        refine ⟨_, rfl, ⟨_, _, true, a.X_UnknownName, rfl, rfl, T.ec_UnknownName, (fun u r => r), T.kt_UnknownName_EveryfireError, (fun dd e => by cases e; exact ⟨_, Ex.new hM _ _ h⟩), ?_⟩⟩
        refine ⟨_, rfl, _, rfl, ⟨_, _, false, a.X_UnknownName, rfl, rfl, T.ec_UnknownName, (fun u r => r), T.kt_UnknownName_InvalidLand, (fun dd e => by cases e; exact ⟨_, Ex.new hM _ _ h⟩), ?_⟩⟩
        exact ⟨_, rfl, .inr ⟨true, rfl, M, _, _, _, rfl, rfl, SqL.of upd_same, atI_nat (j := 1) rfl, k _ (e.trans (Ex.new hM))⟩⟩
      · obtain rfl : out = z := o2.elim (fun q => absurd yy q.1) fun q => q.2.2
        refine ⟨true, T.em_UnknownName_UnknownName, fun _ ae hae => ?_, fun z => nomatch z⟩
        refine ⟨_, rfl, rfl, rfl, d, _, _, rfl, h, rfl, by show 2 ≤ sizeLine; decide, fun M hM => ?_⟩
        refine ⟨_, rfl, ⟨_, _, true, a.X_UnknownName, rfl, rfl, T.ec_UnknownName, (fun u r => r), T.kt_UnknownName_EveryfireError, (fun dd e => by cases e; exact ⟨_, Ex.new hM _ _ h⟩), ?_⟩⟩
        refine ⟨_, rfl, _, rfl, ⟨_, _, false, a.X_UnknownName, rfl, rfl, T.ec_UnknownName, (fun u r => r), T.kt_UnknownName_InvalidLand, (fun dd e => by cases e; exact ⟨_, Ex.new hM _ _ h⟩), ?_⟩⟩
        exact ⟨_, rfl, .inr ⟨true, rfl, M, _, _, _, rfl, rfl, SqL.of upd_same, atI_nat (j := 1) rfl, k _ (e.trans (Ex.new hM))⟩⟩
      · exact o2.elim (fun q => absurd yy q.1) fun q => absurd zz q.2.1
    · refine ⟨_, rfl, rfl, _, rfl, iv_no (by decide) ?_⟩
      refine ⟨_, rfl, rfl, _, rfl, iv_no (by decide) ?_⟩
      refine ⟨_, rfl, rfl, _, rfl, iv_no (by decide) ?_⟩
      refine ⟨_, rfl, rfl, _, rfl, iv_no (by decide) ?_⟩
      refine ⟨_, rfl, rfl, _, rfl, iv_no (by decide) ?_⟩
      refine ⟨_, rfl, rfl, _, rfl, iv_no (by decide) ?_⟩
      refine ⟨_, rfl, rfl, _, rfl, iv_yes ?_⟩
      obtain ⟨ny, rfl⟩ : y ∉ D.ps ∧ out = y := by
        rcases odd with o | o | o
        · exact o
        · exact absurd o.1 (by decide)
        · exact absurd o.1 (by decide)
      refine ⟨_, rfl, x, dx, _, rfl, L.ob, fs_none _ _ _ _ (by decide +kernel) (by decide +kernel) (by decide +kernel) (by decide +kernel), _, rfl, x, D, _, rfl, hx, ly, fun c => absurd c ny, fun _ d H1 hd e h => ?_⟩
      · refine ⟨true, T.em_UnknownName_UnknownName, fun _ ae hae => ?_, fun z => nomatch z⟩
        refine ⟨_, rfl, rfl, rfl, d, _, _, rfl, h, rfl, by show 2 ≤ sizeLine; decide, fun M hM => ?_⟩
        refine ⟨_, rfl, ⟨_, _, true, a.X_UnknownName, rfl, rfl, T.ec_UnknownName, (fun u r => r), T.kt_UnknownName_EveryfireError, (fun dd e => by cases e; exact ⟨_, Ex.new hM _ _ h⟩), ?_⟩⟩
        refine ⟨_, rfl, _, rfl, ⟨_, _, false, a.X_UnknownName, rfl, rfl, T.ec_UnknownName, (fun u r => r), T.kt_UnknownName_InvalidLand, (fun dd e => by cases e; exact ⟨_, Ex.new hM _ _ h⟩), ?_⟩⟩
        exact ⟨_, rfl, .inr ⟨true, rfl, M, _, _, _, rfl, rfl, SqL.of upd_same, atI_nat (j := 1) rfl, k _ (e.trans (Ex.new hM))⟩⟩
    · refine ⟨_, rfl, rfl, _, rfl, iv_no (by decide) ?_⟩
      refine ⟨_, rfl, rfl, _, rfl, iv_no (by decide) ?_⟩
      refine ⟨_, rfl, rfl, _, rfl, iv_no (by decide) ?_⟩
      refine ⟨_, rfl, rfl, _, rfl, iv_no (by decide) ?_⟩
      refine ⟨_, rfl, rfl, _, rfl, iv_no (by decide) ?_⟩
      refine ⟨_, rfl, rfl, _, rfl, iv_no (by decide) ?_⟩
      refine ⟨_, rfl, rfl, _, rfl, iv_no (by decide) ?_⟩
      refine ⟨_, rfl, rfl, _, rfl, iv_yes ?_⟩
      obtain ⟨ny, rfl⟩ : y ∉ D.ws ∧ out = y := by
        rcases odd with o | o | o
        · exact o
        · exact absurd o.1 (by decide)
        · exact absurd o.1 (by decide)
      refine ⟨_, rfl, x, dx, _, rfl, L.ob, fs_none _ _ _ _ (by decide +kernel) (by decide +kernel) (by decide +kernel) (by decide +kernel), _, rfl, x, D, _, rfl, hx, ly, fun c => absurd c ny, fun _ d H1 hd e h => ?_⟩
      · refine ⟨true, T.em_UnknownName_UnknownName, fun _ ae hae => ?_, fun z => nomatch z⟩
        refine ⟨_, rfl, rfl, rfl, d, _, _, rfl, h, rfl, by show 2 ≤ sizeLine; decide, fun M hM => ?_⟩
        refine ⟨_, rfl, ⟨_, _, true, a.X_UnknownName, rfl, rfl, T.ec_UnknownName, (fun u r => r), T.kt_UnknownName_EveryfireError, (fun dd e => by cases e; exact ⟨_, Ex.new hM _ _ h⟩), ?_⟩⟩
        refine ⟨_, rfl, _, rfl, ⟨_, _, false, a.X_UnknownName, rfl, rfl, T.ec_UnknownName, (fun u r => r), T.kt_UnknownName_InvalidLand, (fun dd e => by cases e; exact ⟨_, Ex.new hM _ _ h⟩), ?_⟩⟩
        exact ⟨_, rfl, .inr ⟨true, rfl, M, _, _, _, rfl, rfl, SqL.of upd_same, atI_nat (j := 1) rfl, k _ (e.trans (Ex.new hM))⟩⟩
theorem G__law_is_list (T : Txt K mg a) : FnOk P w K mg base CX0 1 a.f__law_is_list a.d__law_is_list ["actual", "due"] (sp__law_is_list K) := by
  refine T.F__law_is_list.ok sc__law_is_list (fun vs H Q E h => ?_) (fun cdv A outer s H vs Q E hr h => ?_)
  · obtain ⟨q, d, xs, ds, H0, rfl, _⟩ := h
    rfl
  · obtain ⟨q, d, xs, ds, H0, rfl, hq, lx, hd, dd, sh, e, q0, k⟩ := h
    refine ⟨_, (pss_cons (ps_if (PW.pt (pw_or (pt_not (pt_val (pe_callB call_isi (by rfl) T.z_isinstance (by decide +kernel) (pa_cons (pv 0) (pa_cons (pe_bltn (v := .ty "list") (u := .type "list") (by rfl) T.z_list (by decide +kernel) rfl) pa_nil))))) (pw_or1 (pt_cmpR (op_neD hr.units) (pv 0) (pv 1) (nomark _))))) (pss_one (ps_ret pe_bl)) pss_nil)
      (pss_cons (ps_expr (pe_bm PySem.F.plainAttrs_list PySem.F.slot_list_append PySem.F.type_list_append mt_append (pv 0) (pa_cons pe_str pa_nil)))
      (pss_one (ps_ret pe_bl)))), ?_⟩
    refine ⟨_, rfl, .ref q, .ty "list", _, _, true, rfl, .ty "list", .base (.lst hq), kit_ty (by decide +kernel), _, rfl, ?_⟩
    refine ⟨_, rfl, _, rfl, .list ds, .list ds, .lst (SqL.of hq) hd, dd, sh, sh, _, rfl, ?_⟩
    rw [eqv_self sh]
    refine ⟨_, rfl, .inl ⟨rfl, _, SqL.of hq⟩, q, xs, _, rfl, rfl, hq, sz_lt (by omega), ?_⟩
    exact k _ (e.mut q0)
end
end EV

set_option Elab.async false
set_option linter.all false
set_option maxRecDepth 100000
set_option maxHeartbeats 4000000
namespace EV
open PySem PySem.Spec PyProof.Rows L2 EvS Evl
/-- what is due, apart -/
structure Due (K : PySem.W.Frag) (H : Hp) (d : Addr) (D : LandD) (wi pl li pa : Addr) (rows prs : List V) : Prop where
  ob : SqT K H d [.ref wi, .ref pl, .ref li, .ref pa]
  wi : SqT K H wi (D.ws.map V.str)
  pl : SqT K H pl (D.ps.map V.str)
  li : SqT K H li rows
  ls : DpAll K H rows (D.ls.map dLink)
  pa : SqT K H pa prs
  ps : DpAll K H prs (D.pa.map dPath)
theorem Due.ex {K : PySem.W.Frag} {H H' : Hp} {d : Addr} {D : LandD} {wi pl li pa : Addr} {rows prs : List V} (e : Ex H H') (h : Due K H d D wi pl li pa rows prs) : Due K H' d D wi pl li pa rows prs :=
  ⟨ex_t e h.ob, ex_t e h.wi, ex_t e h.pl, ex_t e h.li, dps_ex e h.ls, ex_t e h.pa, dps_ex e h.ps⟩
theorem due_in {K : PySem.W.Frag} {H : Hp} {d : Addr} {D : LandD} (h : Dp K H (.ref d) (dLand D)) : ∃ wi pl li pa rows prs, Due K H d D wi pl li pa rows prs := by
  unfold dLand at h
  cases h with
  | tup s0 al =>
    cases al with
    | cons d1 al => cases al with
      | cons d2 al => cases al with
        | cons d3 al => cases al with
          | cons d4 al =>
            cases al
            cases d1 with
            | tup s1 a1 => cases d2 with
              | tup s2 a2 => cases d3 with
                | tup s3 a3 => cases d4 with
                  | tup s4 a4 =>
                    obtain rfl := dps_strs a1
                    obtain rfl := dps_strs a2
                    exact ⟨_, _, _, _, _, _, s0, s1, s2, s3, a3, s4, a4⟩
def sp__law_places (K : PySem.W.Frag) (C : Addr) : Sp := fun vs H Q _ => ∃ (x d wi pl li pa : Addr) (D : LandD) (rows prs : List V), vs = [.ref x, .ref d] ∧ IsLand K C H x D ∧ LandOk D ∧ Due K H d D wi pl li pa rows prs ∧ ∀ H', Ex H H' → Q (.bl true) H'
theorem dps_names {K : PySem.W.Frag} {H : Hp} (ns : List Str) : DpAll K H (ns.map V.str) (ns.map PyData.str) := dps_str ns
theorem sh_names {ns : List Str} (h : ∀ n ∈ ns, isName n = true) : Sh 6 (.list (ns.map .str)) := sh_lst (n := 5) fun d hd => by
  obtain ⟨n, hn, rfl⟩ := List.mem_map.mp hd
  exact sh_str (h n hn)
theorem sh_walks {ws : List (Str × Int)} (h : ∀ n ∈ ws, isName n.1 = true) : Sh 6 (.list (ws.map dWalk)) := sh_lst (n := 5) fun d hd => by
  obtain ⟨n, hn, rfl⟩ := List.mem_map.mp hd
  exact sh_tup (n := 4) fun d hd => by
    rcases List.mem_cons.mp hd with e | e
    · rw [e]; exact sh_str (h n hn)
    · rw [List.mem_singleton.mp e]; exact sh_int _ _
theorem walk_names {D : LandD} (ok : LandOk D) {z : Str} : ∀ n ∈ D.pa.filterMap (walk1 z), isName n.1 = true := fun n hn => by
  obtain ⟨p, hp, e⟩ := List.mem_filterMap.mp hn
  have q := ok.pt p hp
  unfold walk1 at e
  split at e
  · rw [← Option.some.inj e]; exact ok.gp.1 _ q.t
  · split at e
    · rw [← Option.some.inj e]; exact ok.gp.1 _ q.o
    · cases e
theorem name_le {z : Str} (h : isName z = true) : z.length ≤ 1000 := by have := name_len h; omega
section
variable {P : Program} {w : World} {K : PySem.W.Frag} {mg : Str → Option Value} {base : Heap} {a : Ad}
theorem G__law_places (T : Txt K mg a) (hP : PF P) : FnOk P w K mg base CX0 6 a.f__law_places a.d__law_places ["land", "due"] (sp__law_places K a.C) := by
  refine T.F__law_places.ok sc__law_places (fun vs H Q E h => ?_) (fun cdv A outer s H vs Q E hr h => ?_)
  · obtain ⟨x, d, wi, pl, li, pa, D, rows, prs, rfl, _⟩ := h
    rfl
  · obtain ⟨x, d, wi, pl, li, pa, D, rows, prs, rfl, hx, ok, Du, k⟩ := h
    have b60 := ok.l60
    have b61 := ok.a60
    have lp : (D.ps.map V.str).length = D.ps.length := List.length_map ..
    have lpr : prs.length = D.pa.length := by rw [dps_len Du.ps, List.length_map]
    have lro : rows.length = D.ls.length := by rw [dps_len Du.ls, List.length_map]
    have nn : ∀ (f : Link → Bool), ∀ n ∈ (D.ls.filter f).map (·.n), isName n = true := fun f n hn => by
      obtain ⟨k0, hk0, rfl⟩ := List.mem_map.mp hn
      exact ok.gl.1 _ (List.mem_map.mpr ⟨k0, (List.mem_filter.mp hk0).1, rfl⟩)
    refine ⟨_, (pss_cons (ps_for PassesOwn.never rfl (pi_tup (pe_ix ix_tup (pv 1) pe_int (fun _ _ => rfl))) (pg_name (i := 2) sc__law_places.nd rfl (Or.inr rfl)) (pss_cons (ps_set (i := 3) sc__law_places.nd rfl (Or.inl rfl) (pe_lst pa_nil))
        (pss_cons (ps_for PassesOwn.never rfl (pi_tup (pe_ix ix_tup (pv 1) pe_int (fun _ _ => rfl))) (pg_tup (by rfl) (pgs_cons (pg_name (i := 4) sc__law_places.nd rfl (Or.inl rfl)) (pgs_cons (pg_name (i := 5) sc__law_places.nd rfl (Or.inl rfl)) (pgs_cons (pg_name (i := 6) sc__law_places.nd rfl (Or.inl rfl)) pgs_nil)))) (pss_cons (ps_if (pt_cmpR op_eq (pv 2) (pv 4) (nomark _)) (pss_one (ps_expr (pe_bm PySem.F.plainAttrs_list PySem.F.slot_list_append PySem.F.type_list_append mt_append (pv 3) (pa_cons (pe_tup (pa_cons (pv 5) (pa_cons (pv 6) pa_nil))) pa_nil)))) pss_nil)
          (pss_one (ps_if (pt_cmpR op_eq (pv 2) (pv 5) (nomark _)) (pss_one (ps_expr (pe_bm PySem.F.plainAttrs_list PySem.F.slot_list_append PySem.F.type_list_append mt_append (pv 3) (pa_cons (pe_tup (pa_cons (pv 4) (pa_cons (pv 6) pa_nil))) pa_nil)))) pss_nil))))
        (pss_cons (ps_if (pt_not (pt_val (pe_call (G__law_is_list T) (hr.mono (by decide)) (by rfl) T.g__law_is_list T.k__law_is_list T.B__law_is_list .nil pass0 (pa_cons (pe_meth (pv 0) T.cl T.m_links_from (G_links_from T hP) (hr.mono (by decide)) T.B_links_from .nil passL (pa_cons (pv 2) pa_nil)) (pa_cons (pe_lc (own := [("link", 7)]) (g := gName 7) rfl sc__law_places.nd (pi_tup (pe_ix ix_tup (pv 1) pe_int (fun _ _ => rfl))) (blkOk_by (N := ["land", "due", "place", "walks", "one", "other", "minutes", "link"]) (sc := defScope s__law_places) (by decide +kernel)) (fun _ _ _ _ _ => pg_name (i := 7) sc__law_places.nd rfl (Or.inl rfl)) (fun _ _ _ _ _ => pts_one (pt_cmpR op_eq (pe_ix (show IxR _ (rIxT K) from ix_tup) (pv 7) pe_int (fun _ _ => rfl)) (pv 2) (nomark _))) (fun _ _ _ _ _ => (pe_ix (show IxR _ (rIxT K) from ix_tup) (pv 7) pe_int (fun _ _ => rfl)))) pa_nil))))) (pss_one (ps_ret pe_bl)) pss_nil)
        (pss_cons (ps_if (pt_not (pt_val (pe_call (G__law_is_list T) (hr.mono (by decide)) (by rfl) T.g__law_is_list T.k__law_is_list T.B__law_is_list .nil pass0 (pa_cons (pe_meth (pv 0) T.cl T.m_links_to (G_links_to T hP) (hr.mono (by decide)) T.B_links_to .nil passL (pa_cons (pv 2) pa_nil)) (pa_cons (pe_lc (own := [("link", 7)]) (g := gName 7) rfl sc__law_places.nd (pi_tup (pe_ix ix_tup (pv 1) pe_int (fun _ _ => rfl))) (blkOk_by (N := ["land", "due", "place", "walks", "one", "other", "minutes", "link"]) (sc := defScope s__law_places) (by decide +kernel)) (fun _ _ _ _ _ => pg_name (i := 7) sc__law_places.nd rfl (Or.inl rfl)) (fun _ _ _ _ _ => pts_one (pt_cmpR op_eq (pe_ix (show IxR _ (rIxT K) from ix_tup) (pv 7) pe_int (fun _ _ => rfl)) (pv 2) (nomark _))) (fun _ _ _ _ _ => (pe_ix (show IxR _ (rIxT K) from ix_tup) (pv 7) pe_int (fun _ _ => rfl)))) pa_nil))))) (pss_one (ps_ret pe_bl)) pss_nil)
        (pss_one (ps_if (PW.pt (pw_or (pt_not (pt_val (pe_call (G__law_is_list T) (hr.mono (by decide)) (by rfl) T.g__law_is_list T.k__law_is_list T.B__law_is_list .nil pass0 (pa_cons (pe_meth (pv 0) T.cl T.m_walks_from (G_walks_from T hP) (hr.mono (by decide)) T.B_walks_from .nil passL (pa_cons (pv 2) pa_nil)) (pa_cons (pv 3) pa_nil))))) (pw_or1 (pt_cmpR op_notN (pe_meth (pv 0) T.cl T.m_check_place (G_check_place T hP) (hr.mono (by decide)) T.B_check_place .nil passL (pa_cons (pv 2) pa_nil)) pe_non (nomark _))))) (pss_one (ps_ret pe_bl)) pss_nil)))))))
      (pss_one (ps_ret pe_bl))), ?_⟩
    refine ⟨_, rfl, d, _, _, _, rfl, rfl, Du.ob, atI_nat (j := 1) rfl, pl, rfl, ⟨_, Du.pl⟩, for_tup (K := K) (a := pl) (xs := D.ps.map V.str) (fun i σ H' => ∃ v2 v3 v4 v5 v6, σ = [some (.ref x), some (.ref d), v2, v3, v4, v5, v6, none] ∧ Ex H H') ⟨none, none, none, none, none, rfl, Ex.refl _⟩ (fun i σ H' _ z => by obtain ⟨_, _, _, _, _, rfl, e⟩ := z; exact ex_t e Du.pl) ?_ ?_⟩
    · rintro i y σ H1 hy ⟨v2, v3, v4, v5, v6, rfl, e1⟩
      rw [List.getElem?_map] at hy
      obtain ⟨z, hz, rfl⟩ := Option.map_eq_some_iff.mp hy
      have zin : z ∈ D.ps := List.mem_of_getElem? hz
      have zl := name_le (ok.gp.1 _ zin)
      refine ⟨Nat.zero_le _, fun W hW => ?_⟩
      have nW : Ex H1 (upd H1 W (.lst [])) := Ex.new hW
      have Du1 := Du.ex e1
      refine ⟨_, rfl, d, _, _, _, rfl, rfl, (Du1.ex nW).ob, atI_nat (j := 3) rfl, pa, rfl, ⟨_, (Du1.ex nW).pa⟩, for_tup (K := K) (a := pa) (xs := prs) (fun i σ H' => ∃ v4 v5 v6 rs, σ = [some (.ref x), some (.ref d), some (.str z), some (.ref W), v4, v5, v6, none] ∧ Ex H1 H' ∧ H' W = some (.lst rs) ∧ DpAll K H' rs (List.map dWalk ((D.pa.take i).filterMap (walk1 z)))) ⟨_, _, _, [], rfl, nW, upd_same, .nil⟩ ?_ ?_ ?_⟩
      · rintro i σ H' _ ⟨_, _, _, _, rfl, e, _⟩
        exact ex_t e Du1.pa
      · rintro i y σ H2 hy ⟨v4, v5, v6, rs, rfl, e2, hg, hd⟩
        obtain ⟨p, t, hp, pin, rfl, st⟩ := path_at Du1.ps hy
        have ne := (ok.pt p pin).ne
        have lr : rs.length ≤ 60 := by
          rw [dps_len hd, List.length_map]
          have := List.length_filterMap_le (walk1 z) (D.pa.take i)
          rw [List.length_take] at this
          omega
        have put : ∀ (one : Str) (m : Int), walk1 z p = some (one, m) → ∀ t2, H2 t2 = none → Ex H1 (upd (upd H2 t2 (.tup [.str one, .int m])) W (.lst (rs ++ [.ref t2]))) ∧ DpAll K (upd (upd H2 t2 (.tup [.str one, .int m])) W (.lst (rs ++ [.ref t2]))) (rs ++ [.ref t2]) (List.map dWalk ((D.pa.take (i + 1)).filterMap (walk1 z))) := fun one m hw t2 ht2 => by
          have e3 : Ex H2 (upd H2 t2 (.tup [.str one, .int m])) := Ex.new ht2
          refine ⟨(e2.trans e3).mut hW, ?_⟩
          rw [fmap_take hp, hw]
          refine dps_exT (exT_mut (e3 _ _ hg)) ?_ (frozenAll_of fun d hd => by obtain ⟨b, _, rfl⟩ := List.mem_map.mp hd; simp [dWalk, frozen, frozenAll])
          rw [List.map_append]
          exact dps_app (dps_ex e3 hd) (dps_one (.tup (st_of upd_same) (.cons (.str _) (.cons (.int _) .nil))))
        refine ⟨t, _, rfl, ex_t e2 st, rfl, _, _, rfl, _, _, rfl, _, _, rfl, rfl, ?_⟩
        refine ⟨_, rfl, _, rfl, rfl, _, rfl, ?_⟩
        rw [dec_str]
        refine ite2 (fun q => ?_) (fun q => ?_)
        · have q : p.1 = z := (of_decide_eq_true q).symm
          refine ⟨_, rfl, .inl ⟨rfl, _, SqL.of hg⟩, _, rfl, _, rfl, by show 2 ≤ sizeLine; decide, fun t2 ht2 => ?_⟩
          have pp := put p.2.1 p.2.2 (by unfold walk1; rw [if_pos q]) t2 ht2
          refine ⟨W, rs, _, rfl, rfl, Ex.new ht2 _ _ hg, sz_lt (by omega), ?_⟩
          refine ⟨_, rfl, _, rfl, rfl, _, rfl, ?_⟩
          rw [dec_str, decide_eq_false fun h => ne (q.trans h)]
          exact ⟨_, _, _, rs ++ [.ref t2], rfl, pp.1, upd_same, pp.2⟩
        have q : p.1 ≠ z := fun h => q (decide_eq_true h.symm)
        refine ⟨_, rfl, _, rfl, rfl, _, rfl, ?_⟩
        rw [dec_str]
        refine ite2 (fun q2 => ?_) (fun q2 => ?_)
        · have q2 : p.2.1 = z := (of_decide_eq_true q2).symm
          refine ⟨_, rfl, .inl ⟨rfl, _, SqL.of hg⟩, _, rfl, _, rfl, by show 2 ≤ sizeLine; decide, fun t2 ht2 => ?_⟩
          have pp := put p.1 p.2.2 (by unfold walk1; rw [if_neg q, if_pos q2]) t2 ht2
          exact ⟨W, rs, _, rfl, rfl, Ex.new ht2 _ _ hg, sz_lt (by omega), _, _, _, rs ++ [.ref t2], rfl, pp.1, upd_same, pp.2⟩
        · have q2 : p.2.1 ≠ z := fun h => q2 (decide_eq_true h.symm)
          refine ⟨_, _, _, rs, rfl, e2, hg, ?_⟩
          rw [fmap_take hp, show walk1 z p = none by unfold walk1; rw [if_neg q, if_neg q2]]
          simpa using hd
      rintro σ H2 ⟨v4, v5, v6, rs, rfl, e2, hg, hd⟩
      rw [lpr, List.take_length] at hd
      have e12 := e1.trans e2
      have Ahx := hx.ex e12
      have ADu := Du.ex e12
      obtain ⟨dx, wi', pl', li', pa', rows', prs', L⟩ := id Ahx
      refine ⟨_, rfl, x, dx, _, rfl, L.ob, fs_none _ _ _ _ (by decide +kernel) (by decide +kernel) (by decide +kernel) (by decide +kernel), _, rfl, x, D, z, rfl, Ahx, b60, zl, fun _ Aa q1 Aea hq1 h1 => ?_, fun c => absurd zin c⟩
      have ADa := ADu.ex Aea
      refine ⟨_, rfl, d, _, _, _, rfl, rfl, ADa.ob, atI_nat (j := 2) rfl, li, rfl, ⟨_, ADa.li⟩, fun D1 hD1 => lc_tup (K := K) (a := li) (xs := rows) (fun i H' => Ex Aa H' ∧ H' D1 = some (.lst ((((D.ls.take i).filter fun k => decide (k.o = z)).map (·.n)).map V.str))) ⟨Ex.new hD1, upd_same⟩ (fun i H' _ q => ex_t q.1 ADa.li) ?_ ?_⟩
      · rintro i y Hc hy ⟨ec, hgc⟩
        obtain ⟨k0, hk, kin, dk⟩ := row_link ADa.ls hy
        obtain ⟨t, u, us, rfl, st, su, au⟩ := link_at (dp_ex ec dk)
        refine ⟨rfl, _, rfl, t, _, _, _, rfl, rfl, st, atI_nat (j := 1) rfl, _, rfl, rfl, _, rfl, ?_⟩
        rw [dec_str]
        have flt := filter_take (f := fun k : Link => decide (k.o = z)) hk
        have fl := List.length_filter_le (fun k : Link => decide (k.o = z)) (D.ls.take i)
        rw [List.length_take] at fl
        refine ite2 (fun c => ?_) (fun c => ?_)
        · refine ⟨_, rfl, t, _, _, _, rfl, rfl, st, atI_nat (j := 0) rfl, _, hgc, sz_lt (by rw [List.length_map, List.length_map]; omega), ec.mut hD1, ?_⟩
          rw [upd_same, flt, if_pos c, List.map_append, List.map_append]
          rfl
        · refine ⟨ec, ?_⟩
          rw [flt, if_neg c, List.append_nil]
          exact hgc
      rintro Ab ⟨Aeb, hgb⟩
      rw [lro, List.take_length] at hgb
      have fl := List.length_filter_le (fun k : Link => decide (k.o = z)) D.ls
      refine ⟨q1, D1, _, _, H2, rfl, Aeb _ _ h1, by rw [List.length_map, List.length_map]; omega, dps_str _, .lst (SqL.of hgb) (dps_str _), sh_shaped (sh_names (nn _)) (by decide), Aea.trans Aeb, hq1, fun Az Aez => ⟨_, rfl, ?_⟩⟩
      have Bhx := Ahx.ex Aez
      have BDu := ADu.ex Aez
      obtain ⟨dx, wi', pl', li', pa', rows', prs', L⟩ := id Bhx
      refine ⟨_, rfl, x, dx, _, rfl, L.ob, fs_none _ _ _ _ (by decide +kernel) (by decide +kernel) (by decide +kernel) (by decide +kernel), _, rfl, x, D, z, rfl, Bhx, b60, zl, fun _ Ba q1 Bea hq1 h1 => ?_, fun c => absurd zin c⟩
      have BDa := BDu.ex Bea
      refine ⟨_, rfl, d, _, _, _, rfl, rfl, BDa.ob, atI_nat (j := 2) rfl, li, rfl, ⟨_, BDa.li⟩, fun D1 hD1 => lc_tup (K := K) (a := li) (xs := rows) (fun i H' => Ex Ba H' ∧ H' D1 = some (.lst ((((D.ls.take i).filter fun k => decide (k.t = z)).map (·.n)).map V.str))) ⟨Ex.new hD1, upd_same⟩ (fun i H' _ q => ex_t q.1 BDa.li) ?_ ?_⟩
      · rintro i y Hc hy ⟨ec, hgc⟩
        obtain ⟨k0, hk, kin, dk⟩ := row_link BDa.ls hy
        obtain ⟨t, u, us, rfl, st, su, au⟩ := link_at (dp_ex ec dk)
        refine ⟨rfl, _, rfl, t, _, _, _, rfl, rfl, st, atI_nat (j := 2) rfl, _, rfl, rfl, _, rfl, ?_⟩
        rw [dec_str]
        have flt := filter_take (f := fun k : Link => decide (k.t = z)) hk
        have fl := List.length_filter_le (fun k : Link => decide (k.t = z)) (D.ls.take i)
        rw [List.length_take] at fl
        refine ite2 (fun c => ?_) (fun c => ?_)
        · refine ⟨_, rfl, t, _, _, _, rfl, rfl, st, atI_nat (j := 0) rfl, _, hgc, sz_lt (by rw [List.length_map, List.length_map]; omega), ec.mut hD1, ?_⟩
          rw [upd_same, flt, if_pos c, List.map_append, List.map_append]
          rfl
        · refine ⟨ec, ?_⟩
          rw [flt, if_neg c, List.append_nil]
          exact hgc
      rintro Bb ⟨Beb, hgb⟩
      rw [lro, List.take_length] at hgb
      have fl := List.length_filter_le (fun k : Link => decide (k.t = z)) D.ls
      refine ⟨q1, D1, _, _, Az, rfl, Beb _ _ h1, by rw [List.length_map, List.length_map]; omega, dps_str _, .lst (SqL.of hgb) (dps_str _), sh_shaped (sh_names (nn _)) (by decide), Bea.trans Beb, hq1, fun Bz Bez => ⟨_, rfl, ?_⟩⟩
      have Chx := Bhx.ex Bez
      obtain ⟨dx, wi', pl', li', pa', rows', prs', L⟩ := id Chx
      have e2z := Aez.trans Bez
      refine ⟨_, rfl, x, dx, _, rfl, L.ob, fs_none _ _ _ _ (by decide +kernel) (by decide +kernel) (by decide +kernel) (by decide +kernel), _, rfl, x, D, z, rfl, Chx, b61, zl, fun _ Ca q3 rs3 Cea hq3 h3 d3 => ?_, fun c => absurd zin c⟩
      have l3 : rs3.length ≤ 1000 := by
        rw [dps_len d3, List.length_map]
        have := List.length_filterMap_le (walk1 z) D.pa
        omega
      have e3z := e2z.trans Cea
      refine ⟨_, rfl, q3, W, rs3, _, Bz, rfl, h3, l3, d3, .lst (SqL.of (e3z _ _ hg)) (dps_ex e3z hd), sh_shaped (sh_walks (walk_names ok)) (by decide), Cea, hq3, fun Cz Cez => ⟨_, rfl, ?_⟩⟩
      have Ehx := Chx.ex Cez
      obtain ⟨dx, wi', pl', li', pa', rows', prs', L⟩ := id Ehx
      refine ⟨_, rfl, x, dx, _, rfl, L.ob, fs_none _ _ _ _ (by decide +kernel) (by decide +kernel) (by decide +kernel) (by decide +kernel), _, rfl, x, D, z, rfl, Ehx, zl, fun _ Ez Eez => ⟨rfl, _, rfl, ?_⟩, fun c => absurd zin c⟩
      exact ⟨_, _, _, _, _, rfl, e12.trans (e2z.trans (Cez.trans Eez))⟩
    · rintro σ H1 ⟨v2, v3, v4, v5, v6, rfl, e1⟩
      exact k H1 e1
end
end EV

set_option Elab.async false
set_option linter.all false
set_option maxRecDepth 100000
set_option maxHeartbeats 4000000
namespace EV
open PySem PySem.Spec PyProof.Rows L2 EvS Evl
theorem link_one {D : LandD} (ok : LandOk D) {k k' : Link} (h : k ∈ D.ls) (h' : k' ∈ D.ls) (e : k'.n = k.n) : k' = k := by
  obtain ⟨i, hi⟩ := List.getElem?_of_mem h
  obtain ⟨j, hj⟩ := List.getElem?_of_mem h'
  have li := (List.getElem?_eq_some_iff.mp hi).1
  have : i = j := (List.getElem?_inj (l := D.ls.map (·.n)) (by rw [List.length_map]; exact li) ok.gl.2).mp (by rw [List.getElem?_map, List.getElem?_map, hi, hj]; show some k.n = some k'.n; rw [e])
  rw [this, hj] at hi
  exact Option.some.inj hi
theorem str_one {l : List Str} (nd : l.Nodup) {i j : Nat} {z : Str} (hi : l[i]? = some z) (hj : l[j]? = some z) : i = j :=
  (List.getElem?_inj (List.getElem?_eq_some_iff.mp hi).1 nd).mp (by rw [hi, hj])
theorem perm_of_bet {p p' : Str × Str × Int} (h : bet p' p.1 p.2.1) : [p'.1, p'.2.1].Perm [p.1, p.2.1] := by
  rcases h with h | h
  · rw [h.1, h.2]
  · rw [h.1, h.2]; exact List.Perm.swap ..
theorem path_one {D : LandD} (ok : LandOk D) {p p' : Str × Str × Int} (h : p ∈ D.pa) (h' : p' ∈ D.pa) (e : bet p' p.1 p.2.1) : p' = p := by
  have pm := perm_of_bet e
  obtain ⟨i, hi⟩ := List.getElem?_of_mem h
  obtain ⟨j, hj⟩ := List.getElem?_of_mem h'
  have li := (List.getElem?_eq_some_iff.mp hi)
  have lj := (List.getElem?_eq_some_iff.mp hj)
  have pw := List.pairwise_iff_getElem.mp ok.ap
  rcases Nat.lt_trichotomy i j with c | c | c
  · have z := pw i j (by rw [List.length_map]; exact li.1) (by rw [List.length_map]; exact lj.1) c
    rw [List.getElem_map, List.getElem_map, li.2, lj.2] at z
    exact absurd pm.symm z
  · rw [c, hj] at hi
    exact Option.some.inj hi
  · have z := pw j i (by rw [List.length_map]; exact lj.1) (by rw [List.length_map]; exact li.1) c
    rw [List.getElem_map, List.getElem_map, li.2, lj.2] at z
    exact absurd pm z
theorem bet_swap {p : Str × Str × Int} {a b : Str} (h : bet p a b) : bet p b a := h.elim .inr .inl
def dTwo (x y : Str) : PyData := .tuple [.str x, .str y]
theorem frozen_two {α : Type} (l : List α) (f g : α → Str) : frozenAll (l.map fun p => dTwo (f p) (g p)) = true := frozenAll_of fun d hd => by
  obtain ⟨b, _, rfl⟩ := List.mem_map.mp hd
  simp [dTwo, frozen, frozenAll]
theorem sh_dTwo {x y : Str} (h1 : isName x = true) (h2 : isName y = true) : Sh 6 (dTwo x y) := sh_tup (n := 5) fun d hd => by
  rcases List.mem_cons.mp hd with e | e
  · rw [e]; exact sh_str h1
  · rw [List.mem_singleton.mp e]; exact sh_str h2
theorem any_pick {ps : List Str} (h : 1 ≤ ps.length) (x : Int) : ((ps.map V.str).length : Int) ≠ 0 ∧ ∃ z, z ∈ ps ∧ atI (ps.map V.str) (x.fmod ((ps.map V.str).length : Int)) = some (.str z) := by
  have L : (ps.map V.str).length = ps.length := List.length_map ..
  have o0 := Int.fmod_nonneg_of_pos x (b := (((ps.map V.str).length : Nat) : Int)) (by omega)
  have o1 := Int.fmod_lt_of_pos x (b := (((ps.map V.str).length : Nat) : Int)) (by omega)
  obtain ⟨i, ei⟩ : ∃ i : Nat, x.fmod (((ps.map V.str).length : Nat) : Int) = (i : Int) := ⟨_, (Int.toNat_of_nonneg o0).symm⟩
  have hi : i < ps.length := by omega
  refine ⟨by omega, ps.getD i "", (getD_in hi).1, ?_⟩
  rw [ei]
  exact atI_nat (by rw [List.getElem?_map, (getD_in hi).2] <;> rfl)
def sp__law_answers (K : PySem.W.Frag) (C : Addr) : Sp := fun vs H Q _ => ∃ (x d l wi pl li pa : Addr) (D : LandD) (rows prs : List V) (ks : List Int), vs = [.ref x, .ref d, .ref l] ∧ IsLand K C H x D ∧ LandOk D ∧ Due K H d D wi pl li pa rows prs ∧ Nums K H l ks ∧ ∀ H', Ex H H' → Q (.bl true) H'
section
variable {P : Program} {w : World} {K : PySem.W.Frag} {mg : Str → Option Value} {base : Heap} {a : Ad}
theorem G__law_answers (T : Txt K mg a) (hP : PF P) : FnOk P w K mg base CX0 8 a.f__law_answers a.d__law_answers ["land", "due", "numbers"] (sp__law_answers K a.C) := by
  refine T.F__law_answers.ok sc__law_answers (fun vs H Q E h => ?_) (fun cdv A outer s H vs Q E hr h => ?_)
  · obtain ⟨x, d, l, wi, pl, li, pa, D, rows, prs, ks, rfl, _⟩ := h
    rfl
  · obtain ⟨x, d, l, wi, pl, li, pa, D, rows, prs, ks, rfl, hx, ok, Du, N, k⟩ := h
    have b60 := ok.l60
    have b61 := ok.a60
    have lo := N.lo
    have lpr : prs.length = D.pa.length := by rw [dps_len Du.ps, List.length_map]
    have lw : (D.ws.map V.str).length = D.ws.length := List.length_map ..
    have lp : (D.ps.map V.str).length = D.ps.length := List.length_map ..
    have w1 := ok.w1
    have w4 := ok.w4
    have p1 := ok.p1
    refine ⟨_, (pss_cons (ps_for PassesOwn.never rfl (pi_tup (pe_ix ix_tup (pv 1) pe_int (fun _ _ => rfl))) (pg_name (i := 3) sc__law_answers.nd rfl (Or.inl rfl)) (pss_cons (ps_if (pt_cmpR (op_neD hr.units) (pe_meth (pv 0) T.cl T.m_link (G_link T hP) (hr.mono (by decide)) T.B_link .nil passL (pa_cons (pe_ix ix_tup (pv 3) pe_int (fun _ _ => rfl)) pa_nil)) (pv 3) (nomark _)) (pss_one (ps_ret pe_bl)) pss_nil)
        (pss_one (ps_for PassesOwn.never rfl (pi_range1 (by rfl) T.z_range (pa_cons (pe_callB call_len_seq (by rfl) T.z_len PySem.boot_len (pa_cons (pe_ix ix_tup (pv 1) pe_int (fun _ _ => rfl)) pa_nil)) pa_nil)) (pg_name (i := 4) sc__law_answers.nd rfl (Or.inl rfl)) (pss_one (ps_if (pt_cmpR (op_neD hr.units) (pe_meth (pv 0) T.cl T.m_bounds (G_bounds T hP) (hr.mono (by decide)) T.B_bounds .nil passL (pa_cons (pe_ix ix_tup (pv 3) pe_int (fun _ _ => rfl)) (pa_cons (pe_ix ix_tup (pe_ix ix_tup (pv 1) pe_int (fun _ _ => rfl)) (pv 4) (fun _ _ => rfl)) pa_nil))) (pe_ix ix_tup (pe_ix ix_tup (pv 3) pe_int (fun _ _ => rfl)) (pv 4) (fun _ _ => rfl)) (nomark _)) (pss_one (ps_ret pe_bl)) pss_nil))))))
      (pss_cons (ps_for PassesOwn.never rfl (pi_tup (pe_ix ix_tup (pv 1) pe_int (fun _ _ => rfl))) (pg_tup (by rfl) (pgs_cons (pg_name (i := 5) sc__law_answers.nd rfl (Or.inl rfl)) (pgs_cons (pg_name (i := 6) sc__law_answers.nd rfl (Or.inl rfl)) (pgs_cons (pg_name (i := 7) sc__law_answers.nd rfl (Or.inl rfl)) pgs_nil)))) (pss_one (ps_if (PW.pt (pw_or (pt_cmpR op_ne (pe_meth (pv 0) T.cl T.m_minutes_between (G_minutes_between T hP) (hr.mono (by decide)) T.B_minutes_between .nil passL (pa_cons (pv 5) (pa_cons (pv 6) pa_nil))) (pv 7) (nomark _)) (pw_or1 (pt_cmpR op_ne (pe_meth (pv 0) T.cl T.m_minutes_between (G_minutes_between T hP) (hr.mono (by decide)) T.B_minutes_between .nil passL (pa_cons (pv 6) (pa_cons (pv 5) pa_nil))) (pv 7) (nomark _))))) (pss_one (ps_ret pe_bl)) pss_nil)))
      (pss_cons (ps_set (i := 8) sc__law_answers.nd rfl (Or.inl rfl) (pe_op op_cat (pe_lc (own := [("path", 9)]) (g := gName 9) (tt := tYes) rfl sc__law_answers.nd (pi_tup (pe_ix ix_tup (pv 1) pe_int (fun _ _ => rfl))) (blkOk_by (N := ["land", "due", "numbers", "link", "k", "one", "other", "minutes", "pairs", "path"]) (sc := defScope s__law_answers) (by decide +kernel)) (fun _ _ _ _ _ => pg_name (i := 9) sc__law_answers.nd rfl (Or.inl rfl)) (fun _ _ _ _ _ => pts_nil) (fun _ _ _ _ _ => (pe_slice (show SlR _ (rSlT K) from sl_tup) (pv 9) po_none (po_some pe_int)))) (pe_lc (own := [("path", 9)]) (g := gName 9) (tt := tYes) rfl sc__law_answers.nd (pi_tup (pe_ix ix_tup (pv 1) pe_int (fun _ _ => rfl))) (blkOk_by (N := ["land", "due", "numbers", "link", "k", "one", "other", "minutes", "pairs", "path"]) (sc := defScope s__law_answers) (by decide +kernel)) (fun _ _ _ _ _ => pg_name (i := 9) sc__law_answers.nd rfl (Or.inl rfl)) (fun _ _ _ _ _ => pts_nil) (fun _ _ _ _ _ => (pe_tup (pa_cons (pe_ix (show IxR _ (rIxT K) from ix_tup) (pv 9) pe_int (fun _ _ => rfl)) (pa_cons (pe_ix (show IxR _ (rIxT K) from ix_tup) (pv 9) pe_int (fun _ _ => rfl)) pa_nil)))))))
      (pss_cons (ps_for PassesOwn.never rfl (pi_range1 (by rfl) T.z_range (pa_cons pe_int pa_nil)) (pg_name (i := 4) sc__law_answers.nd rfl (Or.inl rfl)) (pss_cons (ps_set (i := 5) sc__law_answers.nd rfl (Or.inl rfl) (pe_ix ix_tup (pe_ix ix_tup (pv 1) pe_int (fun _ _ => rfl)) (pe_op op_modN (pe_callTy call_int1 (by rfl) T.z_int (by decide +kernel) (pa_cons (pe_ix ix_list (pv 2) (pe_op op_add pe_int (pv 4)) (fun _ _ => rfl)) pa_nil)) (pe_callB call_len_seq (by rfl) T.z_len PySem.boot_len (pa_cons (pe_ix ix_tup (pv 1) pe_int (fun _ _ => rfl)) pa_nil))) (fun _ _ => rfl)))
        (pss_cons (ps_set (i := 6) sc__law_answers.nd rfl (Or.inl rfl) (pe_ix ix_tup (pe_ix ix_tup (pv 1) pe_int (fun _ _ => rfl)) (pe_op op_modN (pe_op op_fdiv (pe_callTy call_int1 (by rfl) T.z_int (by decide +kernel) (pa_cons (pe_ix ix_list (pv 2) (pe_op op_add pe_int (pv 4)) (fun _ _ => rfl)) pa_nil)) pe_int) (pe_callB call_len_seq (by rfl) T.z_len PySem.boot_len (pa_cons (pe_ix ix_tup (pv 1) pe_int (fun _ _ => rfl)) pa_nil))) (fun _ _ => rfl)))
        (pss_one (ps_if (PW.pt (pw_and (pt_cmpR (op_notInD (EvS.r65 hr)) (pe_tup (pa_cons (pv 5) (pa_cons (pv 6) pa_nil))) (pv 8) (by rfl)) (pw_and1 (pt_cmpR op_notN (pe_meth (pv 0) T.cl T.m_minutes_between (G_minutes_between T hP) (hr.mono (by decide)) T.B_minutes_between .nil passL (pa_cons (pv 5) (pa_cons (pv 6) pa_nil))) pe_non (nomark _))))) (pss_one (ps_ret pe_bl)) pss_nil)))))
      (pss_one (ps_ret (pe_and (pe_cmpR op_isN (pe_meth (pv 0) T.cl T.m_check_wind (G_check_wind T hP) (hr.mono (by decide)) T.B_check_wind .nil passL (pa_cons (pe_ix ix_tup (pe_ix ix_tup (pv 1) pe_int (fun _ _ => rfl)) (pe_op op_modN (pe_callTy call_int1 (by rfl) T.z_int (by decide +kernel) (pa_cons (pe_ix ix_list (pv 2) pe_int (fun _ _ => rfl)) pa_nil)) (pe_callB call_len_seq (by rfl) T.z_len PySem.boot_len (pa_cons (pe_ix ix_tup (pv 1) pe_int (fun _ _ => rfl)) pa_nil))) (fun _ _ => rfl)) pa_nil)) pe_non (nomark _)) (pe_one (pe_call (G__law_places T hP) (hr.mono (by decide)) (by rfl) T.g__law_places T.k__law_places T.B__law_places .nil pass0 (pa_cons (pv 0) (pa_cons (pv 1) pa_nil))))))))))), ?_⟩
    refine ⟨_, rfl, d, _, _, _, rfl, rfl, Du.ob, atI_nat (j := 2) rfl, li, rfl, ⟨_, Du.li⟩, for_tup (K := K) (a := li) (xs := rows) (fun i σ H' => ∃ v3 v4, σ = [some (.ref x), some (.ref d), some (.ref l), v3, v4, none, none, none, none, none] ∧ Ex H H') ⟨none, none, rfl, Ex.refl _⟩ (fun i σ H' _ z => by obtain ⟨_, _, rfl, e⟩ := z; exact ex_t e Du.li) ?_ ?_⟩
    · rintro i y σ H1 hy ⟨v3, v4, rfl, e1⟩
      obtain ⟨k0, hk, kin, dk⟩ := row_link Du.ls hy
      obtain ⟨t, u, us, rfl, st, su, au⟩ := link_at dk
      have nk := ok.gl.1 _ (List.mem_map.mpr ⟨k0, kin, rfl⟩)
      have kl := (ok.lk k0 kin).len
      have zin : k0.n ∈ namesD D := List.mem_map.mpr ⟨k0, kin, rfl⟩
      have shk : SeqAt.shaped (dLink k0) = true := sh_shaped (sh_link ok kin) (by decide)
      obtain ⟨dx, wi', pl', li', pa', rows', prs', L⟩ := hx.ex e1
      refine ⟨_, rfl, x, dx, _, rfl, L.ob, fs_none _ _ _ _ (by decide +kernel) (by decide +kernel) (by decide +kernel) (by decide +kernel), _, rfl, t, _, _, _, rfl, rfl, ex_t e1 st, atI_nat (j := 0) rfl, x, D, k0.n, rfl, hx.ex e1, name_le nk, fun k' kin' kn' H2 t' e2 dk' => ?_, fun no => absurd zin no⟩
      have e12 := e1.trans e2
      obtain rfl := link_one ok kin kin' kn'
      refine ⟨_, rfl, _, _, dk', dp_ex e12 dk, shk, shk, _, rfl, ?_⟩
      rw [eqv_self shk]
      have Du2 := Du.ex e12
      refine ⟨_, rfl, d, _, _, _, rfl, rfl, Du2.ob, atI_nat (j := 0) rfl, wi, _, rfl, .inr Du2.wi, _, rfl, by omega, by omega, for_range (n := (((D.ws.map V.str).length : Nat) : Int).toNat) (fun j σ H' => ∃ v4, σ = [some (.ref x), some (.ref d), some (.ref l), some (.ref t), v4, none, none, none, none, none] ∧ Ex H H') ⟨v4, rfl, e12⟩ ?_ ?_⟩
      · rintro j σ H3 hj ⟨v4, rfl, e3⟩
        have hj' : j < D.ws.length := by omega
        obtain ⟨z, hz⟩ : ∃ z, D.ws[j]? = some z := ⟨_, List.getElem?_eq_getElem hj'⟩
        have zw : z ∈ D.ws := List.mem_of_getElem? hz
        have az : atI (D.ws.map V.str) (0 + (j : Int)) = some (.str z) := by rw [Int.zero_add]; exact atI_nat (by rw [List.getElem?_map, hz] <;> rfl)
        obtain ⟨b, hb⟩ : ∃ b, k'.ts[j]? = some b := ⟨_, List.getElem?_eq_getElem (by rw [kl]; exact hj')⟩
        have ul : us.length = k'.ts.length := by rw [dps_len au, List.length_map]
        obtain ⟨v, hv⟩ : ∃ v, us[j]? = some v := ⟨_, List.getElem?_eq_getElem (by rw [ul, kl]; exact hj')⟩
        obtain ⟨dd, hdd, dp⟩ := dps_at au hv
        rw [List.getElem?_map, hb] at hdd
        obtain rfl : dTime b = dd := Option.some.inj hdd
        have Du3 := Du.ex e3
        obtain ⟨dx, wi', pl', li', pa', rows', prs', L⟩ := hx.ex e3
        refine ⟨_, rfl, x, dx, _, rfl, L.ob, fs_none _ _ _ _ (by decide +kernel) (by decide +kernel) (by decide +kernel) (by decide +kernel), _, rfl, t, _, _, _, rfl, rfl, ex_t e3 st, atI_nat (j := 0) rfl, _, rfl, d, _, _, _, rfl, rfl, Du3.ob, atI_nat (j := 0) rfl, _, rfl, wi, _, _, _, rfl, rfl, Du3.wi, az, x, D, k'.n, z, rfl, hx.ex e3, ok, name_le nk, name_le (ok.gw.1 _ zw), fun no => absurd zin no, fun _ no => absurd zw no, fun k2 kin2 kn2 j2 b2 hj2 hb2 H4 v2 e4 dv2 => ?_⟩
        obtain rfl := link_one ok kin kin2 kn2
        obtain rfl := str_one ok.gw.2 hz hj2
        rw [hb] at hb2
        obtain rfl := Option.some.inj hb2
        have e34 := e3.trans e4
        have sht : SeqAt.shaped (dTime b) = true := sh_shaped (sh_time b) (by decide)
        refine ⟨_, rfl, t, _, _, _, rfl, rfl, ex_t e34 st, atI_nat (j := 3) rfl, _, rfl, u, _, _, _, rfl, rfl, ex_t e34 su, by rw [Int.zero_add]; exact atI_nat hv, _, _, dv2, dp_ex e34 dp, sht, sht, _, rfl, ?_⟩
        rw [eqv_self sht]
        exact ⟨_, rfl, e34⟩
      · rintro σ H3 ⟨v4, rfl, e3⟩
        exact ⟨_, _, rfl, e3⟩
    rintro σ H1 ⟨v3, v4, rfl, e1⟩
    have Du1 := Du.ex e1
    refine ⟨_, rfl, d, _, _, _, rfl, rfl, Du1.ob, atI_nat (j := 3) rfl, pa, rfl, ⟨_, Du1.pa⟩, for_tup (K := K) (a := pa) (xs := prs) (fun i σ H' => ∃ v5 v6 v7, σ = [some (.ref x), some (.ref d), some (.ref l), v3, v4, v5, v6, v7, none, none] ∧ Ex H H') ⟨none, none, none, rfl, e1⟩ (fun i σ H' _ z => by obtain ⟨_, _, _, rfl, e⟩ := z; exact ex_t e Du.pa) ?_ ?_⟩
    · rintro i y σ H2 hy ⟨v5, v6, v7, rfl, e2⟩
      obtain ⟨p, t, hp, pin, rfl, st⟩ := path_at Du.ps hy
      have pk := ok.pt p pin
      obtain ⟨dx, wi', pl', li', pa', rows', prs', L⟩ := hx.ex e2
      refine ⟨t, _, rfl, ex_t e2 st, rfl, _, _, rfl, _, _, rfl, _, _, rfl, rfl, ?_⟩
      refine ⟨_, rfl, x, dx, _, rfl, L.ob, fs_none _ _ _ _ (by decide +kernel) (by decide +kernel) (by decide +kernel) (by decide +kernel), _, rfl, _, rfl, x, D, p.1, p.2.1, rfl, hx.ex e2, ok, name_le (ok.gp.1 _ pk.o), name_le (ok.gp.1 _ pk.t), fun no => absurd pk.o no, fun _ no => absurd pk.t no, fun p' pin' b H3 e3 => ?_, fun _ _ no => absurd (.inl ⟨rfl, rfl⟩) (no p pin)⟩
      obtain rfl := path_one ok pin pin' b
      refine ⟨_, rfl, rfl, _, rfl, ?_⟩
      rw [decide_eq_true rfl]
      have e23 := e2.trans e3
      obtain ⟨dx, wi', pl', li', pa', rows', prs', L⟩ := hx.ex e23
      refine ⟨_, rfl, x, dx, _, rfl, L.ob, fs_none _ _ _ _ (by decide +kernel) (by decide +kernel) (by decide +kernel) (by decide +kernel), _, rfl, _, rfl, x, D, p'.2.1, p'.1, rfl, hx.ex e23, ok, name_le (ok.gp.1 _ pk.t), name_le (ok.gp.1 _ pk.o), fun no => absurd pk.t no, fun _ no => absurd pk.o no, fun p2 pin2 b2 H4 e4 => ?_, fun _ _ no => absurd (.inr ⟨rfl, rfl⟩) (no p' pin')⟩
      obtain rfl := path_one ok pin' pin2 (bet_swap b2)
      refine ⟨_, rfl, rfl, _, rfl, ?_⟩
      rw [decide_eq_true rfl]
      exact ⟨_, _, _, rfl, e23.trans e4⟩
    rintro σ H2 ⟨v5, v6, v7, rfl, e2⟩
    have Du2 := Du.ex e2
    -- the pairs
    refine ⟨_, rfl, d, _, _, _, rfl, rfl, Du2.ob, atI_nat (j := 3) rfl, pa, rfl, ⟨_, Du2.pa⟩, fun D1 hD1 => lc_tup (K := K) (a := pa) (xs := prs) (fun i H' => Ex H2 H' ∧ ∃ rs, H' D1 = some (.lst rs) ∧ DpAll K H' rs ((D.pa.take i).map fun p => dTwo p.1 p.2.1)) ⟨Ex.new hD1, [], upd_same, .nil⟩ (fun i H' _ q => ex_t q.1 Du2.pa) ?_ ?_⟩
    · rintro i y H3 hy ⟨e3, rs, hg, hd⟩
      obtain ⟨p, t, hp, pin, rfl, st⟩ := path_at Du2.ps hy
      have lr : rs.length ≤ 60 := by rw [dps_len hd, List.length_map, List.length_take]; omega
      refine ⟨rfl, _, rfl, _, rfl, t, _, rfl, ex_t e3 st, fun q => absurd q.2 (by show ¬ HT.sIx 3 3 (some 2) = 3; decide), fun t1 h1 => ?_⟩
      have e4 : Ex H3 (upd H3 t1 (.tup [.str p.1, .str p.2.1])) := Ex.new h1
      refine ⟨rs, e4 _ _ hg, sz_lt (by omega), (e3.trans e4).mut hD1, rs ++ [.ref t1], upd_same, ?_⟩
      rw [take_one hp]
      refine dps_exT (exT_mut (e4 _ _ hg)) ?_ (frozen_two _ _ _)
      rw [List.map_append]
      exact dps_app (dps_ex e4 hd) (dps_one (.tup (st_of upd_same) (.cons (.str _) (.cons (.str _) .nil))))
    rintro H3 ⟨e3, rs1, hg1, hd1⟩
    rw [lpr, List.take_length] at hd1
    have Du3 := Du2.ex e3
    refine ⟨_, rfl, d, _, _, _, rfl, rfl, Du3.ob, atI_nat (j := 3) rfl, pa, rfl, ⟨_, Du3.pa⟩, fun D2 hD2 => lc_tup (K := K) (a := pa) (xs := prs) (fun i H' => Ex H3 H' ∧ ∃ rs, H' D2 = some (.lst rs) ∧ DpAll K H' rs ((D.pa.take i).map fun p => dTwo p.2.1 p.1)) ⟨Ex.new hD2, [], upd_same, .nil⟩ (fun i H' _ q => ex_t q.1 Du3.pa) ?_ ?_⟩
    · rintro i y H4 hy ⟨e4, rs, hg, hd⟩
      obtain ⟨p, t, hp, pin, rfl, st⟩ := path_at Du3.ps hy
      have lr : rs.length ≤ 60 := by rw [dps_len hd, List.length_map, List.length_take]; omega
      refine ⟨rfl, _, rfl, t, _, _, _, rfl, rfl, ex_t e4 st, atI_nat (j := 1) rfl, _, rfl, t, _, _, _, rfl, rfl, ex_t e4 st, atI_nat (j := 0) rfl, by show 2 ≤ sizeLine; decide, fun t1 h1 => ?_⟩
      have e5 : Ex H4 (upd H4 t1 (.tup [.str p.2.1, .str p.1])) := Ex.new h1
      refine ⟨rs, e5 _ _ hg, sz_lt (by omega), (e4.trans e5).mut hD2, rs ++ [.ref t1], upd_same, ?_⟩
      rw [take_one hp]
      refine dps_exT (exT_mut (e5 _ _ hg)) ?_ (frozen_two _ _ _)
      rw [List.map_append]
      exact dps_app (dps_ex e5 hd) (dps_one (.tup (st_of upd_same) (.cons (.str _) (.cons (.str _) .nil))))
    rintro H4 ⟨e4, rs2, hg2, hd2⟩
    rw [lpr, List.take_length] at hd2
    have r1 : rs1.length = D.pa.length := by rw [dps_len hd1, List.length_map]
    have r2 : rs2.length = D.pa.length := by rw [dps_len hd2, List.length_map]
    refine ⟨D1, D2, rs1, rs2, rfl, rfl, e4 _ _ hg1, hg2, by rw [sizeLine_eq]; omega, fun pp hpp => ?_⟩
    have e5 : Ex H4 (upd H4 pp (.lst (rs1 ++ rs2))) := Ex.new hpp
    have h5 : (upd H4 pp (.lst (rs1 ++ rs2))) pp = some (.lst (rs1 ++ rs2)) := upd_same
    have d5 : DpAll K (upd H4 pp (.lst (rs1 ++ rs2))) (rs1 ++ rs2) (((D.pa.map fun p => dTwo p.1 p.2.1) ++ (D.pa.map fun p => dTwo p.2.1 p.1))) := dps_app (dps_ex (e4.trans e5) hd1) (dps_ex e5 hd2)
    have e25 := e2.trans (e3.trans (e4.trans e5))
    generalize upd H4 pp (.lst (rs1 ++ rs2)) = H5 at e5 h5 d5 e25
    clear hd1 hd2 hg1 hg2 e3 e4 e5 r1 r2 Du3 Du2 Du1
    have shP : SeqAt.shaped (.list ((D.pa.map fun p => dTwo p.1 p.2.1) ++ (D.pa.map fun p => dTwo p.2.1 p.1))) = true := sh_shaped (n := 7) (sh_lst (n := 6) fun q hq => by
      rcases List.mem_append.mp hq with z | z
      · obtain ⟨p, hp, rfl⟩ := List.mem_map.mp z
        exact sh_dTwo (ok.gp.1 _ (ok.pt p hp).o) (ok.gp.1 _ (ok.pt p hp).t)
      · obtain ⟨p, hp, rfl⟩ := List.mem_map.mp z
        exact sh_dTwo (ok.gp.1 _ (ok.pt p hp).t) (ok.gp.1 _ (ok.pt p hp).o)) (by decide)
    have pick : ∀ n : Int, ((D.ps.map V.str).length : Int) ≠ 0 ∧ ∃ z, z ∈ D.ps ∧ atI (D.ps.map V.str) (n.fmod ((D.ps.map V.str).length : Int)) = some (.str z) := fun n => any_pick (by omega) n
    refine ⟨_, rfl, by omega, by omega, for_range (n := (6 : Int).toNat) (fun i σ H' => ∃ v4 v5 v6, σ = [some (.ref x), some (.ref d), some (.ref l), v3, v4, v5, v6, v7, some (.ref pp), none] ∧ Ex H5 H') ⟨_, _, _, rfl, Ex.refl _⟩ ?_ ?_⟩
    · rintro i σ H6 hi ⟨v4, v5, v6, rfl, e6⟩
      have hi : i < 6 := hi
      have e06 := e25.trans e6
      have Du6 := Du.ex e06
      have N6 := N.ex e06
      obtain ⟨n1, _, g1, _⟩ := num_in (ks := ks) (i := 140 + (0 + (i : Int))) (by omega) (by omega)
      obtain ⟨n2, _, g2, _⟩ := num_in (ks := ks) (i := 141 + (0 + (i : Int))) (by omega) (by omega)
      obtain ⟨nz, one, oin, hone⟩ := pick n1
      obtain ⟨_, other, tin, hother⟩ := pick (n2 / 3)
      refine ⟨_, rfl, d, _, _, _, rfl, rfl, Du6.ob, atI_nat (j := 1) rfl, _, rfl, _, rfl, _, _, rfl, rfl, l, _, _, _, rfl, rfl, N6.at_, g1, .inl ⟨_, rfl, _, rfl, d, _, _, _, rfl, rfl, Du6.ob, atI_nat (j := 1) rfl, pl, _, rfl, .inr Du6.pl, _, _, rfl, rfl, nz, pl, _, _, _, rfl, rfl, Du6.pl, hone, ?_⟩⟩
      refine ⟨_, rfl, d, _, _, _, rfl, rfl, Du6.ob, atI_nat (j := 1) rfl, _, rfl, _, rfl, _, _, rfl, rfl, l, _, _, _, rfl, rfl, N6.at_, g2, .inl ⟨_, rfl, _, _, rfl, rfl, ⟨by decide, by decide⟩, _, rfl, d, _, _, _, rfl, rfl, Du6.ob, atI_nat (j := 1) rfl, pl, _, rfl, .inr Du6.pl, _, _, rfl, rfl, nz, pl, _, _, _, rfl, rfl, Du6.pl, hother, ?_⟩⟩
      refine ⟨_, rfl, _, rfl, by show 2 ≤ sizeLine; decide, fun t ht => ?_⟩
      have e7 : Ex H6 (upd H6 t (.tup [.str one, .str other])) := Ex.new ht
      have st : SqT K (upd H6 t (.tup [.str one, .str other])) t [.str one, .str other] := st_of upd_same
      generalize upd H6 t (.tup [.str one, .str other]) = H7 at e7 st
      have e67 := e6.trans e7
      have e07 := e25.trans e67
      refine ⟨_, rfl, dTwo one other, _, .tup st (.cons (.str _) (.cons (.str _) .nil)), .lst (SqL.of (e67 _ _ h5)) (dps_ex e67 d5), sh_shaped (sh_dTwo (ok.gp.1 _ oin) (ok.gp.1 _ tin)) (by decide), shP, _, rfl, ite2 (fun c => ?_) (fun _ => ⟨_, _, _, rfl, e67⟩)⟩
      have no : ∀ p ∈ D.pa, ¬ bet p one other := fun p hp b => by
        have c := by simpa only [Bool.not_eq_true'] using c
        rw [List.any_eq_false] at c
        rcases b with b | b
        · refine c (dTwo p.1 p.2.1) (List.mem_append_left _ (List.mem_map.mpr ⟨p, hp, rfl⟩)) ?_
          unfold dTwo
          rw [eqv_two]
          exact decide_eq_true b
        · refine c (dTwo p.2.1 p.1) (List.mem_append_right _ (List.mem_map.mpr ⟨p, hp, rfl⟩)) ?_
          unfold dTwo
          rw [eqv_two]
          exact decide_eq_true ⟨b.2, b.1⟩
      obtain ⟨dx, wi', pl', li', pa', rows', prs', L⟩ := hx.ex e07
      refine ⟨_, rfl, x, dx, _, rfl, L.ob, fs_none _ _ _ _ (by decide +kernel) (by decide +kernel) (by decide +kernel) (by decide +kernel), _, rfl, _, rfl, x, D, one, other, rfl, hx.ex e07, ok, name_le (ok.gp.1 _ oin), name_le (ok.gp.1 _ tin), fun q => absurd oin q, fun _ q => absurd tin q, fun p pin b => absurd b (no p pin), fun _ _ _ H8 e8 => ⟨rfl, _, rfl, ?_⟩⟩
      rw [decide_eq_true rfl]
      exact ⟨_, _, _, rfl, e67.trans e8⟩
    · rintro σ H6 ⟨v4, v5, v6, rfl, e6⟩
      have e06 := e25.trans e6
      have Du6 := Du.ex e06
      have N6 := N.ex e06
      obtain ⟨n1, _, g1, _⟩ := num_in (ks := ks) (i := 149) (by omega) (by omega)
      obtain ⟨nz, z, zin, hz⟩ := any_pick (ps := D.ws) w1 n1
      obtain ⟨dx, wi', pl', li', pa', rows', prs', L⟩ := hx.ex e06
      refine ⟨_, rfl, x, dx, _, rfl, L.ob, fs_none _ _ _ _ (by decide +kernel) (by decide +kernel) (by decide +kernel) (by decide +kernel), _, rfl, d, _, _, _, rfl, rfl, Du6.ob, atI_nat (j := 0) rfl, _, rfl, l, _, _, _, rfl, rfl, N6.at_, g1, .inl ⟨_, rfl, _, rfl, d, _, _, _, rfl, rfl, Du6.ob, atI_nat (j := 0) rfl, wi, _, rfl, .inr Du6.wi, _, _, rfl, rfl, nz, wi, _, _, _, rfl, rfl, Du6.wi, hz, x, D, z, rfl, hx.ex e06, name_le (ok.gw.1 _ zin), fun _ H7 e7 => ⟨rfl, true, by rw [decide_eq_true rfl], ?_⟩, fun q => absurd zin q⟩⟩
      have e07 := e06.trans e7
      exact ⟨_, rfl, _, rfl, x, d, wi, pl, li, pa, D, rows, prs, rfl, hx.ex e07, ok, Du.ex e07, fun H8 e8 => k _ (e07.trans e8)⟩
end
end EV

set_option Elab.async false
set_option linter.all false
set_option maxRecDepth 100000
set_option maxHeartbeats 4000000
namespace EV
open PySem PySem.Spec PyProof.Rows L2 EvS Evl
def spLaw (K : PySem.W.Frag) : Sp := fun vs H Q _ => ∃ (p : Addr) (ns : List Int), vs = [.ref p] ∧ SqL K H p (ns.map V.int) ∧ ∀ H', Q (.bl true) H'
theorem nameN_ok (ks : List Int) (at_ m : Nat) : isName (nameOf ks at_ m) = true := name_ok ks at_ m
theorem name_new (ks : List Int) (at_ : Nat) {m : Nat} (h : m < 72) : nameOf ks at_ m ∉ names ks at_ m := fun z => by
  obtain ⟨i, hi, e⟩ := List.mem_map.mp z
  have hi := List.mem_range.mp hi
  have := name_inj ks at_ (i := i) (j := m) (by omega) h e
  omega
theorem name_two (ks : List Int) (at_ m : Nat) : 2 ≤ (nameOf ks at_ m).length := by
  have h1 := codes_len ks (bas ks at_) m
  have h2 := pre_len ks (bas ks at_)
  have h3 : (nameOf ks at_ m).length = (codes ks (bas ks at_) m).length := tx_len _
  omega
/-- texts that are no name in a drawn land -/
theorem odd_text {ks : List Int} {D : LandD} (N : Named ks D) (ok : LandOk D) {z : Str} (h : isName z = false ∨ z.length < 2) (d : Int) : z ∉ lstD D d := fun q => by
  obtain ⟨m1, m2, m3, _, _, _, e1, e2, e3⟩ := N
  have two : ∀ {at_ m : Nat}, z ∈ names ks at_ m → 2 ≤ z.length ∧ isName z = true := fun {at_ m} q => by
    obtain ⟨i, _, e⟩ := List.mem_map.mp q
    rw [← e]
    exact ⟨name_two ks at_ i, name_ok ks at_ i⟩
  have q2 : 2 ≤ z.length ∧ isName z = true := by
    unfold lstD namesD at q
    split at q
    · rw [e3] at q; exact two q
    · split at q
      · rw [e1] at q; exact two q
      · rw [e2] at q; exact two q
  rcases h with h | h
  · rw [q2.2] at h; cases h
  · omega
section
variable {P : Program} {w : World} {K : PySem.W.Frag} {mg : Str → Option Value} {base : Heap} {a : Ad}
theorem G_law (T : Txt K mg a) (hP : PF P) : FnOk P w K mg base CX0 10 a.f_law a.d_law ["script"] (spLaw K) := by
  refine T.F_law.ok sc_law (fun vs H Q E h => ?_) (fun cdv A outer s H vs Q E hr h => ?_)
  · obtain ⟨p, ns, rfl, _⟩ := h
    rfl
  · obtain ⟨p, ns, rfl, hS, k⟩ := h
    refine ⟨_, (pss_cons (ps_set (i := 1) sc_law.nd rfl (Or.inl rfl) (pe_call (G__law_numbers T) (hr.mono (by decide)) (by rfl) T.g__law_numbers T.k__law_numbers T.B__law_numbers .nil pass0 (pa_cons (pv 0) (pa_cons pe_int pa_nil))))
      (pss_cons (ps_set (i := 2) sc_law.nd rfl (Or.inl rfl) (pe_call (G__law_parts T) (hr.mono (by decide)) (by rfl) T.g__law_parts T.k__law_parts T.B__law_parts .nil pass0 (pa_cons (pv 1) pa_nil)))
      (pss_cons (ps_set (i := 3) sc_law.nd rfl (Or.inl rfl) (pe_call (G__law_frozen T) (hr.mono (by decide)) (by rfl) T.g__law_frozen T.k__law_frozen T.B__law_frozen .nil pass0 (pa_cons (pv 2) pa_nil)))
      (pss_cons (ps_set (i := 4) sc_law.nd rfl (Or.inl rfl) (pe_call (G__law_made T) (hr.mono (by decide)) (by rfl) T.g__law_made T.k__law_made T.B__law_made .nil pass0 (pa_cons (pv 2) pa_nil)))
      (pss_cons (ps_set (i := 5) sc_law.nd rfl (Or.inl rfl) (pe_ix ix_list (pe_call (G__law_names T) (hr.mono (by decide)) (by rfl) T.g__law_names T.k__law_names T.B__law_names .nil pass0 (pa_cons (pv 1) (pa_cons pe_int (pa_cons (pe_op op_add (pe_callB call_len_seq (by rfl) T.z_len PySem.boot_len (pa_cons (pe_ix ix_tup (pv 3) pe_int (fun _ _ => rfl)) pa_nil)) pe_int) pa_nil)))) (pe_callB call_len_seq (by rfl) T.z_len PySem.boot_len (pa_cons (pe_ix ix_tup (pv 3) pe_int (fun _ _ => rfl)) pa_nil)) (fun _ _ => rfl)))
      (pss_cons (ps_set (i := 6) sc_law.nd rfl (Or.inl rfl) (pe_ix ix_list (pe_call (G__law_names T) (hr.mono (by decide)) (by rfl) T.g__law_names T.k__law_names T.B__law_names .nil pass0 (pa_cons (pv 1) (pa_cons pe_int (pa_cons (pe_op op_add (pe_callB call_len_seq (by rfl) T.z_len PySem.boot_len (pa_cons (pe_ix ix_tup (pv 3) pe_int (fun _ _ => rfl)) pa_nil)) pe_int) pa_nil)))) (pe_callB call_len_seq (by rfl) T.z_len PySem.boot_len (pa_cons (pe_ix ix_tup (pv 3) pe_int (fun _ _ => rfl)) pa_nil)) (fun _ _ => rfl)))
      (pss_cons (ps_set (i := 7) sc_law.nd rfl (Or.inl rfl) (pe_ix ix_list (pe_call (G__law_names T) (hr.mono (by decide)) (by rfl) T.g__law_names T.k__law_names T.B__law_names .nil pass0 (pa_cons (pv 1) (pa_cons pe_int (pa_cons (pe_op op_add (pe_callB call_len_seq (by rfl) T.z_len PySem.boot_len (pa_cons (pe_ix ix_tup (pv 3) pe_int (fun _ _ => rfl)) pa_nil)) pe_int) pa_nil)))) (pe_callB call_len_seq (by rfl) T.z_len PySem.boot_len (pa_cons (pe_ix ix_tup (pv 3) pe_int (fun _ _ => rfl)) pa_nil)) (fun _ _ => rfl)))
      (pss_cons (ps_set (i := 8) sc_law.nd rfl (Or.inl rfl) (pe_lst (pa_cons (pe_tup (pa_cons pe_int (pa_cons (pv 7) pa_nil))) (pa_cons (pe_tup (pa_cons pe_int (pa_cons (pv 6) pa_nil))) (pa_cons (pe_tup (pa_cons pe_int (pa_cons (pv 6) pa_nil))) (pa_cons (pe_tup (pa_cons pe_int (pa_cons (pv 7) pa_nil))) (pa_cons (pe_tup (pa_cons pe_int (pa_cons (pv 6) pa_nil))) (pa_cons (pe_tup (pa_cons pe_int (pa_cons (pv 6) pa_nil))) (pa_cons (pe_tup (pa_cons pe_int (pa_cons (pv 6) pa_nil))) (pa_cons (pe_tup (pa_cons pe_int (pa_cons (pv 5) pa_nil))) pa_nil))))))))))
      (pss_cons (ps_for PassesOwn.never rfl (pi_range1 (by rfl) T.z_range (pa_cons pe_int pa_nil)) (pg_name (i := 9) sc_law.nd rfl (Or.inl rfl)) (pss_cons (ps_if (pt_not (pt_val (pe_call (G__law_answers T hP) (hr.mono (by decide)) (by rfl) T.g__law_answers T.k__law_answers T.B__law_answers .nil pass0 (pa_cons (pv 4) (pa_cons (pv 3) (pa_cons (pv 1) pa_nil)))))) (pss_one (ps_ret pe_bl)) pss_nil)
        (pss_cons (ps_for PassesOwn.never rfl (pi_list (pv 8)) (pg_tup (by rfl) (pgs_cons (pg_name (i := 10) sc_law.nd rfl (Or.inl rfl)) (pgs_cons (pg_name (i := 11) sc_law.nd rfl (Or.inl rfl)) pgs_nil))) (pss_one (ps_for PassesOwn.never rfl (pi_list (pe_lst (pa_cons (pv 11) (pa_cons pe_str (pa_cons pe_str (pa_cons pe_str pa_nil)))))) (pg_name (i := 12) sc_law.nd rfl (Or.inl rfl)) (pss_one (ps_if (pt_cmpR op_ne (pe_call (G__law_unknown T hP) (hr.mono (by decide)) (by rfl) T.g__law_unknown T.k__law_unknown T.B__law_unknown .nil pass0 (pa_cons (pv 4) (pa_cons (pv 10) (pa_cons (pv 12) (pa_cons pe_str pa_nil))))) (pv 12) (nomark _)) (pss_one (ps_ret pe_bl)) pss_nil)))))
        (pss_cons (ps_if (pt_cmpR op_ne (pe_call (G__law_unknown T hP) (hr.mono (by decide)) (by rfl) T.g__law_unknown T.k__law_unknown T.B__law_unknown .nil pass0 (pa_cons (pv 4) (pa_cons pe_int (pa_cons (pe_ix ix_tup (pe_ix ix_tup (pv 3) pe_int (fun _ _ => rfl)) pe_int (fun _ _ => rfl)) (pa_cons (pv 6) pa_nil))))) (pv 6) (nomark _)) (pss_one (ps_ret pe_bl)) pss_nil)
        (pss_one (ps_for PassesOwn.never rfl (pi_tup (pe_slice sl_tupA (pe_ix ix_tup (pv 3) pe_int (fun _ _ => rfl)) po_none (po_some pe_int))) (pg_name (i := 13) sc_law.nd rfl (Or.inl rfl)) (pss_one (ps_if (pt_cmpR op_ne (pe_call (G__law_unknown T hP) (hr.mono (by decide)) (by rfl) T.g__law_unknown T.k__law_unknown T.B__law_unknown .nil pass0 (pa_cons (pv 4) (pa_cons pe_int (pa_cons (pe_ix ix_tup (pv 13) pe_int (fun _ _ => rfl)) (pa_cons (pv 5) pa_nil))))) (pv 5) (nomark _)) (pss_one (ps_ret pe_bl)) pss_nil))))))))
      (pss_one (ps_ret (pe_call (G__law_same T) (hr.mono (by decide)) (by rfl) T.g__law_same T.k__law_same T.B__law_same .nil pass0 (pa_cons (pv 4) (pa_cons (pv 3) pa_nil)))))))))))))), ?_⟩
    refine ⟨_, rfl, p, ns, 150, rfl, hS, by decide, by decide, fun H1 l ks e1 hl hL hlen hs => ?_⟩
    have N : Nums K H1 l ks := ⟨SqL.of hL, hs, by omega, by omega⟩
    refine ⟨_, rfl, l, ks, rfl, N, fun H2 q D e2 hq dq ok nd => ?_⟩
    refine ⟨_, rfl, q, D, rfl, dq, ok, fun H3 d e3 hd0 dd => ?_⟩
    refine ⟨_, rfl, q, D, rfl, dp_ex e3 dq, ok, fun H4 x e4 hx0 hx => ?_⟩
    replace N := N.ex (e2.trans (e3.trans e4))
    replace dd := dp_ex e4 dd
    obtain ⟨wi, pl, li, pa, rows0, prs, Du⟩ := due_in dd
    clear e1 hl hL hlen e2 hq e3 hd0 e4 hx0
    have lro : rows0.length = D.ls.length := by rw [dps_len Du.ls, List.length_map]
    have b60 := ok.l60
    have p1 := ok.p1
    obtain ⟨m1, m2, m3, b1, b2, b3, ew, ep, en⟩ := id nd
    have lw : (D.ws.map V.str).length = m1 := by rw [List.length_map, ew, names_len]
    have lp : (D.ps.map V.str).length = m2 := by rw [List.length_map, ep, names_len]
    have ll : rows0.length = m3 := by rw [lro, ← List.length_map (f := fun k : Link => k.n), en, names_len]
    have pick : ∀ (at_ m : Nat), atI ((names ks at_ (m + 1)).map V.str) (m : Int) = some (.str (nameOf ks at_ m)) := fun at_ m => atI_nat (by rw [names_more, List.map_append, List.getElem?_append_right (by rw [List.length_map, names_len]; exact Nat.le_refl _), List.length_map, names_len, Nat.sub_self]; rfl)
    refine ⟨_, rfl, _, rfl, d, _, _, _, rfl, rfl, Du.ob, atI_nat (j := 0) rfl, wi, _, rfl, .inr Du.wi, _, _, rfl, rfl, l, ks, 8, m1 + 1, by rw [lw]; rfl, N, by decide, by decide, by omega, fun H5 q5 e5 _ h5 => ?_⟩
    have Du5 := Du.ex e5
    refine ⟨_, rfl, d, _, _, _, rfl, rfl, Du5.ob, atI_nat (j := 0) rfl, wi, _, rfl, .inr Du5.wi, q5, _, _, _, rfl, rfl, SqL.of h5, by rw [lw]; exact pick 8 m1, ?_⟩
    have Ne5 := N.ex e5
    refine ⟨_, rfl, _, rfl, d, _, _, _, rfl, rfl, Du5.ob, atI_nat (j := 1) rfl, pl, _, rfl, .inr Du5.pl, _, _, rfl, rfl, l, ks, 15, m2 + 1, by rw [lp]; rfl, Ne5, by decide, by decide, by omega, fun H6 q6 e6 _ h6 => ?_⟩
    have Du6 := Du5.ex e6
    refine ⟨_, rfl, d, _, _, _, rfl, rfl, Du6.ob, atI_nat (j := 1) rfl, pl, _, rfl, .inr Du6.pl, q6, _, _, _, rfl, rfl, SqL.of h6, by rw [lp]; exact pick 15 m2, ?_⟩
    refine ⟨_, rfl, _, rfl, d, _, _, _, rfl, rfl, Du6.ob, atI_nat (j := 2) rfl, li, _, rfl, .inr Du6.li, _, _, rfl, rfl, l, ks, 22, m3 + 1, by rw [ll]; rfl, Ne5.ex e6, by decide, by decide, by omega, fun H9 q7 e7 _ h7 => ?_⟩
    have Du7 := Du6.ex e7
    refine ⟨_, rfl, d, _, _, _, rfl, rfl, Du7.ob, atI_nat (j := 2) rfl, li, _, rfl, .inr Du7.li, q7, _, _, _, rfl, rfl, SqL.of h7, by rw [ll]; exact pick 22 m3, ?_⟩
    have e49 := e5.trans (e6.trans e7)
    have nw : ∀ dd : Int, dd = 7 → nameOf ks 8 m1 ∉ lstD D dd := fun dd e => by
      rw [e]; unfold lstD
      rw [if_neg (by decide), if_pos rfl, ew]; exact name_new ks 8 (by omega)
    have nk : ∀ dd : Int, (dd = 0 ∨ dd = 3) → nameOf ks 22 m3 ∉ lstD D dd := fun dd e => by
      unfold lstD namesD
      rw [if_pos e, en]; exact name_new ks 22 (by omega)
    have np : ∀ dd : Int, (dd ≠ 0 ∧ dd ≠ 3 ∧ dd ≠ 7) → nameOf ks 15 m2 ∉ lstD D dd := fun dd e => by
      unfold lstD
      rw [if_neg (by omega), if_neg e.2.2, ep]; exact name_new ks 15 (by omega)
    have okw : isName (nameOf ks 8 m1) = true := name_ok ks 8 m1
    have okp : isName (nameOf ks 15 m2) = true := name_ok ks 15 m2
    have okk : isName (nameOf ks 22 m3) = true := name_ok ks 22 m3
    replace N := N.ex e49
    replace Du := Du.ex e49
    replace hx := hx.ex e49
    replace dd := dp_ex e49 dd
    generalize nameOf ks 8 m1 = wn at nw okw ⊢
    generalize nameOf ks 15 m2 = pn at np okp ⊢
    generalize nameOf ks 22 m3 = kn at nk okk ⊢
    clear h5 h6 h7 Du5 Du6 Du7 Ne5 e5 e6 e7 pick e49 dq
    refine ⟨_, rfl, by show 2 ≤ sizeLine; decide, fun t0 h0 => ⟨_, rfl, by show 2 ≤ sizeLine; decide, fun t1 h1 => ⟨_, rfl, by show 2 ≤ sizeLine; decide, fun t2 h2 => ⟨_, rfl, by show 2 ≤ sizeLine; decide, fun t3 h3 => ⟨_, rfl, by show 2 ≤ sizeLine; decide, fun t4 h4 => ⟨_, rfl, by show 2 ≤ sizeLine; decide, fun t5 h5 => ⟨_, rfl, by show 2 ≤ sizeLine; decide, fun t6 h6 => ⟨_, rfl, by show 2 ≤ sizeLine; decide, fun t7 h7 => ⟨by show 8 ≤ sizeLine; decide, fun ask hask => ?_⟩⟩⟩⟩⟩⟩⟩⟩⟩
    have c0 : Ex H9 (upd H9 t0 (.tup [.int 0, .str kn])) := Ex.new h0
    have s0 : SqT K (upd H9 t0 (.tup [.int 0, .str kn])) t0 [.int 0, .str kn] := st_of upd_same
    generalize upd H9 t0 (.tup [.int 0, .str kn]) = G0 at c0 s0 h1 h2 h3 h4 h5 h6 h7 hask ⊢
    have c1 : Ex G0 (upd G0 t1 (.tup [.int 1, .str pn])) := Ex.new h1
    have s1 : SqT K (upd G0 t1 (.tup [.int 1, .str pn])) t1 [.int 1, .str pn] := st_of upd_same
    generalize upd G0 t1 (.tup [.int 1, .str pn]) = G1 at c1 s1 h2 h3 h4 h5 h6 h7 hask ⊢
    have c2 : Ex G1 (upd G1 t2 (.tup [.int 2, .str pn])) := Ex.new h2
    have s2 : SqT K (upd G1 t2 (.tup [.int 2, .str pn])) t2 [.int 2, .str pn] := st_of upd_same
    generalize upd G1 t2 (.tup [.int 2, .str pn]) = G2 at c2 s2 h3 h4 h5 h6 h7 hask ⊢
    have c3 : Ex G2 (upd G2 t3 (.tup [.int 3, .str kn])) := Ex.new h3
    have s3 : SqT K (upd G2 t3 (.tup [.int 3, .str kn])) t3 [.int 3, .str kn] := st_of upd_same
    generalize upd G2 t3 (.tup [.int 3, .str kn]) = G3 at c3 s3 h4 h5 h6 h7 hask ⊢
    have c4 : Ex G3 (upd G3 t4 (.tup [.int 4, .str pn])) := Ex.new h4
    have s4 : SqT K (upd G3 t4 (.tup [.int 4, .str pn])) t4 [.int 4, .str pn] := st_of upd_same
    generalize upd G3 t4 (.tup [.int 4, .str pn]) = G4 at c4 s4 h5 h6 h7 hask ⊢
    have c5 : Ex G4 (upd G4 t5 (.tup [.int 5, .str pn])) := Ex.new h5
    have s5 : SqT K (upd G4 t5 (.tup [.int 5, .str pn])) t5 [.int 5, .str pn] := st_of upd_same
    generalize upd G4 t5 (.tup [.int 5, .str pn]) = G5 at c5 s5 h6 h7 hask ⊢
    have c6 : Ex G5 (upd G5 t6 (.tup [.int 6, .str pn])) := Ex.new h6
    have s6 : SqT K (upd G5 t6 (.tup [.int 6, .str pn])) t6 [.int 6, .str pn] := st_of upd_same
    generalize upd G5 t6 (.tup [.int 6, .str pn]) = G6 at c6 s6 h7 hask ⊢
    have c7 : Ex G6 (upd G6 t7 (.tup [.int 7, .str wn])) := Ex.new h7
    have s7 : SqT K (upd G6 t7 (.tup [.int 7, .str wn])) t7 [.int 7, .str wn] := st_of upd_same
    generalize upd G6 t7 (.tup [.int 7, .str wn]) = G7 at c7 s7  hask ⊢
    have c8 : Ex G7 (upd G7 ask (.lst [.ref t0, .ref t1, .ref t2, .ref t3, .ref t4, .ref t5, .ref t6, .ref t7])) := Ex.new hask
    have hak : (upd G7 ask (.lst [.ref t0, .ref t1, .ref t2, .ref t3, .ref t4, .ref t5, .ref t6, .ref t7])) ask = some (.lst [.ref t0, .ref t1, .ref t2, .ref t3, .ref t4, .ref t5, .ref t6, .ref t7]) := upd_same
    generalize upd G7 ask (.lst [.ref t0, .ref t1, .ref t2, .ref t3, .ref t4, .ref t5, .ref t6, .ref t7]) = G8 at c8 hak ⊢
    have rows : ∀ y ∈ ([.ref t0, .ref t1, .ref t2, .ref t3, .ref t4, .ref t5, .ref t6, .ref t7] : List V), ∃ (t : Addr) (d : Int) (n : Str), y = .ref t ∧ SqT K G8 t [.int d, .str n] ∧ 0 ≤ d ∧ d ≤ 7 ∧ n ∉ lstD D d ∧ n.length ≤ 1000 := fun y hy => by
      simp only [List.mem_cons, List.not_mem_nil, or_false] at hy
      rcases hy with h | h | h | h | h | h | h | h
      · exact ⟨t0, 0, kn, h, ex_t (c1.trans (c2.trans (c3.trans (c4.trans (c5.trans (c6.trans (c7.trans c8))))))) s0, by decide, by decide, nk 0 (by decide), name_le okk⟩
      · exact ⟨t1, 1, pn, h, ex_t (c2.trans (c3.trans (c4.trans (c5.trans (c6.trans (c7.trans c8)))))) s1, by decide, by decide, np 1 (by decide), name_le okp⟩
      · exact ⟨t2, 2, pn, h, ex_t (c3.trans (c4.trans (c5.trans (c6.trans (c7.trans c8))))) s2, by decide, by decide, np 2 (by decide), name_le okp⟩
      · exact ⟨t3, 3, kn, h, ex_t (c4.trans (c5.trans (c6.trans (c7.trans c8)))) s3, by decide, by decide, nk 3 (by decide), name_le okk⟩
      · exact ⟨t4, 4, pn, h, ex_t (c5.trans (c6.trans (c7.trans c8))) s4, by decide, by decide, np 4 (by decide), name_le okp⟩
      · exact ⟨t5, 5, pn, h, ex_t (c6.trans (c7.trans c8)) s5, by decide, by decide, np 5 (by decide), name_le okp⟩
      · exact ⟨t6, 6, pn, h, ex_t (c7.trans c8) s6, by decide, by decide, np 6 (by decide), name_le okp⟩
      · exact ⟨t7, 7, wn, h, ex_t c8 s7, by decide, by decide, nw 7 (by decide), name_le okw⟩
    have e9 : Ex H9 G8 := (c0.trans (c1.trans (c2.trans (c3.trans (c4.trans (c5.trans (c6.trans (c7.trans c8))))))))
    replace N := N.ex e9
    replace Du := Du.ex e9
    replace hx := hx.ex e9
    replace dd := dp_ex e9 dd
    obtain ⟨zp, hzp⟩ : ∃ z, D.ps[0]? = some z := ⟨_, List.getElem?_eq_getElem (by omega)⟩
    have zpin := List.mem_of_getElem? hzp
    refine ⟨_, rfl, by omega, by omega, for_range (n := (2 : Int).toNat) (fun i σ H' => ∃ v9 v10 v11 v12 v13, σ = [some (.ref p), some (.ref l), some (.ref q), some (.ref d), some (.ref x), some (.str wn), some (.str pn), some (.str kn), some (.ref ask), v9, v10, v11, v12, v13] ∧ Ex G8 H') ⟨_, _, _, _, _, rfl, Ex.refl _⟩ ?_ ?_⟩
    · rintro i σ H1 _ ⟨v9, v10, v11, v12, v13, rfl, a1⟩
      refine ⟨_, rfl, _, rfl, _, rfl, x, d, l, wi, pl, li, pa, D, rows0, prs, ks, rfl, hx.ex a1, ok, Du.ex a1, N.ex a1, fun H2 a2 => ⟨_, rfl, ?_⟩⟩
      have a12 := a1.trans a2
      refine ⟨_, rfl, ask, rfl, ⟨_, SqL.of (a12 _ _ hak)⟩, for_list (K := K) (a := ask) (xs := [.ref t0, .ref t1, .ref t2, .ref t3, .ref t4, .ref t5, .ref t6, .ref t7]) (fun j σ H' => ∃ v10 v11 v12, σ = [some (.ref p), some (.ref l), some (.ref q), some (.ref d), some (.ref x), some (.str wn), some (.str pn), some (.str kn), some (.ref ask), some (.int (0 + (i : Int))), v10, v11, v12, v13] ∧ Ex G8 H') ⟨_, _, _, rfl, a12⟩ (fun j σ H' _ z => by obtain ⟨_, _, _, _, e⟩ := z; exact SqL.of (e _ _ hak)) ?_ ?_⟩
      · rintro j y σ H3 hy ⟨v10, v11, v12, rfl, a3⟩
        obtain ⟨t, dd0, n, rfl, st, d0, d7, nin, nl⟩ := rows y (List.mem_of_getElem? hy)
        refine ⟨t, _, rfl, ex_t a3 st, rfl, _, _, rfl, _, _, rfl, rfl, ?_⟩
        refine ⟨_, rfl, by show 4 ≤ sizeLine; decide, fun M hM => ?_⟩
        have aM : Ex H3 (upd H3 M (.lst [.str n, .str "", .str "z", .str "A"])) := Ex.new hM
        have hM1 : (upd H3 M (.lst [.str n, .str "", .str "z", .str "A"])) M = some (.lst [.str n, .str "", .str "z", .str "A"]) := upd_same
        generalize upd H3 M (.lst [.str n, .str "", .str "z", .str "A"]) = H4 at aM hM1 ⊢
        refine ⟨M, rfl, ⟨_, SqL.of hM1⟩, for_list (K := K) (a := M) (xs := [.str n, .str "", .str "z", .str "A"]) (fun j2 σ H' => ∃ v12, σ = [some (.ref p), some (.ref l), some (.ref q), some (.ref d), some (.ref x), some (.str wn), some (.str pn), some (.str kn), some (.ref ask), some (.int (0 + (i : Int))), some (.int dd0), some (.str n), v12, v13] ∧ Ex H4 H') ⟨_, rfl, Ex.refl _⟩ (fun j2 σ H' _ z => by obtain ⟨_, _, e⟩ := z; exact SqL.of (e _ _ hM1)) ?_ ?_⟩
        · rintro j2 y σ H5 hy ⟨v12, rfl, a5⟩
          obtain ⟨z, rfl, zn, zl⟩ : ∃ z : Str, y = .str z ∧ z ∉ lstD D dd0 ∧ z.length ≤ 1000 := by
            have m := List.mem_of_getElem? hy
            simp only [List.mem_cons, List.not_mem_nil, or_false] at m
            rcases m with h | h | h | h
            · exact ⟨n, h, nin, nl⟩
            · exact ⟨"", h, odd_text nd ok (.inl (by decide +kernel)) dd0, by decide +kernel⟩
            · exact ⟨"z", h, odd_text nd ok (.inr (by decide +kernel)) dd0, by decide +kernel⟩
            · exact ⟨"A", h, odd_text nd ok (.inl (by decide +kernel)) dd0, by decide +kernel⟩
          have a35 := a3.trans (aM.trans a5)
          refine ⟨_, rfl, _, rfl, _, rfl, x, D, dd0, z, "Z", z, rfl, d0, d7, hx.ex a35, ok, zl, by decide +kernel, .inl ⟨zn, rfl⟩, fun H6 a6 => ⟨_, rfl, rfl, _, rfl, ?_⟩⟩
          rw [decide_eq_true rfl]
          exact ⟨_, rfl, a5.trans a6⟩
        · rintro σ H5 ⟨v12, rfl, a5⟩
          exact ⟨_, _, _, rfl, a3.trans (aM.trans a5)⟩
      rintro σ H3 ⟨v10, v11, v12, rfl, a3⟩
      have np5 : pn ∉ D.ps := by have := np 5 (by decide); unfold lstD at this; rw [if_neg (by decide), if_neg (by decide)] at this; exact this
      have nw7 : wn ∉ D.ws := by have := nw 7 rfl; unfold lstD at this; rw [if_neg (by decide), if_pos rfl] at this; exact this
      have Du3 := Du.ex a3
      refine ⟨_, rfl, _, rfl, d, _, _, _, rfl, rfl, Du3.ob, atI_nat (j := 1) rfl, pl, _, _, .str zp, rfl, rfl, Du3.pl, atI_nat (j := 0) (by rw [List.getElem?_map, hzp] <;> rfl), _, rfl, x, D, 5, zp, pn, pn, rfl, by decide, by decide, hx.ex a3, ok, name_le (ok.gp.1 _ zpin), name_le okp, .inr (.inl ⟨rfl, zpin, np5, rfl⟩), fun H4 a4 => ⟨_, rfl, rfl, _, rfl, ?_⟩⟩
      rw [decide_eq_true rfl]
      have a34 := a3.trans a4
      have Du4 := Du.ex a34
      refine ⟨_, rfl, d, _, _, _, rfl, rfl, Du4.ob, atI_nat (j := 2) rfl, _, rfl, li, rows0, rfl, Du4.li, fun _ => ?_, fun _ u hu => ?_⟩
      · refine ⟨li, rfl, ⟨_, Du4.li⟩, for_tup (K := K) (a := li) (xs := rows0) (fun j σ H' => ∃ v13, σ = [some (.ref p), some (.ref l), some (.ref q), some (.ref d), some (.ref x), some (.str wn), some (.str pn), some (.str kn), some (.ref ask), some (.int (0 + (i : Int))), v10, v11, v12, v13] ∧ Ex (H4) H') ⟨_, rfl, Ex.refl _⟩ (fun j σ H' _ z => by obtain ⟨_, _, e⟩ := z; exact ex_t e Du4.li) ?_ ?_⟩
        · rintro j y σ H5 hy ⟨v13, rfl, a5⟩
          obtain ⟨ix, hix⟩ := List.getElem?_of_mem (List.mem_of_getElem? hy)
          obtain ⟨k0, hk0, kin, dk⟩ := row_link Du.ls hix
          have a8 := (a34).trans a5
          obtain ⟨t, u2, us2, rfl, st, su, au⟩ := link_at (dp_ex a8 dk)
          have kn0 : k0.n ∈ namesD D := List.mem_map.mpr ⟨k0, kin, rfl⟩
          refine ⟨_, rfl, _, rfl, t, _, _, _, rfl, rfl, st, atI_nat (j := 0) rfl, _, rfl, x, D, 3, k0.n, wn, wn, rfl, by decide, by decide, hx.ex a8, ok, name_le (ok.gl.1 _ kn0), name_le okw, .inr (.inr ⟨rfl, kn0, nw7, rfl⟩), fun H6 a6 => ⟨_, rfl, rfl, _, rfl, ?_⟩⟩
          rw [decide_eq_true rfl]
          exact ⟨_, rfl, a5.trans a6⟩
        · rintro σ H5 ⟨v13, rfl, a5⟩
          exact ⟨_, _, _, _, _, rfl, (a34).trans a5⟩
      · have cu : cutV rows0 none (some 2) = rows0.take 2 := cut_to rows0 2
        rw [cu]
        have au : Ex H4 (upd H4 u (.tup (rows0.take 2))) := Ex.new hu
        have su : SqT K (upd H4 u (.tup (rows0.take 2))) u (rows0.take 2) := st_of upd_same
        generalize upd H4 u (.tup (rows0.take 2)) = H4' at au su ⊢
        refine ⟨u, rfl, ⟨_, su⟩, for_tup (K := K) (a := u) (xs := rows0.take 2) (fun j σ H' => ∃ v13, σ = [some (.ref p), some (.ref l), some (.ref q), some (.ref d), some (.ref x), some (.str wn), some (.str pn), some (.str kn), some (.ref ask), some (.int (0 + (i : Int))), v10, v11, v12, v13] ∧ Ex (H4') H') ⟨_, rfl, Ex.refl _⟩ (fun j σ H' _ z => by obtain ⟨_, _, e⟩ := z; exact ex_t e su) ?_ ?_⟩
        · rintro j y σ H5 hy ⟨v13, rfl, a5⟩
          obtain ⟨ix, hix⟩ := List.getElem?_of_mem (List.mem_of_mem_take (List.mem_of_getElem? hy))
          obtain ⟨k0, hk0, kin, dk⟩ := row_link Du.ls hix
          have a8 := (a34.trans au).trans a5
          obtain ⟨t, u2, us2, rfl, st, su, au⟩ := link_at (dp_ex a8 dk)
          have kn0 : k0.n ∈ namesD D := List.mem_map.mpr ⟨k0, kin, rfl⟩
          refine ⟨_, rfl, _, rfl, t, _, _, _, rfl, rfl, st, atI_nat (j := 0) rfl, _, rfl, x, D, 3, k0.n, wn, wn, rfl, by decide, by decide, hx.ex a8, ok, name_le (ok.gl.1 _ kn0), name_le okw, .inr (.inr ⟨rfl, kn0, nw7, rfl⟩), fun H6 a6 => ⟨_, rfl, rfl, _, rfl, ?_⟩⟩
          rw [decide_eq_true rfl]
          exact ⟨_, rfl, a5.trans a6⟩
        · rintro σ H5 ⟨v13, rfl, a5⟩
          exact ⟨_, _, _, _, _, rfl, (a34.trans au).trans a5⟩
    · rintro σ H1 ⟨v9, v10, v11, v12, v13, rfl, a1⟩
      exact ⟨_, rfl, _, rfl, x, d, D, rfl, hx.ex a1, dp_ex a1 dd, ok, fun H2 _ => k H2⟩
end
end EV

set_option Elab.async false
set_option linter.all false
set_option maxRecDepth 100000
set_option maxHeartbeats 4000000
namespace EV
open PySem PySem.Spec PyProof.Rows L2 EvS Evl
theorem all_mk {l : PySem.W.OpenLaw} {w : World} {K : PySem.W.Frag} {h : Heap} {mg : Str → Option Value} {fa C tl te pr D f_is_name f__check_count f__check_names f__check_ends f__as_bounds f__as_link f__as_path f__check_single_paths f__is_between f_init f_link_names f_check_place f_check_wind f_link f_links_from f_links_to f_bounds f_walks_from f_minutes_between f__law_row f__law_numbers f__law_pick f__law_names f__law_count f__law_times f__law_paths f__law_parts f__law_made f__law_frozen f__law_same f__law_unknown f__law_is_list f__law_places f__law_answers f_law X_EveryfireError X_InvalidLand X_UnknownName f_UnknownName cc_UnknownName cd_UnknownName N_UnknownName : Addr} (X : K.In h) (G : h.Ns mainGlobals mg) (hfa : mg "law" = some (.ref fa))
    {od_is_name an_is_name od__check_count an__check_count od__check_names an__check_names od__check_ends an__check_ends od__as_bounds an__as_bounds od__as_link an__as_link od__as_path an__as_path od__check_single_paths an__check_single_paths od__is_between an__is_between od_init an_init od_link_names an_link_names od_check_place an_check_place od_check_wind an_check_wind od_link an_link od_links_from an_links_from od_links_to an_links_to od_bounds an_bounds od_walks_from an_walks_from od_minutes_between an_minutes_between od__law_row an__law_row od__law_numbers an__law_numbers od__law_pick an__law_pick od__law_names an__law_names od__law_count an__law_count od__law_times an__law_times od__law_paths an__law_paths od__law_parts an__law_parts od__law_made an__law_made od__law_frozen an__law_frozen od__law_same an__law_same od__law_unknown an__law_unknown od__law_is_list an__law_is_list od__law_places an__law_places od__law_answers an__law_answers od_law an_law dd_tl dd_te : Option Addr} {sl_is_name sl__check_count sl__check_names sl__check_ends sl__as_bounds sl__as_link sl__as_path sl__check_single_paths sl__is_between sl_init sl_link_names sl_check_place sl_check_wind sl_link sl_links_from sl_links_to sl_bounds sl_walks_from sl_minutes_between sl__law_row sl__law_numbers sl__law_pick sl__law_names sl__law_count sl__law_times sl__law_paths sl__law_parts sl__law_made sl__law_frozen sl__law_same sl__law_unknown sl__law_is_list sl__law_places sl__law_answers sl_law sl_tl sl_te : Array (Option Value)} {oc_is_name kV_is_name dc_is_name pm_is_name cd_is_name ct_is_name oc__check_count kV__check_count dc__check_count pm__check_count cd__check_count ct__check_count oc__check_names kV__check_names dc__check_names pm__check_names cd__check_names ct__check_names oc__check_ends kV__check_ends dc__check_ends pm__check_ends cd__check_ends ct__check_ends oc__as_bounds kV__as_bounds dc__as_bounds pm__as_bounds cd__as_bounds ct__as_bounds oc__as_link kV__as_link dc__as_link pm__as_link cd__as_link ct__as_link oc__as_path kV__as_path dc__as_path pm__as_path cd__as_path ct__as_path oc__check_single_paths kV__check_single_paths dc__check_single_paths pm__check_single_paths cd__check_single_paths ct__check_single_paths oc__is_between kV__is_between dc__is_between pm__is_between cd__is_between ct__is_between oc_init dc_init pm_init cd_init ct_init oc_link_names kV_link_names dc_link_names pm_link_names cd_link_names ct_link_names oc_check_place kV_check_place dc_check_place pm_check_place cd_check_place ct_check_place oc_check_wind kV_check_wind dc_check_wind pm_check_wind cd_check_wind ct_check_wind oc_link kV_link dc_link pm_link cd_link ct_link oc_links_from kV_links_from dc_links_from pm_links_from cd_links_from ct_links_from oc_links_to kV_links_to dc_links_to pm_links_to cd_links_to ct_links_to oc_bounds kV_bounds dc_bounds pm_bounds cd_bounds ct_bounds oc_walks_from kV_walks_from dc_walks_from pm_walks_from cd_walks_from ct_walks_from oc_minutes_between kV_minutes_between dc_minutes_between pm_minutes_between cd_minutes_between ct_minutes_between oc__law_row kV__law_row dc__law_row pm__law_row cd__law_row ct__law_row oc__law_numbers kV__law_numbers dc__law_numbers pm__law_numbers cd__law_numbers ct__law_numbers oc__law_pick kV__law_pick dc__law_pick pm__law_pick cd__law_pick ct__law_pick oc__law_names kV__law_names dc__law_names pm__law_names cd__law_names ct__law_names oc__law_count kV__law_count dc__law_count pm__law_count cd__law_count ct__law_count oc__law_times kV__law_times dc__law_times pm__law_times cd__law_times ct__law_times oc__law_paths kV__law_paths dc__law_paths pm__law_paths cd__law_paths ct__law_paths oc__law_parts kV__law_parts dc__law_parts pm__law_parts cd__law_parts ct__law_parts oc__law_made kV__law_made dc__law_made pm__law_made cd__law_made ct__law_made oc__law_frozen kV__law_frozen dc__law_frozen pm__law_frozen cd__law_frozen ct__law_frozen oc__law_same kV__law_same dc__law_same pm__law_same cd__law_same ct__law_same oc__law_unknown kV__law_unknown dc__law_unknown pm__law_unknown cd__law_unknown ct__law_unknown oc__law_is_list kV__law_is_list dc__law_is_list pm__law_is_list cd__law_is_list ct__law_is_list oc__law_places kV__law_places dc__law_places pm__law_places cd__law_places ct__law_places oc__law_answers kV__law_answers dc__law_answers pm__law_answers cd__law_answers ct__law_answers oc_law kV_law dc_law pm_law cd_law ct_law : Value} {n_tl n_te : Nat} {rest_pr : List Value} {t_DIGITS t_LETTERS t_LONGEST_NAME t_MOST_LINKS t_MOST_MINUTES t_MOST_PATHS t_MOST_PLACES t_MOST_WINDS : Tok} {nm_UnknownName q_UnknownName : Str} {bs_UnknownName bm_UnknownName sub_UnknownName : List Value} {sn_UnknownName : List Str} {ab_UnknownName : Bool} {col_UnknownName : Option Bool} {dd_UnknownName : Option Addr} {k0_UnknownName k1_UnknownName k2_UnknownName k3_UnknownName k5_UnknownName : Option Value} {oc_f_UnknownName kV_UnknownName dc_UnknownName pm_UnknownName ct_UnknownName : Value} {od_f_UnknownName an_UnknownName : Option Addr} {sl_f_UnknownName : Array (Option Value)} {ccl_UnknownName : Value} {cdd_UnknownName : Option Addr} {cvs_UnknownName : Array Value} {ccs_UnknownName : Array (Option Value)} {tf_UnknownName : Tok} {cl_UnknownName : Value} {cld_UnknownName : Option Addr} {csl_UnknownName : Array (Option Value)}
    (aC : PySem.W.nsIn K mainGlobals "Land" = some (some (.ref C)))
    (a_is_name : PySem.W.nsIn K mainGlobals "is_name" = some (some (.ref f_is_name)))
    (l_is_name : K.lookup f_is_name = some ⟨oc_is_name, od_is_name, .func (PySem.W.fnOf "is_name" "is_name" (defArgs s_is_name) (defBody s_is_name) (defScope s_is_name) .none kV_is_name dc_is_name pm_is_name an_is_name cd_is_name ct_is_name), sl_is_name⟩)
    (c_is_name : PySem.W.codeIn K cd_is_name "is_name" = true)
    (k_is_name : PySem.W.keepIn K (.ref f_is_name) = true)
    (a__check_count : PySem.W.nsIn K mainGlobals "_check_count" = some (some (.ref f__check_count)))
    (l__check_count : K.lookup f__check_count = some ⟨oc__check_count, od__check_count, .func (PySem.W.fnOf "_check_count" "_check_count" (defArgs s__check_count) (defBody s__check_count) (defScope s__check_count) .none kV__check_count dc__check_count pm__check_count an__check_count cd__check_count ct__check_count), sl__check_count⟩)
    (c__check_count : PySem.W.codeIn K cd__check_count "_check_count" = true)
    (k__check_count : PySem.W.keepIn K (.ref f__check_count) = true)
    (a__check_names : PySem.W.nsIn K mainGlobals "_check_names" = some (some (.ref f__check_names)))
    (l__check_names : K.lookup f__check_names = some ⟨oc__check_names, od__check_names, .func (PySem.W.fnOf "_check_names" "_check_names" (defArgs s__check_names) (defBody s__check_names) (defScope s__check_names) .none kV__check_names dc__check_names pm__check_names an__check_names cd__check_names ct__check_names), sl__check_names⟩)
    (c__check_names : PySem.W.codeIn K cd__check_names "_check_names" = true)
    (k__check_names : PySem.W.keepIn K (.ref f__check_names) = true)
    (a__check_ends : PySem.W.nsIn K mainGlobals "_check_ends" = some (some (.ref f__check_ends)))
    (l__check_ends : K.lookup f__check_ends = some ⟨oc__check_ends, od__check_ends, .func (PySem.W.fnOf "_check_ends" "_check_ends" (defArgs s__check_ends) (defBody s__check_ends) (defScope s__check_ends) .none kV__check_ends dc__check_ends pm__check_ends an__check_ends cd__check_ends ct__check_ends), sl__check_ends⟩)
    (c__check_ends : PySem.W.codeIn K cd__check_ends "_check_ends" = true)
    (k__check_ends : PySem.W.keepIn K (.ref f__check_ends) = true)
    (a__as_bounds : PySem.W.nsIn K mainGlobals "_as_bounds" = some (some (.ref f__as_bounds)))
    (l__as_bounds : K.lookup f__as_bounds = some ⟨oc__as_bounds, od__as_bounds, .func (PySem.W.fnOf "_as_bounds" "_as_bounds" (defArgs s__as_bounds) (defBody s__as_bounds) (defScope s__as_bounds) .none kV__as_bounds dc__as_bounds pm__as_bounds an__as_bounds cd__as_bounds ct__as_bounds), sl__as_bounds⟩)
    (c__as_bounds : PySem.W.codeIn K cd__as_bounds "_as_bounds" = true)
    (k__as_bounds : PySem.W.keepIn K (.ref f__as_bounds) = true)
    (a__as_link : PySem.W.nsIn K mainGlobals "_as_link" = some (some (.ref f__as_link)))
    (l__as_link : K.lookup f__as_link = some ⟨oc__as_link, od__as_link, .func (PySem.W.fnOf "_as_link" "_as_link" (defArgs s__as_link) (defBody s__as_link) (defScope s__as_link) .none kV__as_link dc__as_link pm__as_link an__as_link cd__as_link ct__as_link), sl__as_link⟩)
    (c__as_link : PySem.W.codeIn K cd__as_link "_as_link" = true)
    (k__as_link : PySem.W.keepIn K (.ref f__as_link) = true)
    (a__as_path : PySem.W.nsIn K mainGlobals "_as_path" = some (some (.ref f__as_path)))
    (l__as_path : K.lookup f__as_path = some ⟨oc__as_path, od__as_path, .func (PySem.W.fnOf "_as_path" "_as_path" (defArgs s__as_path) (defBody s__as_path) (defScope s__as_path) .none kV__as_path dc__as_path pm__as_path an__as_path cd__as_path ct__as_path), sl__as_path⟩)
    (c__as_path : PySem.W.codeIn K cd__as_path "_as_path" = true)
    (k__as_path : PySem.W.keepIn K (.ref f__as_path) = true)
    (a__check_single_paths : PySem.W.nsIn K mainGlobals "_check_single_paths" = some (some (.ref f__check_single_paths)))
    (l__check_single_paths : K.lookup f__check_single_paths = some ⟨oc__check_single_paths, od__check_single_paths, .func (PySem.W.fnOf "_check_single_paths" "_check_single_paths" (defArgs s__check_single_paths) (defBody s__check_single_paths) (defScope s__check_single_paths) .none kV__check_single_paths dc__check_single_paths pm__check_single_paths an__check_single_paths cd__check_single_paths ct__check_single_paths), sl__check_single_paths⟩)
    (c__check_single_paths : PySem.W.codeIn K cd__check_single_paths "_check_single_paths" = true)
    (k__check_single_paths : PySem.W.keepIn K (.ref f__check_single_paths) = true)
    (a__is_between : PySem.W.nsIn K mainGlobals "_is_between" = some (some (.ref f__is_between)))
    (l__is_between : K.lookup f__is_between = some ⟨oc__is_between, od__is_between, .func (PySem.W.fnOf "_is_between" "_is_between" (defArgs s__is_between) (defBody s__is_between) (defScope s__is_between) .none kV__is_between dc__is_between pm__is_between an__is_between cd__is_between ct__is_between), sl__is_between⟩)
    (c__is_between : PySem.W.codeIn K cd__is_between "_is_between" = true)
    (k__is_between : PySem.W.keepIn K (.ref f__is_between) = true)
    (a_init : PySem.W.findIn K (.ref C) "__init__" = some (some (.ref f_init)))
    (i_init : PySem.W.isFn K (.ref f_init) = true)
    (l_init : K.lookup f_init = some ⟨oc_init, od_init, .func (PySem.W.fnOf "__init__" "Land.__init__" (defArgs s_init) (defBody s_init) (defScope s_init) .none (.ref D) dc_init pm_init an_init cd_init ct_init), sl_init⟩)
    (c_init : PySem.W.codeIn K cd_init "Land.__init__" = true)
    (k_init : PySem.W.keepIn K (.ref f_init) = true)
    (tl1 : PySem.W.nsIn K D "links" = some (some (.ref tl)))
    (te1 : PySem.W.nsIn K D "paths" = some (some (.ref te)))
    (tl2 : K.lookup tl = some ⟨.type "tuple", dd_tl, .seq #[] n_tl, sl_tl⟩)
    (te2 : K.lookup te = some ⟨.type "tuple", dd_te, .seq #[] n_te, sl_te⟩)
    (pr1 : PySem.W.findIn K (.ref C) "link_names" = some (some (.ref pr)))
    (pr2 : PySem.W.specialIn K (.ref pr) "__get__" = some (some (.builtin "property.__get__")))
    (pr3 : PySem.W.takesIn K (.ref pr) = some true)
    (pr4 : PySem.W.recIn K pr "property" = some (.ref f_link_names :: rest_pr))
    (l_link_names : K.lookup f_link_names = some ⟨oc_link_names, od_link_names, .func (PySem.W.fnOf "link_names" "Land.link_names" (defArgs s_link_names) (defBody s_link_names) (defScope s_link_names) .none kV_link_names dc_link_names pm_link_names an_link_names cd_link_names ct_link_names), sl_link_names⟩)
    (c_link_names : PySem.W.codeIn K cd_link_names "Land.link_names" = true)
    (k_link_names : PySem.W.keepIn K (.ref f_link_names) = true)
    (a_check_place : PySem.W.findIn K (.ref C) "check_place" = some (some (.ref f_check_place)))
    (i_check_place : PySem.W.isFn K (.ref f_check_place) = true)
    (l_check_place : K.lookup f_check_place = some ⟨oc_check_place, od_check_place, .func (PySem.W.fnOf "check_place" "Land.check_place" (defArgs s_check_place) (defBody s_check_place) (defScope s_check_place) .none kV_check_place dc_check_place pm_check_place an_check_place cd_check_place ct_check_place), sl_check_place⟩)
    (c_check_place : PySem.W.codeIn K cd_check_place "Land.check_place" = true)
    (k_check_place : PySem.W.keepIn K (.ref f_check_place) = true)
    (a_check_wind : PySem.W.findIn K (.ref C) "check_wind" = some (some (.ref f_check_wind)))
    (i_check_wind : PySem.W.isFn K (.ref f_check_wind) = true)
    (l_check_wind : K.lookup f_check_wind = some ⟨oc_check_wind, od_check_wind, .func (PySem.W.fnOf "check_wind" "Land.check_wind" (defArgs s_check_wind) (defBody s_check_wind) (defScope s_check_wind) .none kV_check_wind dc_check_wind pm_check_wind an_check_wind cd_check_wind ct_check_wind), sl_check_wind⟩)
    (c_check_wind : PySem.W.codeIn K cd_check_wind "Land.check_wind" = true)
    (k_check_wind : PySem.W.keepIn K (.ref f_check_wind) = true)
    (a_link : PySem.W.findIn K (.ref C) "link" = some (some (.ref f_link)))
    (i_link : PySem.W.isFn K (.ref f_link) = true)
    (l_link : K.lookup f_link = some ⟨oc_link, od_link, .func (PySem.W.fnOf "link" "Land.link" (defArgs s_link) (defBody s_link) (defScope s_link) .none kV_link dc_link pm_link an_link cd_link ct_link), sl_link⟩)
    (c_link : PySem.W.codeIn K cd_link "Land.link" = true)
    (k_link : PySem.W.keepIn K (.ref f_link) = true)
    (a_links_from : PySem.W.findIn K (.ref C) "links_from" = some (some (.ref f_links_from)))
    (i_links_from : PySem.W.isFn K (.ref f_links_from) = true)
    (l_links_from : K.lookup f_links_from = some ⟨oc_links_from, od_links_from, .func (PySem.W.fnOf "links_from" "Land.links_from" (defArgs s_links_from) (defBody s_links_from) (defScope s_links_from) .none kV_links_from dc_links_from pm_links_from an_links_from cd_links_from ct_links_from), sl_links_from⟩)
    (c_links_from : PySem.W.codeIn K cd_links_from "Land.links_from" = true)
    (k_links_from : PySem.W.keepIn K (.ref f_links_from) = true)
    (a_links_to : PySem.W.findIn K (.ref C) "links_to" = some (some (.ref f_links_to)))
    (i_links_to : PySem.W.isFn K (.ref f_links_to) = true)
    (l_links_to : K.lookup f_links_to = some ⟨oc_links_to, od_links_to, .func (PySem.W.fnOf "links_to" "Land.links_to" (defArgs s_links_to) (defBody s_links_to) (defScope s_links_to) .none kV_links_to dc_links_to pm_links_to an_links_to cd_links_to ct_links_to), sl_links_to⟩)
    (c_links_to : PySem.W.codeIn K cd_links_to "Land.links_to" = true)
    (k_links_to : PySem.W.keepIn K (.ref f_links_to) = true)
    (a_bounds : PySem.W.findIn K (.ref C) "bounds" = some (some (.ref f_bounds)))
    (i_bounds : PySem.W.isFn K (.ref f_bounds) = true)
    (l_bounds : K.lookup f_bounds = some ⟨oc_bounds, od_bounds, .func (PySem.W.fnOf "bounds" "Land.bounds" (defArgs s_bounds) (defBody s_bounds) (defScope s_bounds) .none kV_bounds dc_bounds pm_bounds an_bounds cd_bounds ct_bounds), sl_bounds⟩)
    (c_bounds : PySem.W.codeIn K cd_bounds "Land.bounds" = true)
    (k_bounds : PySem.W.keepIn K (.ref f_bounds) = true)
    (a_walks_from : PySem.W.findIn K (.ref C) "walks_from" = some (some (.ref f_walks_from)))
    (i_walks_from : PySem.W.isFn K (.ref f_walks_from) = true)
    (l_walks_from : K.lookup f_walks_from = some ⟨oc_walks_from, od_walks_from, .func (PySem.W.fnOf "walks_from" "Land.walks_from" (defArgs s_walks_from) (defBody s_walks_from) (defScope s_walks_from) .none kV_walks_from dc_walks_from pm_walks_from an_walks_from cd_walks_from ct_walks_from), sl_walks_from⟩)
    (c_walks_from : PySem.W.codeIn K cd_walks_from "Land.walks_from" = true)
    (k_walks_from : PySem.W.keepIn K (.ref f_walks_from) = true)
    (a_minutes_between : PySem.W.findIn K (.ref C) "minutes_between" = some (some (.ref f_minutes_between)))
    (i_minutes_between : PySem.W.isFn K (.ref f_minutes_between) = true)
    (l_minutes_between : K.lookup f_minutes_between = some ⟨oc_minutes_between, od_minutes_between, .func (PySem.W.fnOf "minutes_between" "Land.minutes_between" (defArgs s_minutes_between) (defBody s_minutes_between) (defScope s_minutes_between) .none kV_minutes_between dc_minutes_between pm_minutes_between an_minutes_between cd_minutes_between ct_minutes_between), sl_minutes_between⟩)
    (c_minutes_between : PySem.W.codeIn K cd_minutes_between "Land.minutes_between" = true)
    (k_minutes_between : PySem.W.keepIn K (.ref f_minutes_between) = true)
    (a__law_row : PySem.W.nsIn K mainGlobals "_law_row" = some (some (.ref f__law_row)))
    (l__law_row : K.lookup f__law_row = some ⟨oc__law_row, od__law_row, .func (PySem.W.fnOf "_law_row" "_law_row" (defArgs s__law_row) (defBody s__law_row) (defScope s__law_row) .none kV__law_row dc__law_row pm__law_row an__law_row cd__law_row ct__law_row), sl__law_row⟩)
    (c__law_row : PySem.W.codeIn K cd__law_row "_law_row" = true)
    (k__law_row : PySem.W.keepIn K (.ref f__law_row) = true)
    (a__law_numbers : PySem.W.nsIn K mainGlobals "_law_numbers" = some (some (.ref f__law_numbers)))
    (l__law_numbers : K.lookup f__law_numbers = some ⟨oc__law_numbers, od__law_numbers, .func (PySem.W.fnOf "_law_numbers" "_law_numbers" (defArgs s__law_numbers) (defBody s__law_numbers) (defScope s__law_numbers) .none kV__law_numbers dc__law_numbers pm__law_numbers an__law_numbers cd__law_numbers ct__law_numbers), sl__law_numbers⟩)
    (c__law_numbers : PySem.W.codeIn K cd__law_numbers "_law_numbers" = true)
    (k__law_numbers : PySem.W.keepIn K (.ref f__law_numbers) = true)
    (a__law_pick : PySem.W.nsIn K mainGlobals "_law_pick" = some (some (.ref f__law_pick)))
    (l__law_pick : K.lookup f__law_pick = some ⟨oc__law_pick, od__law_pick, .func (PySem.W.fnOf "_law_pick" "_law_pick" (defArgs s__law_pick) (defBody s__law_pick) (defScope s__law_pick) .none kV__law_pick dc__law_pick pm__law_pick an__law_pick cd__law_pick ct__law_pick), sl__law_pick⟩)
    (c__law_pick : PySem.W.codeIn K cd__law_pick "_law_pick" = true)
    (k__law_pick : PySem.W.keepIn K (.ref f__law_pick) = true)
    (a__law_names : PySem.W.nsIn K mainGlobals "_law_names" = some (some (.ref f__law_names)))
    (l__law_names : K.lookup f__law_names = some ⟨oc__law_names, od__law_names, .func (PySem.W.fnOf "_law_names" "_law_names" (defArgs s__law_names) (defBody s__law_names) (defScope s__law_names) .none kV__law_names dc__law_names pm__law_names an__law_names cd__law_names ct__law_names), sl__law_names⟩)
    (c__law_names : PySem.W.codeIn K cd__law_names "_law_names" = true)
    (k__law_names : PySem.W.keepIn K (.ref f__law_names) = true)
    (a__law_count : PySem.W.nsIn K mainGlobals "_law_count" = some (some (.ref f__law_count)))
    (l__law_count : K.lookup f__law_count = some ⟨oc__law_count, od__law_count, .func (PySem.W.fnOf "_law_count" "_law_count" (defArgs s__law_count) (defBody s__law_count) (defScope s__law_count) .none kV__law_count dc__law_count pm__law_count an__law_count cd__law_count ct__law_count), sl__law_count⟩)
    (c__law_count : PySem.W.codeIn K cd__law_count "_law_count" = true)
    (k__law_count : PySem.W.keepIn K (.ref f__law_count) = true)
    (a__law_times : PySem.W.nsIn K mainGlobals "_law_times" = some (some (.ref f__law_times)))
    (l__law_times : K.lookup f__law_times = some ⟨oc__law_times, od__law_times, .func (PySem.W.fnOf "_law_times" "_law_times" (defArgs s__law_times) (defBody s__law_times) (defScope s__law_times) .none kV__law_times dc__law_times pm__law_times an__law_times cd__law_times ct__law_times), sl__law_times⟩)
    (c__law_times : PySem.W.codeIn K cd__law_times "_law_times" = true)
    (k__law_times : PySem.W.keepIn K (.ref f__law_times) = true)
    (a__law_paths : PySem.W.nsIn K mainGlobals "_law_paths" = some (some (.ref f__law_paths)))
    (l__law_paths : K.lookup f__law_paths = some ⟨oc__law_paths, od__law_paths, .func (PySem.W.fnOf "_law_paths" "_law_paths" (defArgs s__law_paths) (defBody s__law_paths) (defScope s__law_paths) .none kV__law_paths dc__law_paths pm__law_paths an__law_paths cd__law_paths ct__law_paths), sl__law_paths⟩)
    (c__law_paths : PySem.W.codeIn K cd__law_paths "_law_paths" = true)
    (k__law_paths : PySem.W.keepIn K (.ref f__law_paths) = true)
    (a__law_parts : PySem.W.nsIn K mainGlobals "_law_parts" = some (some (.ref f__law_parts)))
    (l__law_parts : K.lookup f__law_parts = some ⟨oc__law_parts, od__law_parts, .func (PySem.W.fnOf "_law_parts" "_law_parts" (defArgs s__law_parts) (defBody s__law_parts) (defScope s__law_parts) .none kV__law_parts dc__law_parts pm__law_parts an__law_parts cd__law_parts ct__law_parts), sl__law_parts⟩)
    (c__law_parts : PySem.W.codeIn K cd__law_parts "_law_parts" = true)
    (k__law_parts : PySem.W.keepIn K (.ref f__law_parts) = true)
    (a__law_made : PySem.W.nsIn K mainGlobals "_law_made" = some (some (.ref f__law_made)))
    (l__law_made : K.lookup f__law_made = some ⟨oc__law_made, od__law_made, .func (PySem.W.fnOf "_law_made" "_law_made" (defArgs s__law_made) (defBody s__law_made) (defScope s__law_made) .none kV__law_made dc__law_made pm__law_made an__law_made cd__law_made ct__law_made), sl__law_made⟩)
    (c__law_made : PySem.W.codeIn K cd__law_made "_law_made" = true)
    (k__law_made : PySem.W.keepIn K (.ref f__law_made) = true)
    (a__law_frozen : PySem.W.nsIn K mainGlobals "_law_frozen" = some (some (.ref f__law_frozen)))
    (l__law_frozen : K.lookup f__law_frozen = some ⟨oc__law_frozen, od__law_frozen, .func (PySem.W.fnOf "_law_frozen" "_law_frozen" (defArgs s__law_frozen) (defBody s__law_frozen) (defScope s__law_frozen) .none kV__law_frozen dc__law_frozen pm__law_frozen an__law_frozen cd__law_frozen ct__law_frozen), sl__law_frozen⟩)
    (c__law_frozen : PySem.W.codeIn K cd__law_frozen "_law_frozen" = true)
    (k__law_frozen : PySem.W.keepIn K (.ref f__law_frozen) = true)
    (a__law_same : PySem.W.nsIn K mainGlobals "_law_same" = some (some (.ref f__law_same)))
    (l__law_same : K.lookup f__law_same = some ⟨oc__law_same, od__law_same, .func (PySem.W.fnOf "_law_same" "_law_same" (defArgs s__law_same) (defBody s__law_same) (defScope s__law_same) .none kV__law_same dc__law_same pm__law_same an__law_same cd__law_same ct__law_same), sl__law_same⟩)
    (c__law_same : PySem.W.codeIn K cd__law_same "_law_same" = true)
    (k__law_same : PySem.W.keepIn K (.ref f__law_same) = true)
    (a__law_unknown : PySem.W.nsIn K mainGlobals "_law_unknown" = some (some (.ref f__law_unknown)))
    (l__law_unknown : K.lookup f__law_unknown = some ⟨oc__law_unknown, od__law_unknown, .func (PySem.W.fnOf "_law_unknown" "_law_unknown" (defArgs s__law_unknown) (defBody s__law_unknown) (defScope s__law_unknown) .none kV__law_unknown dc__law_unknown pm__law_unknown an__law_unknown cd__law_unknown ct__law_unknown), sl__law_unknown⟩)
    (c__law_unknown : PySem.W.codeIn K cd__law_unknown "_law_unknown" = true)
    (k__law_unknown : PySem.W.keepIn K (.ref f__law_unknown) = true)
    (a__law_is_list : PySem.W.nsIn K mainGlobals "_law_is_list" = some (some (.ref f__law_is_list)))
    (l__law_is_list : K.lookup f__law_is_list = some ⟨oc__law_is_list, od__law_is_list, .func (PySem.W.fnOf "_law_is_list" "_law_is_list" (defArgs s__law_is_list) (defBody s__law_is_list) (defScope s__law_is_list) .none kV__law_is_list dc__law_is_list pm__law_is_list an__law_is_list cd__law_is_list ct__law_is_list), sl__law_is_list⟩)
    (c__law_is_list : PySem.W.codeIn K cd__law_is_list "_law_is_list" = true)
    (k__law_is_list : PySem.W.keepIn K (.ref f__law_is_list) = true)
    (a__law_places : PySem.W.nsIn K mainGlobals "_law_places" = some (some (.ref f__law_places)))
    (l__law_places : K.lookup f__law_places = some ⟨oc__law_places, od__law_places, .func (PySem.W.fnOf "_law_places" "_law_places" (defArgs s__law_places) (defBody s__law_places) (defScope s__law_places) .none kV__law_places dc__law_places pm__law_places an__law_places cd__law_places ct__law_places), sl__law_places⟩)
    (c__law_places : PySem.W.codeIn K cd__law_places "_law_places" = true)
    (k__law_places : PySem.W.keepIn K (.ref f__law_places) = true)
    (a__law_answers : PySem.W.nsIn K mainGlobals "_law_answers" = some (some (.ref f__law_answers)))
    (l__law_answers : K.lookup f__law_answers = some ⟨oc__law_answers, od__law_answers, .func (PySem.W.fnOf "_law_answers" "_law_answers" (defArgs s__law_answers) (defBody s__law_answers) (defScope s__law_answers) .none kV__law_answers dc__law_answers pm__law_answers an__law_answers cd__law_answers ct__law_answers), sl__law_answers⟩)
    (c__law_answers : PySem.W.codeIn K cd__law_answers "_law_answers" = true)
    (k__law_answers : PySem.W.keepIn K (.ref f__law_answers) = true)
    (a_law : PySem.W.nsIn K mainGlobals "law" = some (some (.ref f_law)))
    (l_law : K.lookup f_law = some ⟨oc_law, od_law, .func (PySem.W.fnOf "law" "law" (defArgs s_law) (defBody s_law) (defScope s_law) .none kV_law dc_law pm_law an_law cd_law ct_law), sl_law⟩)
    (c_law : PySem.W.codeIn K cd_law "law" = true)
    (k_law : PySem.W.keepIn K (.ref f_law) = true)
    (z_abs : PySem.W.nsIn K mainGlobals "abs" = some none)
    (z_all : PySem.W.nsIn K mainGlobals "all" = some none)
    (z_int : PySem.W.nsIn K mainGlobals "int" = some none)
    (z_isinstance : PySem.W.nsIn K mainGlobals "isinstance" = some none)
    (z_len : PySem.W.nsIn K mainGlobals "len" = some none)
    (z_list : PySem.W.nsIn K mainGlobals "list" = some none)
    (z_max : PySem.W.nsIn K mainGlobals "max" = some none)
    (z_min : PySem.W.nsIn K mainGlobals "min" = some none)
    (z_range : PySem.W.nsIn K mainGlobals "range" = some none)
    (z_set : PySem.W.nsIn K mainGlobals "set" = some none)
    (z_sorted : PySem.W.nsIn K mainGlobals "sorted" = some none)
    (z_tuple : PySem.W.nsIn K mainGlobals "tuple" = some none)
    (g_DIGITS : PySem.W.nsIn K mainGlobals "DIGITS" = some (some (.str "0123456789" t_DIGITS)))
    (g_LETTERS : PySem.W.nsIn K mainGlobals "LETTERS" = some (some (.str "abcdefghijklmnopqrstuvwxyz" t_LETTERS)))
    (g_LONGEST_NAME : PySem.W.nsIn K mainGlobals "LONGEST_NAME" = some (some (.int 12 t_LONGEST_NAME)))
    (g_MOST_LINKS : PySem.W.nsIn K mainGlobals "MOST_LINKS" = some (some (.int 60 t_MOST_LINKS)))
    (g_MOST_MINUTES : PySem.W.nsIn K mainGlobals "MOST_MINUTES" = some (some (.int 1000 t_MOST_MINUTES)))
    (g_MOST_PATHS : PySem.W.nsIn K mainGlobals "MOST_PATHS" = some (some (.int 60 t_MOST_PATHS)))
    (g_MOST_PLACES : PySem.W.nsIn K mainGlobals "MOST_PLACES" = some (some (.int 24 t_MOST_PLACES)))
    (g_MOST_WINDS : PySem.W.nsIn K mainGlobals "MOST_WINDS" = some (some (.int 4 t_MOST_WINDS)))
    (pg : PySem.W.plainGet K C Str.empty = true)
    (hd : PySem.W.hasDictIn K C = true)
    (po : PySem.W.plainOver K C = true)
    (sa : PySem.W.findIn K (.ref C) "__setattr__" = some (some (.builtin "object.__setattr__")))
    (mk : PySem.W.makesIn K C = true)
    (kc : PySem.W.keepIn K (.ref C) = true)
    (nW : PySem.W.findIn K (.ref C) "winds" = some none)
    (nP : PySem.W.findIn K (.ref C) "places" = some none)
    (nL : PySem.W.findIn K (.ref C) "links" = some none)
    (nA : PySem.W.findIn K (.ref C) "paths" = some none)
    (a_EveryfireError : PySem.W.nsIn K mainGlobals "EveryfireError" = some (some (.ref X_EveryfireError)))
    (a_InvalidLand : PySem.W.nsIn K mainGlobals "InvalidLand" = some (some (.ref X_InvalidLand)))
    (a_UnknownName : PySem.W.nsIn K mainGlobals "UnknownName" = some (some (.ref X_UnknownName)))
    (oc_UnknownName : K.lookup X_UnknownName = some (excClassObj nm_UnknownName q_UnknownName X_UnknownName N_UnknownName bs_UnknownName bm_UnknownName true sn_UnknownName sub_UnknownName ab_UnknownName col_UnknownName dd_UnknownName k0_UnknownName k1_UnknownName k2_UnknownName k3_UnknownName k5_UnknownName "ValueError.__new__"))
    (rv_UnknownName : PySem.HandSPX.refsVE bm_UnknownName = true)
    (sa_UnknownName : PySem.W.findIn K (.ref X_UnknownName) "__setattr__" = some (some (.builtin "object.__setattr__")))
    (b_UnknownName : PySem.W.subIn K (.ref X_UnknownName) (.type "BaseException") = some true)
    (t_UnknownName : PySem.W.typeIn K (.ref X_UnknownName) = some (.type "type"))
    (k_UnknownName : PySem.W.keepIn K (.ref X_UnknownName) = true)
    (i_UnknownName : PySem.W.findIn K (.ref X_UnknownName) "__init__" = some (some (.ref f_UnknownName)))
    (ti_UnknownName : PySem.W.typeIn K (.ref f_UnknownName) = some (.type "function"))
    (l_UnknownName : K.lookup f_UnknownName = some ⟨oc_f_UnknownName, od_f_UnknownName, .func (PySem.W.fnX "__init__" "UnknownName.__init__" (defArgs s_UnknownName) (defBody s_UnknownName) (defScope s_UnknownName) [("__class__", cc_UnknownName)] .none kV_UnknownName dc_UnknownName pm_UnknownName an_UnknownName (.ref cd_UnknownName) ct_UnknownName), sl_f_UnknownName⟩)
    (cI_UnknownName : PySem.W.codeIn K (.ref cd_UnknownName) "UnknownName.__init__" = true)
    (co_UnknownName : K.lookup cd_UnknownName = some ⟨ccl_UnknownName, cdd_UnknownName, .fields cvs_UnknownName, ccs_UnknownName⟩)
    (cv_UnknownName : cvs_UnknownName[2]? = some (.str PySem.Challenge.pw_everyfire_k01_questions.main.file tf_UnknownName))
    (ce_UnknownName : K.lookup cc_UnknownName = some ⟨cl_UnknownName, cld_UnknownName, .cell (some (.ref X_UnknownName)), csl_UnknownName⟩)
    (su_UnknownName : PySem.W.mroIn K X_UnknownName (.ref X_UnknownName) = some true)
    (ve_UnknownName : PySem.W.subIn K (.ref X_UnknownName) (.type "ValueError") = some true)
    (al_UnknownName : PySem.W.ks_superIn K X_UnknownName X_UnknownName "__init__" = some (some (.builtin "ValueError.__init__")))
    (nf_UnknownName : PySem.W.findIn K (.ref X_UnknownName) "name" = some none)
    (opq : PySem.W.nsIn K cStatics "thirdparty.any" = some none)
    (z_super0 : PySem.W.nsIn K mainGlobals "super" = some none)
    (hn0 : PySem.W.specialIn K (.builtin "object.__class__") "__get__" = some (some (.builtin "getset_descriptor.__get__")))
    (ht0 : PySem.W.takesIn K (.builtin "object.__class__") = some true)
    (hg_UnknownName : PySem.W.findIn K (.ref X_UnknownName) "__getattribute__" = some (some (.builtin "BaseException.__getattribute__")))
    (hk_UnknownName : PySem.W.findIn K (.ref X_UnknownName) "__getattr__" = some none)
    (hd_UnknownName : PySem.W.hasDictIn K X_UnknownName = true)
    (ha_UnknownName : PySem.W.findIn K (.ref X_UnknownName) "__class__" = some (some (.builtin "object.__class__")))
    (hm_UnknownName : PySem.W.mroIn K X_UnknownName (.type "object") = some true)
    (kt_UnknownName_EveryfireError : PySem.W.kitOne K (.ref X_UnknownName) (.ref X_EveryfireError) = some true)
    (kt_UnknownName_InvalidLand : PySem.W.kitOne K (.ref X_UnknownName) (.ref X_InvalidLand) = some false)
    (eb_UnknownName : PySem.W.subIn K (.ref X_UnknownName) (.type "BaseException") = some true)
    (et_UnknownName : PySem.W.typeIn K (.ref X_UnknownName) = some (.type "type"))
    (ed_UnknownName : PySem.W.hasDictIn K X_UnknownName = true)
    (es_UnknownName_UnknownName : PySem.W.subIn K (.ref X_UnknownName) (.ref X_UnknownName) = some true)
    (hP : PF l.prog)
    : ∃ fd : FuncData, (∀ (s : Shared) (v : Value), BindsTo s fd ⟨[v], []⟩ [("script", v)]) ∧ ∀ base : Heap, K.In base → base.Ns mainGlobals mg → FnOk l.prog w K mg base CX0 10 fa fd ["script"] (spLaw K) := by
  have e := hfa.symm.trans (PySem.W.mg_of X G a_law)
  cases e
  have F_is_name := fun_mk (st := s_is_name) l_is_name c_is_name k_is_name
  have B_is_name := F_is_name.binds (ps := ["text"]) fun _ _ _ _ _ _ us hl => match us, hl with | [_], _ => rfl
  have F__check_count := fun_mk (st := s__check_count) l__check_count c__check_count k__check_count
  have B__check_count := F__check_count.binds (ps := ["sort", "rows", "least", "most"]) fun _ _ _ _ _ _ us hl => match us, hl with | [_, _, _, _], _ => rfl
  have F__check_names := fun_mk (st := s__check_names) l__check_names c__check_names k__check_names
  have B__check_names := F__check_names.binds (ps := ["sort", "names"]) fun _ _ _ _ _ _ us hl => match us, hl with | [_, _], _ => rfl
  have F__check_ends := fun_mk (st := s__check_ends) l__check_ends c__check_ends k__check_ends
  have B__check_ends := F__check_ends.binds (ps := ["sort", "one", "other", "places"]) fun _ _ _ _ _ _ us hl => match us, hl with | [_, _, _, _], _ => rfl
  have F__as_bounds := fun_mk (st := s__as_bounds) l__as_bounds c__as_bounds k__as_bounds
  have B__as_bounds := F__as_bounds.binds (ps := ["bounds"]) fun _ _ _ _ _ _ us hl => match us, hl with | [_], _ => rfl
  have F__as_link := fun_mk (st := s__as_link) l__as_link c__as_link k__as_link
  have B__as_link := F__as_link.binds (ps := ["link", "winds", "places"]) fun _ _ _ _ _ _ us hl => match us, hl with | [_, _, _], _ => rfl
  have F__as_path := fun_mk (st := s__as_path) l__as_path c__as_path k__as_path
  have B__as_path := F__as_path.binds (ps := ["path", "places"]) fun _ _ _ _ _ _ us hl => match us, hl with | [_, _], _ => rfl
  have F__check_single_paths := fun_mk (st := s__check_single_paths) l__check_single_paths c__check_single_paths k__check_single_paths
  have B__check_single_paths := F__check_single_paths.binds (ps := ["paths"]) fun _ _ _ _ _ _ us hl => match us, hl with | [_], _ => rfl
  have F__is_between := fun_mk (st := s__is_between) l__is_between c__is_between k__is_between
  have B__is_between := F__is_between.binds (ps := ["path", "one", "other"]) fun _ _ _ _ _ _ us hl => match us, hl with | [_, _, _], _ => rfl
  have F_init : FunD K "__init__" "Land.__init__" (defArgs s_init) (defBody s_init) (defScope s_init) [] [("links", .ref tl), ("paths", .ref te)] f_init _ := ⟨⟨_, _, _, _, _, _, _, _, _, _, rfl, l_init, c_init, .inl ⟨rfl, rfl⟩, .inr ⟨D, rfl, fun q hq => by
    rcases List.mem_cons.mp hq with z | z
    · rw [z]; exact ⟨_, tl1, rfl⟩
    · rw [List.mem_singleton.mp z]; exact ⟨_, te1, rfl⟩⟩⟩, k_init⟩
  have F_link_names := fun_mk (st := s_link_names) l_link_names c_link_names k_link_names
  have B_link_names := F_link_names.binds (ps := ["self"]) fun _ _ _ _ _ _ us hl => match us, hl with | [_], _ => rfl
  have F_check_place := fun_mk (st := s_check_place) l_check_place c_check_place k_check_place
  have B_check_place := F_check_place.binds (ps := ["self", "place"]) fun _ _ _ _ _ _ us hl => match us, hl with | [_, _], _ => rfl
  have F_check_wind := fun_mk (st := s_check_wind) l_check_wind c_check_wind k_check_wind
  have B_check_wind := F_check_wind.binds (ps := ["self", "wind"]) fun _ _ _ _ _ _ us hl => match us, hl with | [_, _], _ => rfl
  have F_link := fun_mk (st := s_link) l_link c_link k_link
  have B_link := F_link.binds (ps := ["self", "name"]) fun _ _ _ _ _ _ us hl => match us, hl with | [_, _], _ => rfl
  have F_links_from := fun_mk (st := s_links_from) l_links_from c_links_from k_links_from
  have B_links_from := F_links_from.binds (ps := ["self", "place"]) fun _ _ _ _ _ _ us hl => match us, hl with | [_, _], _ => rfl
  have F_links_to := fun_mk (st := s_links_to) l_links_to c_links_to k_links_to
  have B_links_to := F_links_to.binds (ps := ["self", "place"]) fun _ _ _ _ _ _ us hl => match us, hl with | [_, _], _ => rfl
  have F_bounds := fun_mk (st := s_bounds) l_bounds c_bounds k_bounds
  have B_bounds := F_bounds.binds (ps := ["self", "name", "wind"]) fun _ _ _ _ _ _ us hl => match us, hl with | [_, _, _], _ => rfl
  have F_walks_from := fun_mk (st := s_walks_from) l_walks_from c_walks_from k_walks_from
  have B_walks_from := F_walks_from.binds (ps := ["self", "place"]) fun _ _ _ _ _ _ us hl => match us, hl with | [_, _], _ => rfl
  have F_minutes_between := fun_mk (st := s_minutes_between) l_minutes_between c_minutes_between k_minutes_between
  have B_minutes_between := F_minutes_between.binds (ps := ["self", "one", "other"]) fun _ _ _ _ _ _ us hl => match us, hl with | [_, _, _], _ => rfl
  have F__law_row := fun_mk (st := s__law_row) l__law_row c__law_row k__law_row
  have B__law_row := F__law_row.binds (ps := ["cell", "many"]) fun _ _ _ _ _ _ us hl => match us, hl with | [_, _], _ => rfl
  have F__law_numbers := fun_mk (st := s__law_numbers) l__law_numbers c__law_numbers k__law_numbers
  have B__law_numbers := F__law_numbers.binds (ps := ["script", "many"]) fun _ _ _ _ _ _ us hl => match us, hl with | [_, _], _ => rfl
  have F__law_pick := fun_mk (st := s__law_pick) l__law_pick c__law_pick k__law_pick
  have B__law_pick := F__law_pick.binds (ps := ["numbers", "k"]) fun _ _ _ _ _ _ us hl => match us, hl with | [_, _], _ => rfl
  have F__law_names := fun_mk (st := s__law_names) l__law_names c__law_names k__law_names
  have B__law_names := F__law_names.binds (ps := ["numbers", "at", "many"]) fun _ _ _ _ _ _ us hl => match us, hl with | [_, _, _], _ => rfl
  have F__law_count := fun_mk (st := s__law_count) l__law_count c__law_count k__law_count
  have B__law_count := F__law_count.binds (ps := ["number", "least", "most"]) fun _ _ _ _ _ _ us hl => match us, hl with | [_, _, _], _ => rfl
  have F__law_times := fun_mk (st := s__law_times) l__law_times c__law_times k__law_times
  have B__law_times := F__law_times.binds (ps := ["numbers", "k", "many"]) fun _ _ _ _ _ _ us hl => match us, hl with | [_, _, _], _ => rfl
  have F__law_paths := fun_mk (st := s__law_paths) l__law_paths c__law_paths k__law_paths
  have B__law_paths := F__law_paths.binds (ps := ["numbers", "k", "places", "many"]) fun _ _ _ _ _ _ us hl => match us, hl with | [_, _, _, _], _ => rfl
  have F__law_parts := fun_mk (st := s__law_parts) l__law_parts c__law_parts k__law_parts
  have B__law_parts := F__law_parts.binds (ps := ["numbers"]) fun _ _ _ _ _ _ us hl => match us, hl with | [_], _ => rfl
  have F__law_made := fun_mk (st := s__law_made) l__law_made c__law_made k__law_made
  have B__law_made := F__law_made.binds (ps := ["parts"]) fun _ _ _ _ _ _ us hl => match us, hl with | [_], _ => rfl
  have F__law_frozen := fun_mk (st := s__law_frozen) l__law_frozen c__law_frozen k__law_frozen
  have B__law_frozen := F__law_frozen.binds (ps := ["parts"]) fun _ _ _ _ _ _ us hl => match us, hl with | [_], _ => rfl
  have F__law_same := fun_mk (st := s__law_same) l__law_same c__law_same k__law_same
  have B__law_same := F__law_same.binds (ps := ["land", "due"]) fun _ _ _ _ _ _ us hl => match us, hl with | [_, _], _ => rfl
  have F__law_unknown := fun_mk (st := s__law_unknown) l__law_unknown c__law_unknown k__law_unknown
  have B__law_unknown := F__law_unknown.binds (ps := ["land", "deed", "first", "second"]) fun _ _ _ _ _ _ us hl => match us, hl with | [_, _, _, _], _ => rfl
  have F__law_is_list := fun_mk (st := s__law_is_list) l__law_is_list c__law_is_list k__law_is_list
  have B__law_is_list := F__law_is_list.binds (ps := ["actual", "due"]) fun _ _ _ _ _ _ us hl => match us, hl with | [_, _], _ => rfl
  have F__law_places := fun_mk (st := s__law_places) l__law_places c__law_places k__law_places
  have B__law_places := F__law_places.binds (ps := ["land", "due"]) fun _ _ _ _ _ _ us hl => match us, hl with | [_, _], _ => rfl
  have F__law_answers := fun_mk (st := s__law_answers) l__law_answers c__law_answers k__law_answers
  have B__law_answers := F__law_answers.binds (ps := ["land", "due", "numbers"]) fun _ _ _ _ _ _ us hl => match us, hl with | [_, _, _], _ => rfl
  have F_law := fun_mk (st := s_law) l_law c_law k_law
  have B_law := F_law.binds (ps := ["script"]) fun _ _ _ _ _ _ us hl => match us, hl with | [_], _ => rfl
  have oex_UnknownName : OexC K X_UnknownName := ⟨⟨_, _, _, _, _, _, _, _, _, _, _, _, _, _, _, oc_UnknownName, rv_UnknownName⟩, sa_UnknownName, b_UnknownName, t_UnknownName, k_UnknownName⟩
  have sc_UnknownName : NdefX.NScope ["self", "name", "__class__"] ["self", "name"] ["__class__"] (defScope s_UnknownName) := NdefX.nscope_by (by decide +kernel)
  have S_UnknownName : ∀ {P : Program}, PF P → SupX.SupC P K mg X_UnknownName f_UnknownName cc_UnknownName cd_UnknownName "__init__" "UnknownName.__init__" "name" (defArgs s_UnknownName) (defBody s_UnknownName) (defScope s_UnknownName) _ := fun {P} hp => ⟨⟨_, _, _, _, _, _, _, _, _, rfl, l_UnknownName⟩, cI_UnknownName, ⟨_, _, _, _, _, _, co_UnknownName, cv_UnknownName, hp.file⟩, ⟨_, _, _, ce_UnknownName⟩, sc_UnknownName, ⟨_, rfl, rfl⟩, rfl, oex_UnknownName, (by unfold PySem.W.clsIn; rw [oc_UnknownName]; exact ⟨_, rfl⟩), su_UnknownName, ve_UnknownName, al_UnknownName, opq, PySem.W.mg_none_of X G z_super0, hp.top⟩
  have B_UnknownName : Binds K (PySem.W.fnX "__init__" "UnknownName.__init__" (defArgs s_UnknownName) (defBody s_UnknownName) (defScope s_UnknownName) [("__class__", cc_UnknownName)] .none kV_UnknownName dc_UnknownName pm_UnknownName an_UnknownName (.ref cd_UnknownName) ct_UnknownName) ["self", "name"] [] := .all fun us hl => match us, hl with | [_, _], _ => rfl
  have T : Txt K mg { C := C, tl := tl, te := te, pr := pr, f_is_name := f_is_name, d_is_name := _, f__check_count := f__check_count, d__check_count := _, f__check_names := f__check_names, d__check_names := _, f__check_ends := f__check_ends, d__check_ends := _, f__as_bounds := f__as_bounds, d__as_bounds := _, f__as_link := f__as_link, d__as_link := _, f__as_path := f__as_path, d__as_path := _, f__check_single_paths := f__check_single_paths, d__check_single_paths := _, f__is_between := f__is_between, d__is_between := _, f_init := f_init, d_init := _, f_link_names := f_link_names, d_link_names := _, f_check_place := f_check_place, d_check_place := _, f_check_wind := f_check_wind, d_check_wind := _, f_link := f_link, d_link := _, f_links_from := f_links_from, d_links_from := _, f_links_to := f_links_to, d_links_to := _, f_bounds := f_bounds, d_bounds := _, f_walks_from := f_walks_from, d_walks_from := _, f_minutes_between := f_minutes_between, d_minutes_between := _, f__law_row := f__law_row, d__law_row := _, f__law_numbers := f__law_numbers, d__law_numbers := _, f__law_pick := f__law_pick, d__law_pick := _, f__law_names := f__law_names, d__law_names := _, f__law_count := f__law_count, d__law_count := _, f__law_times := f__law_times, d__law_times := _, f__law_paths := f__law_paths, d__law_paths := _, f__law_parts := f__law_parts, d__law_parts := _, f__law_made := f__law_made, d__law_made := _, f__law_frozen := f__law_frozen, d__law_frozen := _, f__law_same := f__law_same, d__law_same := _, f__law_unknown := f__law_unknown, d__law_unknown := _, f__law_is_list := f__law_is_list, d__law_is_list := _, f__law_places := f__law_places, d__law_places := _, f__law_answers := f__law_answers, d__law_answers := _, f_law := fa, d_law := _, X_EveryfireError := X_EveryfireError, X_InvalidLand := X_InvalidLand, X_UnknownName := X_UnknownName, f_UnknownName := f_UnknownName, d_UnknownName := _, cc_UnknownName := cc_UnknownName, cd_UnknownName := cd_UnknownName } := {
    F_is_name := F_is_name
    B_is_name := B_is_name
    k_is_name := k_is_name
    g_is_name := PySem.W.mg_of X G a_is_name
    F__check_count := F__check_count
    B__check_count := B__check_count
    k__check_count := k__check_count
    g__check_count := PySem.W.mg_of X G a__check_count
    F__check_names := F__check_names
    B__check_names := B__check_names
    k__check_names := k__check_names
    g__check_names := PySem.W.mg_of X G a__check_names
    F__check_ends := F__check_ends
    B__check_ends := B__check_ends
    k__check_ends := k__check_ends
    g__check_ends := PySem.W.mg_of X G a__check_ends
    F__as_bounds := F__as_bounds
    B__as_bounds := B__as_bounds
    k__as_bounds := k__as_bounds
    g__as_bounds := PySem.W.mg_of X G a__as_bounds
    F__as_link := F__as_link
    B__as_link := B__as_link
    k__as_link := k__as_link
    g__as_link := PySem.W.mg_of X G a__as_link
    F__as_path := F__as_path
    B__as_path := B__as_path
    k__as_path := k__as_path
    g__as_path := PySem.W.mg_of X G a__as_path
    F__check_single_paths := F__check_single_paths
    B__check_single_paths := B__check_single_paths
    k__check_single_paths := k__check_single_paths
    g__check_single_paths := PySem.W.mg_of X G a__check_single_paths
    F__is_between := F__is_between
    B__is_between := B__is_between
    k__is_between := k__is_between
    g__is_between := PySem.W.mg_of X G a__is_between
    F_init := F_init
    F_link_names := F_link_names
    B_link_names := B_link_names
    k_link_names := k_link_names
    F_check_place := F_check_place
    B_check_place := B_check_place
    k_check_place := k_check_place
    m_check_place := ⟨a_check_place, i_check_place, k_check_place⟩
    F_check_wind := F_check_wind
    B_check_wind := B_check_wind
    k_check_wind := k_check_wind
    m_check_wind := ⟨a_check_wind, i_check_wind, k_check_wind⟩
    F_link := F_link
    B_link := B_link
    k_link := k_link
    m_link := ⟨a_link, i_link, k_link⟩
    F_links_from := F_links_from
    B_links_from := B_links_from
    k_links_from := k_links_from
    m_links_from := ⟨a_links_from, i_links_from, k_links_from⟩
    F_links_to := F_links_to
    B_links_to := B_links_to
    k_links_to := k_links_to
    m_links_to := ⟨a_links_to, i_links_to, k_links_to⟩
    F_bounds := F_bounds
    B_bounds := B_bounds
    k_bounds := k_bounds
    m_bounds := ⟨a_bounds, i_bounds, k_bounds⟩
    F_walks_from := F_walks_from
    B_walks_from := B_walks_from
    k_walks_from := k_walks_from
    m_walks_from := ⟨a_walks_from, i_walks_from, k_walks_from⟩
    F_minutes_between := F_minutes_between
    B_minutes_between := B_minutes_between
    k_minutes_between := k_minutes_between
    m_minutes_between := ⟨a_minutes_between, i_minutes_between, k_minutes_between⟩
    F__law_row := F__law_row
    B__law_row := B__law_row
    k__law_row := k__law_row
    g__law_row := PySem.W.mg_of X G a__law_row
    F__law_numbers := F__law_numbers
    B__law_numbers := B__law_numbers
    k__law_numbers := k__law_numbers
    g__law_numbers := PySem.W.mg_of X G a__law_numbers
    F__law_pick := F__law_pick
    B__law_pick := B__law_pick
    k__law_pick := k__law_pick
    g__law_pick := PySem.W.mg_of X G a__law_pick
    F__law_names := F__law_names
    B__law_names := B__law_names
    k__law_names := k__law_names
    g__law_names := PySem.W.mg_of X G a__law_names
    F__law_count := F__law_count
    B__law_count := B__law_count
    k__law_count := k__law_count
    g__law_count := PySem.W.mg_of X G a__law_count
    F__law_times := F__law_times
    B__law_times := B__law_times
    k__law_times := k__law_times
    g__law_times := PySem.W.mg_of X G a__law_times
    F__law_paths := F__law_paths
    B__law_paths := B__law_paths
    k__law_paths := k__law_paths
    g__law_paths := PySem.W.mg_of X G a__law_paths
    F__law_parts := F__law_parts
    B__law_parts := B__law_parts
    k__law_parts := k__law_parts
    g__law_parts := PySem.W.mg_of X G a__law_parts
    F__law_made := F__law_made
    B__law_made := B__law_made
    k__law_made := k__law_made
    g__law_made := PySem.W.mg_of X G a__law_made
    F__law_frozen := F__law_frozen
    B__law_frozen := B__law_frozen
    k__law_frozen := k__law_frozen
    g__law_frozen := PySem.W.mg_of X G a__law_frozen
    F__law_same := F__law_same
    B__law_same := B__law_same
    k__law_same := k__law_same
    g__law_same := PySem.W.mg_of X G a__law_same
    F__law_unknown := F__law_unknown
    B__law_unknown := B__law_unknown
    k__law_unknown := k__law_unknown
    g__law_unknown := PySem.W.mg_of X G a__law_unknown
    F__law_is_list := F__law_is_list
    B__law_is_list := B__law_is_list
    k__law_is_list := k__law_is_list
    g__law_is_list := PySem.W.mg_of X G a__law_is_list
    F__law_places := F__law_places
    B__law_places := B__law_places
    k__law_places := k__law_places
    g__law_places := PySem.W.mg_of X G a__law_places
    F__law_answers := F__law_answers
    B__law_answers := B__law_answers
    k__law_answers := k__law_answers
    g__law_answers := PySem.W.mg_of X G a__law_answers
    F_law := F_law
    B_law := B_law
    k_law := k_law
    g_law := PySem.W.mg_of X G a_law
    z_abs := PySem.W.mg_none_of X G z_abs
    z_all := PySem.W.mg_none_of X G z_all
    z_int := PySem.W.mg_none_of X G z_int
    z_isinstance := PySem.W.mg_none_of X G z_isinstance
    z_len := PySem.W.mg_none_of X G z_len
    z_list := PySem.W.mg_none_of X G z_list
    z_max := PySem.W.mg_none_of X G z_max
    z_min := PySem.W.mg_none_of X G z_min
    z_range := PySem.W.mg_none_of X G z_range
    z_set := PySem.W.mg_none_of X G z_set
    z_sorted := PySem.W.mg_none_of X G z_sorted
    z_tuple := PySem.W.mg_none_of X G z_tuple
    c_DIGITS := ⟨_, PySem.W.mg_of X G g_DIGITS⟩
    c_LETTERS := ⟨_, PySem.W.mg_of X G g_LETTERS⟩
    c_LONGEST_NAME := ⟨_, PySem.W.mg_of X G g_LONGEST_NAME⟩
    c_MOST_LINKS := ⟨_, PySem.W.mg_of X G g_MOST_LINKS⟩
    c_MOST_MINUTES := ⟨_, PySem.W.mg_of X G g_MOST_MINUTES⟩
    c_MOST_PATHS := ⟨_, PySem.W.mg_of X G g_MOST_PATHS⟩
    c_MOST_PLACES := ⟨_, PySem.W.mg_of X G g_MOST_PLACES⟩
    c_MOST_WINDS := ⟨_, PySem.W.mg_of X G g_MOST_WINDS⟩
    cl := ⟨pg, hd, po, sa⟩
    mk_Land := ⟨mk, a_init, i_init, kc⟩
    g_Land := PySem.W.mg_of X G aC
    nW := nW
    nP := nP
    nL := nL
    nA := nA
    p_link_names := ⟨pr1, pr2, pr3, ⟨_, pr4⟩⟩
    tlT := fun H => .inr ⟨_, #[], _, tl2, rfl, rfl, Nat.zero_le _, .nil⟩
    teT := fun H => .inr ⟨_, #[], _, te2, rfl, rfl, Nat.zero_le _, .nil⟩
    g_EveryfireError := PySem.W.mg_of X G a_EveryfireError
    g_InvalidLand := PySem.W.mg_of X G a_InvalidLand
    g_UnknownName := PySem.W.mg_of X G a_UnknownName
    o_UnknownName := oex_UnknownName
    i_UnknownName := i_UnknownName
    ti_UnknownName := ti_UnknownName
    B_UnknownName := B_UnknownName
    S_UnknownName := S_UnknownName
    xf_UnknownName := ⟨hg_UnknownName, hk_UnknownName, b_UnknownName, hd_UnknownName⟩
    nf_UnknownName := nf_UnknownName
    ec_UnknownName := ⟨hg_UnknownName, hk_UnknownName, b_UnknownName, hd_UnknownName, ha_UnknownName, hn0, ht0, hm_UnknownName⟩
    kt_UnknownName_EveryfireError := kt_UnknownName_EveryfireError
    kt_UnknownName_InvalidLand := kt_UnknownName_InvalidLand
    em_UnknownName_UnknownName := PySem.W.exm_ref eb_UnknownName ed_UnknownName et_UnknownName es_UnknownName_UnknownName }
  exact ⟨_, fun s v => .of_eq rfl, fun base _ _ => G_law T hP⟩
theorem walk {l : PySem.W.OpenLaw} {q : Program} {loose : List Str} {XP : (Str → Option Value) → Heap → Prop} {YP : World → Heap → Prop} {d : DefRec} {K : Params → PySem.W.Frag} (hn : l.most = some 63) (hdf : d.params.defaults = [])
    (hY : ∀ (w : World) (h : Heap), YP w h → (K w.params).In h)
    (F : ∀ (w : World) (mg : Str → Option Value) (fa : Addr) (h : Heap), (K w.params).In h → h.Ns mainGlobals mg → mg d.name = some (.ref fa) →
      ∃ fd : FuncData, (∀ (s : Shared) (u : Value), BindsTo s fd ⟨[u], []⟩ [("script", u)]) ∧ ∀ base : Heap, (K w.params).In base → base.Ns mainGlobals mg → FnOk l.prog w (K w.params) mg base CX0 10 fa fd ["script"] (spLaw (K w.params))) :
    PySem.W.WalkO q loose XP YP l.row.toRowW d [] (fun f vs => PySem.call f vs) :=
  L2.walk_of (n := 63) (k := 10) (x := "script") (CX := fun _ => CX0) (sp := fun w => spLaw (K w.params)) hn (by decide) hdf ⟨rfl, by decide, by decide⟩ hY F (fun _ _ a ns hl _ hS => ⟨a, ns, rfl, hS, fun _ => rfl⟩) fun _ _ _ _ _ z => z
end EV
open PySem PySem.W PyProof.Rows in
set_option maxRecDepth 100000 in
set_option maxHeartbeats 0 in
theorem PySem.Challenge.cw_everyfire_k01_questions_holds : PySem.Challenge.rw_everyfire_k01_questions.Holds := by
  w_on; o_law; k_head; (case hw => w_witness2)
  k_fill
  refine EV.walk (l := PySem.Challenge.rw_everyfire_k01_questions) rfl rfl (fun w h Y => PySem.W.kIn_of Y) ?F
  case F =>
    intro w mg fa h KX G hmg
    refine' EV.all_mk KX G hmg ?aC ?a_is_name ?l_is_name ?c_is_name ?k_is_name ?a__check_count ?l__check_count ?c__check_count ?k__check_count ?a__check_names ?l__check_names ?c__check_names ?k__check_names ?a__check_ends ?l__check_ends ?c__check_ends ?k__check_ends ?a__as_bounds ?l__as_bounds ?c__as_bounds ?k__as_bounds ?a__as_link ?l__as_link ?c__as_link ?k__as_link ?a__as_path ?l__as_path ?c__as_path ?k__as_path ?a__check_single_paths ?l__check_single_paths ?c__check_single_paths ?k__check_single_paths ?a__is_between ?l__is_between ?c__is_between ?k__is_between ?a_init ?i_init ?l_init ?c_init ?k_init ?tl1 ?te1 ?tl2 ?te2 ?pr1 ?pr2 ?pr3 ?pr4 ?l_link_names ?c_link_names ?k_link_names ?a_check_place ?i_check_place ?l_check_place ?c_check_place ?k_check_place ?a_check_wind ?i_check_wind ?l_check_wind ?c_check_wind ?k_check_wind ?a_link ?i_link ?l_link ?c_link ?k_link ?a_links_from ?i_links_from ?l_links_from ?c_links_from ?k_links_from ?a_links_to ?i_links_to ?l_links_to ?c_links_to ?k_links_to ?a_bounds ?i_bounds ?l_bounds ?c_bounds ?k_bounds ?a_walks_from ?i_walks_from ?l_walks_from ?c_walks_from ?k_walks_from ?a_minutes_between ?i_minutes_between ?l_minutes_between ?c_minutes_between ?k_minutes_between ?a__law_row ?l__law_row ?c__law_row ?k__law_row ?a__law_numbers ?l__law_numbers ?c__law_numbers ?k__law_numbers ?a__law_pick ?l__law_pick ?c__law_pick ?k__law_pick ?a__law_names ?l__law_names ?c__law_names ?k__law_names ?a__law_count ?l__law_count ?c__law_count ?k__law_count ?a__law_times ?l__law_times ?c__law_times ?k__law_times ?a__law_paths ?l__law_paths ?c__law_paths ?k__law_paths ?a__law_parts ?l__law_parts ?c__law_parts ?k__law_parts ?a__law_made ?l__law_made ?c__law_made ?k__law_made ?a__law_frozen ?l__law_frozen ?c__law_frozen ?k__law_frozen ?a__law_same ?l__law_same ?c__law_same ?k__law_same ?a__law_unknown ?l__law_unknown ?c__law_unknown ?k__law_unknown ?a__law_is_list ?l__law_is_list ?c__law_is_list ?k__law_is_list ?a__law_places ?l__law_places ?c__law_places ?k__law_places ?a__law_answers ?l__law_answers ?c__law_answers ?k__law_answers ?a_law ?l_law ?c_law ?k_law ?z_abs ?z_all ?z_int ?z_isinstance ?z_len ?z_list ?z_max ?z_min ?z_range ?z_set ?z_sorted ?z_tuple ?g_DIGITS ?g_LETTERS ?g_LONGEST_NAME ?g_MOST_LINKS ?g_MOST_MINUTES ?g_MOST_PATHS ?g_MOST_PLACES ?g_MOST_WINDS ?pg ?hd ?po ?sa ?mk ?kc ?nW ?nP ?nL ?nA ?a_EveryfireError ?a_InvalidLand ?a_UnknownName ?oc_UnknownName ?rv_UnknownName ?sa_UnknownName ?b_UnknownName ?t_UnknownName ?k_UnknownName ?i_UnknownName ?ti_UnknownName ?l_UnknownName ?cI_UnknownName ?co_UnknownName ?cv_UnknownName ?ce_UnknownName ?su_UnknownName ?ve_UnknownName ?al_UnknownName ?nf_UnknownName ?opq ?z_super0 ?hn0 ?ht0 ?hg_UnknownName ?hk_UnknownName ?hd_UnknownName ?ha_UnknownName ?hm_UnknownName ?kt_UnknownName_EveryfireError ?kt_UnknownName_InvalidLand ?eb_UnknownName ?et_UnknownName ?ed_UnknownName ?es_UnknownName_UnknownName ?hP
    (case aC => k_is)
    (case a_is_name => k_is)
    (case l_is_name => k_is)
    (case c_is_name => k_is)
    (case k_is_name => k_is)
    (case a__check_count => k_is)
    (case l__check_count => k_is)
    (case c__check_count => k_is)
    (case k__check_count => k_is)
    (case a__check_names => k_is)
    (case l__check_names => k_is)
    (case c__check_names => k_is)
    (case k__check_names => k_is)
    (case a__check_ends => k_is)
    (case l__check_ends => k_is)
    (case c__check_ends => k_is)
    (case k__check_ends => k_is)
    (case a__as_bounds => k_is)
    (case l__as_bounds => k_is)
    (case c__as_bounds => k_is)
    (case k__as_bounds => k_is)
    (case a__as_link => k_is)
    (case l__as_link => k_is)
    (case c__as_link => k_is)
    (case k__as_link => k_is)
    (case a__as_path => k_is)
    (case l__as_path => k_is)
    (case c__as_path => k_is)
    (case k__as_path => k_is)
    (case a__check_single_paths => k_is)
    (case l__check_single_paths => k_is)
    (case c__check_single_paths => k_is)
    (case k__check_single_paths => k_is)
    (case a__is_between => k_is)
    (case l__is_between => k_is)
    (case c__is_between => k_is)
    (case k__is_between => k_is)
    (case a_init => k_is)
    (case i_init => k_is)
    (case l_init => k_is)
    (case c_init => k_is)
    (case k_init => k_is)
    (case tl1 => k_is)
    (case te1 => k_is)
    (case tl2 => k_is)
    (case te2 => k_is)
    (case pr1 => k_is)
    (case pr2 => k_is)
    (case pr3 => k_is)
    (case pr4 => k_is)
    (case l_link_names => k_is)
    (case c_link_names => k_is)
    (case k_link_names => k_is)
    (case a_check_place => k_is)
    (case i_check_place => k_is)
    (case l_check_place => k_is)
    (case c_check_place => k_is)
    (case k_check_place => k_is)
    (case a_check_wind => k_is)
    (case i_check_wind => k_is)
    (case l_check_wind => k_is)
    (case c_check_wind => k_is)
    (case k_check_wind => k_is)
    (case a_link => k_is)
    (case i_link => k_is)
    (case l_link => k_is)
    (case c_link => k_is)
    (case k_link => k_is)
    (case a_links_from => k_is)
    (case i_links_from => k_is)
    (case l_links_from => k_is)
    (case c_links_from => k_is)
    (case k_links_from => k_is)
    (case a_links_to => k_is)
    (case i_links_to => k_is)
    (case l_links_to => k_is)
    (case c_links_to => k_is)
    (case k_links_to => k_is)
    (case a_bounds => k_is)
    (case i_bounds => k_is)
    (case l_bounds => k_is)
    (case c_bounds => k_is)
    (case k_bounds => k_is)
    (case a_walks_from => k_is)
    (case i_walks_from => k_is)
    (case l_walks_from => k_is)
    (case c_walks_from => k_is)
    (case k_walks_from => k_is)
    (case a_minutes_between => k_is)
    (case i_minutes_between => k_is)
    (case l_minutes_between => k_is)
    (case c_minutes_between => k_is)
    (case k_minutes_between => k_is)
    (case a__law_row => k_is)
    (case l__law_row => k_is)
    (case c__law_row => k_is)
    (case k__law_row => k_is)
    (case a__law_numbers => k_is)
    (case l__law_numbers => k_is)
    (case c__law_numbers => k_is)
    (case k__law_numbers => k_is)
    (case a__law_pick => k_is)
    (case l__law_pick => k_is)
    (case c__law_pick => k_is)
    (case k__law_pick => k_is)
    (case a__law_names => k_is)
    (case l__law_names => k_is)
    (case c__law_names => k_is)
    (case k__law_names => k_is)
    (case a__law_count => k_is)
    (case l__law_count => k_is)
    (case c__law_count => k_is)
    (case k__law_count => k_is)
    (case a__law_times => k_is)
    (case l__law_times => k_is)
    (case c__law_times => k_is)
    (case k__law_times => k_is)
    (case a__law_paths => k_is)
    (case l__law_paths => k_is)
    (case c__law_paths => k_is)
    (case k__law_paths => k_is)
    (case a__law_parts => k_is)
    (case l__law_parts => k_is)
    (case c__law_parts => k_is)
    (case k__law_parts => k_is)
    (case a__law_made => k_is)
    (case l__law_made => k_is)
    (case c__law_made => k_is)
    (case k__law_made => k_is)
    (case a__law_frozen => k_is)
    (case l__law_frozen => k_is)
    (case c__law_frozen => k_is)
    (case k__law_frozen => k_is)
    (case a__law_same => k_is)
    (case l__law_same => k_is)
    (case c__law_same => k_is)
    (case k__law_same => k_is)
    (case a__law_unknown => k_is)
    (case l__law_unknown => k_is)
    (case c__law_unknown => k_is)
    (case k__law_unknown => k_is)
    (case a__law_is_list => k_is)
    (case l__law_is_list => k_is)
    (case c__law_is_list => k_is)
    (case k__law_is_list => k_is)
    (case a__law_places => k_is)
    (case l__law_places => k_is)
    (case c__law_places => k_is)
    (case k__law_places => k_is)
    (case a__law_answers => k_is)
    (case l__law_answers => k_is)
    (case c__law_answers => k_is)
    (case k__law_answers => k_is)
    (case a_law => k_is)
    (case l_law => k_is)
    (case c_law => k_is)
    (case k_law => k_is)
    (case z_abs => k_is)
    (case z_all => k_is)
    (case z_int => k_is)
    (case z_isinstance => k_is)
    (case z_len => k_is)
    (case z_list => k_is)
    (case z_max => k_is)
    (case z_min => k_is)
    (case z_range => k_is)
    (case z_set => k_is)
    (case z_sorted => k_is)
    (case z_tuple => k_is)
    (case g_DIGITS => k_is)
    (case g_LETTERS => k_is)
    (case g_LONGEST_NAME => k_is)
    (case g_MOST_LINKS => k_is)
    (case g_MOST_MINUTES => k_is)
    (case g_MOST_PATHS => k_is)
    (case g_MOST_PLACES => k_is)
    (case g_MOST_WINDS => k_is)
    (case pg => k_is)
    (case hd => k_is)
    (case po => k_is)
    (case sa => k_is)
    (case mk => k_is)
    (case kc => k_is)
    (case nW => k_is)
    (case nP => k_is)
    (case nL => k_is)
    (case nA => k_is)
    (case a_EveryfireError => k_is)
    (case a_InvalidLand => k_is)
    (case a_UnknownName => k_is)
    (case oc_UnknownName => k_is)
    (case rv_UnknownName => decide +kernel)
    (case sa_UnknownName => k_is)
    (case b_UnknownName => k_is)
    (case t_UnknownName => k_is)
    (case k_UnknownName => k_is)
    (case i_UnknownName => k_is)
    (case ti_UnknownName => k_is)
    (case l_UnknownName => k_is)
    (case cI_UnknownName => k_is)
    (case co_UnknownName => k_is)
    (case cv_UnknownName => rfl)
    (case ce_UnknownName => k_is)
    (case su_UnknownName => k_is)
    (case ve_UnknownName => k_is)
    (case al_UnknownName => ks_is)
    (case nf_UnknownName => k_is)
    (case opq => k_is)
    (case z_super0 => k_is)
    (case hn0 => k_is)
    (case ht0 => k_is)
    (case hg_UnknownName => k_is)
    (case hk_UnknownName => k_is)
    (case hd_UnknownName => k_is)
    (case ha_UnknownName => k_is)
    (case hm_UnknownName => k_is)
    (case kt_UnknownName_EveryfireError => kit_is)
    (case kt_UnknownName_InvalidLand => kit_is)
    (case eb_UnknownName => k_is)
    (case et_UnknownName => k_is)
    (case ed_UnknownName => k_is)
    (case es_UnknownName_UnknownName => first | rfl | k_is)
    (case hP => exact ⟨by decide +kernel, by decide +kernel⟩)

