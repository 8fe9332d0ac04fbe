import PyProof.Rows.All
import Wide.All
import OpenK.AllK
import Wide.FinOn
import PyProof.EqAt
import PyProof.EqKinds
import PyProof.TupleCall
import HandS.Base
import HandS.Call
import HandS.List
import HandS.ForMost
import HandS.ForExc
import HandS.RaiseMore
import HandS.FStr
import HandS.MakeKwOnly
import HandS.Property
import HandS.IsInst
import HandS.Evl
import HandS.Deep
import HandS.TupSets
import HandS.SetFor
import KE.KExcSuper
import HandS.ExcInit
import HandS.Nested
import HandS.ExcIs
import HandS.ExcField
import HandS.TryMany
import KE.KExcIs
import KE.RegKIsAll
import KE.RegKSuper
import PySem.Challenge.RW_everyfire_k09_weathers
set_option Elab.async false
set_option linter.all false
set_option maxRecDepth 100000
set_option maxHeartbeats 4000000
/-! len(set(xs)) of any number of texts -/
namespace EvS
open PySem PySem.Spec PyProof.Rows
/-- the different ones, each where it came first -/
def dd {α : Type} [DecidableEq α] : List α → List α → List α
  | acc, [] => acc
  | acc, x :: r => dd (if x ∈ acc then acc else acc ++ [x]) r
theorem dd_len_le {α : Type} [DecidableEq α] : ∀ (l acc : List α), (dd acc l).length ≤ acc.length + l.length
  | [], acc => Nat.le_refl _
  | x :: r, acc => by
    unfold dd
    by_cases h : x ∈ acc
    · rw [if_pos h]
      have := dd_len_le r acc
      simp only [List.length_cons]
      omega
    · rw [if_neg h]
      have := dd_len_le r (acc ++ [x])
      simp only [List.length_cons, List.length_append, List.length_nil] at this ⊢
      omega
theorem dd_len_eq {α : Type} [DecidableEq α] : ∀ (l acc : List α), acc.Nodup → ((dd acc l).length = acc.length + l.length ↔ (acc ++ l).Nodup)
  | [], acc, h => by simp [dd, h]
  | x :: r, acc, h => by
    unfold dd
    by_cases hx : x ∈ acc
    · rw [if_pos hx]
      have h1 := dd_len_le r acc
      constructor
      · intro e
        simp only [List.length_cons] at e
        omega
      · intro e
        have := (List.nodup_append.mp e).2.2 x hx x (List.mem_cons_self ..)
        exact absurd rfl this
    · rw [if_neg hx]
      have hn : (acc ++ [x]).Nodup := by
        rw [List.nodup_append]
        refine ⟨h, by simp, fun a ha b hb => ?_⟩
        rw [List.mem_singleton] at hb
        subst hb
        exact fun e => hx (e ▸ ha)
      have ih := dd_len_eq r (acc ++ [x]) hn
      simp only [List.length_cons, List.length_append, List.length_nil, List.append_assoc, List.singleton_append] at ih ⊢
      rw [← ih]
      omega
theorem dd_snoc {α : Type} [DecidableEq α] (x : α) : ∀ (l acc : List α), dd acc (l ++ [x]) = (if x ∈ dd acc l then dd acc l else dd acc l ++ [x])
  | [], acc => rfl
  | y :: r, acc => by
    show dd _ (r ++ [x]) = _
    rw [dd_snoc x r]
    rfl
section
variable {prog : Program} {w : World} {A : Around} {R : Result → Shared → Prop} {I : Addr} {fp wr : List Addr} {G : Array GenState → Array GenState → Prop} {n : Nat} {P : Nat → Value → Prop} {St : Nat → Shared → Prop}
variable {κ : Type} [DecidableEq κ] {kd : KeyKind prog w κ}
theorem turnK (W : WalksS prog w A.in1 I fp wr G n P St) (S : Addr) (hSf : S ∉ fp) (ks : List κ) (hlen : ks.length = n) (hmax : n < 4000)
    (hat : ∀ i v k, P i v → ks[i]? = some k → kd.is k v = true ∧ v.scannable = true) :
    ∀ (m i : Nat) (s : Shared), n - i = m → i ≤ n → St i s →
      Heap.SetOf kd s.heap S (fun k => decide (k ∈ dd [] (ks.take i))) (dd [] (ks.take i)).length →
      (∀ s', Moved (S :: wr) G s s' → Heap.SetOf kd s'.heap S (fun k => decide (k ∈ dd [] ks)) (dd [] ks).length → R (.ok (.ret .none)) s') →
      codeAny (model prog w) A (.builtin "set.update.loop" ⟨[.ref S, .ref I], []⟩) R s := by
  have nw : S ∉ wr := fun q => hSf (W.sub _ q)
  have up : ∀ c ∈ wr, c ∈ S :: wr := fun c hc => List.mem_cons_of_mem _ hc
  intro m
  induction m with
  | zero =>
    intro i s hm hi hst hS hR
    obtain rfl : i = n := by omega
    refine codeAny_builtin PyProof.Rows.F.entry_set_update_loop ?_
    rw [Around.under_plainId PyProof.Rows.F.plain_set_update_loop _]
    show wpAny _ A.in1 (pyNext (.ref I) >>= _) _ _ s
    refine wpAny_bind (W.done s _ _ hst fun s1 mv => ?_)
    refine wpAny_pure (hR s1 (mv.mono up) ?_)
    rw [← hlen, List.take_length] at hS
    obtain ⟨o, es, ep, t, ho, more⟩ := hS
    exact ⟨o, es, ep, t, mv.heap S _ nw ho, more⟩
  | succ m ih =>
    intro i s hm hi hst hS hR
    have lt : i < n := by omega
    obtain ⟨k0, hk0⟩ : ∃ k, ks[i]? = some k := ⟨ks[i]'(by omega), List.getElem?_eq_getElem (by omega)⟩
    refine codeAny_builtin PyProof.Rows.F.entry_set_update_loop ?_
    rw [Around.under_plainId PyProof.Rows.F.plain_set_update_loop _]
    show wpAny _ A.in1 (pyNext (.ref I) >>= _) _ _ s
    refine wpAny_bind (W.item i s _ _ lt hst fun v s1 hP hst1 mv => ?_)
    obtain ⟨hv, hsc⟩ := hat i v k0 hP hk0
    have hS1 : Heap.SetOf kd s1.heap S (fun k => decide (k ∈ dd [] (ks.take i))) (dd [] (ks.take i)).length := by
      obtain ⟨o, es, ep, t, ho, more⟩ := hS
      exact ⟨o, es, ep, t, mv.heap S _ nw ho, more⟩
    show wpAny _ A.in1 (holding [v] (setAdd S v) >>= _) _ _ s1
    refine wpAny_bind (wpAny_holding ?_)
    unfold setAdd
    refine wpAny_holding ?_
    refine wpAny_bind (kd.pyHash (k := k0) hv ?_)
    have small : (dd [] (ks.take i)).length + 1 < scanBound := by
      have q := dd_len_le (ks.take i) []
      rw [List.length_take, List.length_nil] at q
      unfold scanBound
      omega
    refine wpAny_setAddHashed_of (knd := kd) (s := { s1 with toks := s1.toks + 1 }) hv hsc hS1 small fun h2 sb hS2 => ?_
    have et : ks.take (i + 1) = ks.take i ++ [k0] := by
      rw [List.take_add_one, hk0] <;> rfl
    have hS3 : Heap.SetOf kd h2 S (fun k => decide (k ∈ dd [] (ks.take (i + 1)))) (dd [] (ks.take (i + 1))).length := by
      rw [et, dd_snoc]
      by_cases hin : k0 ∈ dd [] (ks.take i)
      · rw [if_pos hin]
        rw [if_pos (decide_eq_true hin)] at hS2
        have e : (fun k' => decide (k' ∈ dd [] (ks.take i)) || decide (k' = k0)) = fun k => decide (k ∈ dd [] (ks.take i)) := by
          funext k'
          by_cases q : k' = k0
          · subst q
            simp [hin]
          · simp [q]
        rw [e] at hS2
        exact hS2
      · rw [if_neg hin]
        rw [if_neg (by simpa using hin)] at hS2
        have e : (fun k' => decide (k' ∈ dd [] (ks.take i)) || decide (k' = k0)) = fun k => decide (k ∈ dd [] (ks.take i) ++ [k0]) := by
          funext k'
          simp [List.mem_append]
        rw [e] at hS2
        rw [List.length_append]
        exact hS2
    refine wpAny_pure ⟨plainId_quiet PyProof.Rows.F.plain_set_update_loop _, ih (i + 1) _ (by omega) lt (W.frame _ s1 _ _ hst1 (Nat.le_succ _) fun c hc o e => ?_) hS3 fun s3 mv3 hS4 => ?_⟩
    · rw [sb.2 c (fun z : c = S => hSf (by rw [← z]; exact hc))]
      exact e
    · refine hR s3 (Moved.trans W.gtrans ((mv.mono up).then_heap (Nat.le_succ _) fun c o hc e => ?_) mv3) hS4
      rw [sb.2 c (fun z : c = S => hc (by rw [z]; exact List.mem_cons_self))]
      exact e
end
section
variable {prog : Program} {w : World} {A : Around} {E : Value → Shared → Prop} {s : Shared} {κ : Type} [DecidableEq κ] {kd : KeyKind prog w κ}
def blankSet (led : Bool) : Obj := { cls := .type "set", dict := none, data := .set #[] 0 (.fresh 0 0 led) }
/-- set(l), l a list (isT false) or a tuple (isT true) -/
theorem call_setK {l : Addr} {its : Array Value} {ks : List κ} {Q : Value → Shared → Prop} (hA : A.handled = none) (hl : s.heap.IsList l its ∨ s.heap.IsTuple l its)
    (hlen : ks.length = its.size) (hmax : its.size < 4000) (hat : ∀ (i : Nat) (v : Value) (k : κ), its[i]? = some v → ks[i]? = some k → kd.is k v = true ∧ v.scannable = true)
    (h : ∀ (h' : Heap) (tk : Nat), Heap.SetOf kd h' s.heap.objs.size (fun k => decide (k ∈ dd [] ks)) (dd [] ks).length →
      (∀ c o, c < s.heap.objs.size → s.heap.get? c = some o → h'.get? c = some o) → Q (.ref s.heap.objs.size) { s with heap := h', toks := tk }) :
    wpAny (model prog w) A (call (.type "set") [.ref l]) Q E s := by
  obtain ⟨c, tl, hmro⟩ := PySem.F.called_set.mro
  have hmade := PySem.F.called_set.made
  have hsub := PySem.F.called_set.sub
  refine wpAny_call (codeAny_of_tree ?_)
  show wpAny _ _ (callAny (.type "set") _) _ _ _
  refine wpAny_pure ⟨Code.quiet_builtin _ (by decide +kernel), codeAny_builtin PySem.F.entry_type_call ?_⟩
  rw [Around.under_plain (weight_type_call_type "set" [.ref l] []) rfl]
  have h1 := PySem.F.called_set.notType
  have h2 := PySem.F.called_set.canCreate
  have hct := PySem.F.typeCall_set_1 (.ref l)
  repeat (any_goals (first | assumption | wp_step))
  refine codeAny_mono (code_set_new_1 (.ref l) (E := E) (Q₁ := fun b s₁ => ∃ led : Bool, b = .ref s.heap.objs.size ∧ s₁ = { s with heap := s.heap.push (blankSet led) }) fun led => ⟨led, rfl, rfl⟩) fun r s₁ hr => ?_
  cases r with
  | error e => exact hr
  | ok fl =>
    cases fl with
    | ret b =>
      obtain ⟨led, rfl, rfl⟩ := hr
      have hS : (s.heap.push (blankSet led)).get? s.heap.objs.size = some (blankSet led) := Heap.get?_push_size _ rfl
      have hT : Shared.TypeIs { s with heap := s.heap.push (blankSet led) } (.ref s.heap.objs.size) "set" := ⟨_, hS, rfl⟩
      have hli := PySem.F.called_set.init.lookup
      have hbi := PySem.F.called_set.init.bind (.ref s.heap.objs.size)
      repeat (any_goals (first | assumption | wp_step))
      refine codeAny_mono (codeAny_call_builtin (R := wants (fun r s₂ => r = .none ∧ ∃ h' tk, s₂ = { s with heap := h', toks := tk } ∧
          Heap.SetOf kd h' s.heap.objs.size (fun k => decide (k ∈ dd [] ks)) (dd [] ks).length ∧
          (∀ c o, c < s.heap.objs.size → s.heap.get? c = some o → h'.get? c = some o)) E) PySem.F.called_set.init.plain PySem.F.entry_set_init (check_set_init_1 hT ?_)) fun r₂ s₂ hr₂ => ?_
      · have fin : ∀ (s1 : Shared) (I : Addr), I ≠ s.heap.objs.size → s.heap.objs.size < I → Moved [s.heap.objs.size, I] (fun a b => a = b) { s with heap := (s.heap.push (blankSet led)) } s1 → True := fun _ _ _ _ _ => trivial
        clear fin
        rcases hl with hl | hl
        · obtain ⟨ol, hol, hcl, nl, hdl⟩ := hl
          obtain ⟨ocls, odict, odata, oslots⟩ := ol
          simp only at hcl hdl
          subst hcl; subst hdl
          have hol' : (s.heap.push (blankSet led)).get? l = some { cls := .type "list", dict := odict, data := .seq its nl, slots := oslots } := Heap.get?_push_of_some _ hol
          have hsls := PySem.F.sub_list_set
          have hslf := PySem.F.sub_list_frozenset
          have hne : (Value.type "list" == Value.type "dict") = false := by decide
          have hl1 : (s.heap.push (blankSet led)).IsList l its := ⟨_, hol', rfl, nl, rfl⟩
          unfold Builtin.«set.__init__» noKeywords Builtin.Frozenset.updateFrom
          generalize hPI : pyIter = PI
          wp_walk
          subst hPI
          refine wpAny_pyIter_list hl1 ?_
          refine wpAny_bind (wpAny_runValue ?_)
          have hlS : l < s.heap.objs.size := Heap.lt_size hol
          have h3 : A.in1.in1.in1.handled = none := by simp [hA]
          have nI : l ≠ (s.heap.push (blankSet led)).objs.size := by
            rw [Heap.size_push]; exact Nat.ne_of_lt (Nat.lt_succ_of_lt hlS)
          have nS : s.heap.objs.size ∉ [(s.heap.push (blankSet led)).objs.size, l] := by
            rw [Heap.size_push]; simp only [List.mem_cons, List.mem_singleton, List.not_mem_nil, or_false, not_or]
            exact ⟨Nat.ne_of_lt (Nat.lt_succ_self _), Nat.ne_of_gt hlS⟩
          refine turnK (kd := kd) ((Walks.list h3 _ l nI its).toS) s.heap.objs.size nS ks hlen hmax (fun i v k hv hk => hat i v k hv hk) (its.size - 0) 0 _ (by omega) (Nat.zero_le _) ⟨⟨_, Heap.get?_push_size _ rfl, rfl, rfl⟩, (hl1.push _)⟩ ?hS0 ?hR
          case hS0 =>
            have hget : ((s.heap.push (blankSet led)).push { cls := .type "list_iterator", data := .fields #[.ref l, .int 0 0] }).get? s.heap.objs.size = some (blankSet led) := Heap.get?_push_of_some _ hS
            exact PyProof.Rows.SetOf_congr ((PyProof.Rows.setObjOf_fresh (knd := kd) led).setOf hget (by unfold scanBound; omega)) (fun _ => rfl) rfl
          case hR =>
            intro s' mv hS'
            obtain ⟨h', g', d', tk', os'⟩ := s'
            obtain rfl : g' = s.gens := mv.gens
            obtain rfl : d' = s.drawn := mv.drawn
            obtain rfl : os' = s.os := mv.os
            show wpAny _ _ _ _ _ _
            refine wpAny_pure ?_
            show wpAny _ _ (ret Value.none) _ _ _
            refine wpAny_pure ⟨rfl, h', tk', rfl, hS', fun c o hc e => ?_⟩
            have n1 : c ≠ s.heap.objs.size := Nat.ne_of_lt hc
            have n2 : c ≠ (s.heap.push (blankSet led)).objs.size := by
              rw [Heap.size_push]; exact Nat.ne_of_lt (Nat.lt_succ_of_lt hc)
            exact mv.heap c o (by simp only [List.mem_cons, List.mem_singleton, List.not_mem_nil, or_false, not_or]; exact ⟨n1, n2⟩) (Heap.get?_push_of_some _ (Heap.get?_push_of_some _ e))
        · obtain ⟨ol, hol, hcl, nl, hdl⟩ := hl
          obtain ⟨ocls, odict, odata, oslots⟩ := ol
          simp only at hcl hdl
          subst hcl; subst hdl
          have hol' : (s.heap.push (blankSet led)).get? l = some { cls := .type "tuple", dict := odict, data := .seq its nl, slots := oslots } := Heap.get?_push_of_some _ hol
          have hsls := PySem.F.sub_tuple_set
          have hslf := PySem.F.sub_tuple_frozenset
          have hne : (Value.type "tuple" == Value.type "dict") = false := by decide
          have hl1 : (s.heap.push (blankSet led)).IsTuple l its := ⟨_, hol', rfl, nl, rfl⟩
          unfold Builtin.«set.__init__» noKeywords Builtin.Frozenset.updateFrom
          generalize hPI : pyIter = PI
          wp_walk
          subst hPI
          refine wpAny_pyIter_tuple hl1 ?_
          refine wpAny_bind (wpAny_runValue ?_)
          have hlS : l < s.heap.objs.size := Heap.lt_size hol
          have h3 : A.in1.in1.in1.handled = none := by simp [hA]
          have nI : l ≠ (s.heap.push (blankSet led)).objs.size := by
            rw [Heap.size_push]; exact Nat.ne_of_lt (Nat.lt_succ_of_lt hlS)
          have nS : s.heap.objs.size ∉ [(s.heap.push (blankSet led)).objs.size, l] := by
            rw [Heap.size_push]; simp only [List.mem_cons, List.mem_singleton, List.not_mem_nil, or_false, not_or]
            exact ⟨Nat.ne_of_lt (Nat.lt_succ_self _), Nat.ne_of_gt hlS⟩
          refine turnK (kd := kd) ((Walks.tuple h3 _ l nI its).toS) s.heap.objs.size nS ks hlen hmax (fun i v k hv hk => hat i v k hv hk) (its.size - 0) 0 _ (by omega) (Nat.zero_le _) ⟨⟨_, Heap.get?_push_size _ rfl, rfl, rfl⟩, (hl1.push _)⟩ ?hS0 ?hR
          case hS0 =>
            have hget : ((s.heap.push (blankSet led)).push { cls := .type "tuple_iterator", data := .fields #[.ref l, .int 0 0] }).get? s.heap.objs.size = some (blankSet led) := Heap.get?_push_of_some _ hS
            exact PyProof.Rows.SetOf_congr ((PyProof.Rows.setObjOf_fresh (knd := kd) led).setOf hget (by unfold scanBound; omega)) (fun _ => rfl) rfl
          case hR =>
            intro s' mv hS'
            obtain ⟨h', g', d', tk', os'⟩ := s'
            obtain rfl : g' = s.gens := mv.gens
            obtain rfl : d' = s.drawn := mv.drawn
            obtain rfl : os' = s.os := mv.os
            show wpAny _ _ _ _ _ _
            refine wpAny_pure ?_
            show wpAny _ _ (ret Value.none) _ _ _
            refine wpAny_pure ⟨rfl, h', tk', rfl, hS', fun c o hc e => ?_⟩
            have n1 : c ≠ s.heap.objs.size := Nat.ne_of_lt hc
            have n2 : c ≠ (s.heap.push (blankSet led)).objs.size := by
              rw [Heap.size_push]; exact Nat.ne_of_lt (Nat.lt_succ_of_lt hc)
            exact mv.heap c o (by simp only [List.mem_cons, List.mem_singleton, List.not_mem_nil, or_false, not_or]; exact ⟨n1, n2⟩) (Heap.get?_push_of_some _ (Heap.get?_push_of_some _ e))
      · cases r₂ with
        | error e => exact hr₂
        | ok fl₂ =>
          cases fl₂ with
          | ret r =>
            obtain ⟨rfl, h', tk, rfl, hS', hk'⟩ := hr₂
            repeat (any_goals (first | assumption | wp_step))
            exact h _ _ hS' hk'
          | _ => exact hr₂.elim
    | _ => exact hr.elim
end
end EvS
namespace L2
open PySem PySem.Spec PyProof.Rows EvS
section
variable {X : Cx}
/-- len(set(xs)), xs a list or a tuple of texts -/
def tLenSetS (K : PySem.W.Frag) (ta : TE) : TE := fun σ H Q => ta σ H fun x H1 => ∃ (l : Addr) (xs : List Str), x = .ref l ∧ (SqL K H1 l (xs.map V.str) ∨ SqT K H1 l (xs.map V.str)) ∧ xs.length < 4000 ∧ Q (.int ((dd [] xs).length : Nat)) H1
theorem texts_at : ∀ {xs : List Str} {us : List Value}, Vals (xs.map V.str) us → ∀ (i : Nat) (v : Value) (k : Str), us[i]? = some v → xs[i]? = some k → ∃ t, v = Value.str k t
  | [], _, _, i, v, k, _, h => by simp at h
  | x :: xs, _, .cons r t, 0, v, k, h1, h2 => by
    obtain ⟨tk, rfl⟩ := r
    simp only [List.getElem?_cons_zero, Option.some.injEq] at h1 h2
    subst h1 h2
    exact ⟨tk, rfl⟩
  | x :: xs, _, .cons r t, i + 1, v, k, h1, h2 => by
    simp only [List.getElem?_cons_succ] at h1 h2
    exact texts_at t i v k h1 h2
theorem pe_lenSetS {a : Expr} {ta : TE} {p p2 q pos : Pos} (hc : X.calm = true) (hg : Gl X "len") (hm : X.mg "len" = none) (hg2 : Gl X "set") (hm2 : X.mg "set" = none) (ha : PE X a ta)
    (na : starEach [a] X.env = (false, eval a X.env) :: starEach [] X.env := by rfl) : PE X (.Call (.Name "len" p) [.Call (.Name "set" p2) [a] [] q] [] pos) (tLenSetS X.K ta) := by
  refine ⟨fun pins s σ H Q I h => ?_⟩
  refine Call_ (ld_blt I hg hm boot_len ?_)
  refine PyProof.Rows.callWith_builtin1 (PyProof.Rows.args_cons ?_ rfl) rfl rfl
  refine Call_ (ld_blt I hg2 hm2 boot_set ?_)
  refine PyProof.Rows.callWith_type1 (PyProof.Rows.args_cons (thn (ha.run pins s σ H _ I h) fun v s1 ⟨x, H1, I1, r1, q1⟩ => PyProof.Rows.args_nil ?_) na) na rfl
  obtain ⟨l, xs, rfl, hq, hmax, q1⟩ := q1
  cases r1
  have go : ∀ (its : List Value), Vals (xs.map V.str) its → (s1.heap.IsList l its.toArray ∨ s1.heap.IsTuple l its.toArray) →
      wpAny (model X.prog X.w) X.A (call (.type "set") [.ref l]) (fun v s₂ => wpAny (model X.prog X.w) X.A (spliced (backTo pos (starEach [] X.env))) (fun vs s₃ => wpAny (model X.prog X.w) X.A (call (.builtin "len") (v :: vs)) (EP X pins σ Q) X.xe s₃) X.xe s₂) X.xe s1 := fun its r pl => by
    have hl : its.toArray.size = xs.length := by rw [List.size_toArray, ← r.length, List.length_map]
    refine call_setK (kd := PySem.strKind X.prog X.w) (ks := xs) (I1.ok.hd hc) pl hl.symm (by rw [hl]; exact hmax) (fun i v k hv hk => ?_) fun h' tk hS hk => ?_
    · obtain ⟨t, rfl⟩ := texts_at r i v k (by rw [List.getElem?_toArray] at hv; exact hv) hk
      exact ⟨strKind_is _ _ _ _, rfl⟩
    · refine PyProof.Rows.args_nil ?_
      obtain ⟨o, es, ep, t, ho, hex, hd, _, _, _, hf, hn⟩ := hS
      have I2 : Inv X pins σ H1 { s1 with heap := h', toks := tk } := I1.kept fun c o e => hk c o (Heap.lt_size e) e
      have sm := dd_len_le xs []
      rw [List.length_nil] at sm
      exact call_len_set ho hex hd hf (by rw [hn] <;> omega) ⟨.int ((dd [] xs).length : Nat), H1, I2.tok _, ⟨_, by rw [hn]⟩, q1⟩
  rcases hq with hq | hq
  · obtain ⟨its, r, pl, hz⟩ := I1.list hq
    exact go its r (.inl pl.isList)
  · obtain ⟨its, r, pl, hz⟩ := I1.tuple hq
    exact go its r (.inr pl)
end
end L2

set_option Elab.async false
set_option linter.all false
set_option maxRecDepth 100000
set_option maxHeartbeats 4000000
namespace EvS
open PySem PySem.Spec PyProof.Rows L2
section
variable {X : Cx}
def rTupK (K : PySem.W.Frag) : List V → Hp → VK → Prop := fun xs H Q => ∃ p ys, xs = [.ref p] ∧ ((SqL K H p ys ∧ ∀ l, H l = none → Q (.ref l) (upd H l (.tup ys))) ∨ (SqT K H p ys ∧ Q (.ref p) H))
theorem call_tupK : CallR X (.type "tuple") (rTupK X.K) := call_tuple_of
/-- tuple(xs), xs a list or a tuple -/
def rTupS (K : PySem.W.Frag) : List V → Hp → VK → Prop := fun xs H Q => ∃ p ys, xs = [.ref p] ∧ (SqL K H p ys ∨ SqT K H p ys) ∧ ∀ u H', Evl.Ex H H' → SqT K H' u ys → Q (.ref u) H'
theorem call_tupS : CallR X (.type "tuple") (rTupS X.K) := fun pins s σ H xs us Q I r h => by
  obtain ⟨p, ys, e, hs, q⟩ := h
  refine call_tuple_of pins s σ H xs us Q I r ⟨p, ys, e, ?_⟩
  rcases hs with hs | hs
  · exact .inl ⟨hs, fun l hl => q l _ (Evl.Ex.new hl) (Evl.st_of upd_same)⟩
  · exact .inr ⟨hs, q p H (Evl.Ex.refl H) hs⟩
def rLstK (K : PySem.W.Frag) : List V → Hp → VK → Prop := fun xs H Q => ∃ p ys, xs = [.ref p] ∧ (SqL K H p ys ∨ SqT K H p ys) ∧ ∀ l, H l = none → Q (.ref l) (upd H l (.lst ys))
theorem call_lstK : CallR X (.type "list") (rLstK X.K) := call_list_of
/-- what is never reached -/
theorem pss_any {b : List Stmt} : PSs X b (fun _ _ _ => False) := ⟨fun _ _ _ _ _ _ q => q.elim⟩
theorem ps_any {b : Stmt} : PS X b (fun _ _ _ => False) := ⟨fun _ _ _ _ _ _ q => q.elim⟩
theorem pe_any {e : Expr} : PE X e (fun _ _ _ => False) := ⟨fun _ _ _ _ _ _ q => q.elim⟩
theorem pt_any {e : Expr} : PT X e (fun _ _ _ => False) := ⟨fun _ _ _ _ _ _ q => q.elim⟩
/-- the one way or the other -/
theorem pi_or {tg it : Expr} {w1 w2 : TI} (a : PI X tg it w1) (b : PI X tg it w2) : PI X tg it (fun σ H R => w1 σ H R ∨ w2 σ H R) :=
  ⟨fun pins s σ H R I h => h.elim (fun q => a.run pins s σ H R I q) (fun q => b.run pins s σ H R I q)⟩
theorem pe_or2 {e : Expr} {t1 t2 : TE} (a : PE X e t1) (b : PE X e t2) : PE X e (fun σ H Q => t1 σ H Q ∨ t2 σ H Q) :=
  ⟨fun pins s σ H Q I h => h.elim (fun q => a.run pins s σ H Q I q) (fun q => b.run pins s σ H Q I q)⟩
end
section
variable {X : Cx}
theorem pe_gI {x : Str} {n : Int} {pos : Pos} (hg : Gl X x) (h : ∃ t, X.mg x = some (.int n t)) (hd : (x == ("__debug__" : Str)) = false := by decide) : PE X (.Name x pos) (tC (.int n)) := by
  obtain ⟨t, e⟩ := h
  exact pe_glob hg e ⟨t, rfl⟩ hd
theorem pe_gS {x : Str} {z : Str} {pos : Pos} (hg : Gl X x) (h : ∃ t, X.mg x = some (.str z t)) (hd : (x == ("__debug__" : Str)) = false := by decide) : PE X (.Name x pos) (tC (.str z)) := by
  obtain ⟨t, e⟩ := h
  exact pe_glob hg e ⟨t, rfl⟩ hd
end
/-- a op b op c op d, as a test -/
def tChain3 (r1 r2 r3 : R2) (ta tb tc td : TE) : TE := fun σ H Q => ta σ H fun x H1 => tb σ H1 fun y H2 => r1 x y H2 fun z H3 => ∃ k, z = .bl k ∧ (if k = true then tc σ H3 fun u H4 => r2 y u H4 fun z' H5 => ∃ k', z' = .bl k' ∧ (if k' = true then td σ H5 fun v H6 => r3 u v H6 Q else Q (.bl false) H5) else Q (.bl false) H3)
theorem pt_chain3 {X : Cx} {a b c d : Expr} {ta tb tc td : TE} {pos : Pos} {o1 o2 o3 : CmpOp} {r1 r2 r3 : R2} (h1 : OpR X (compareOp o1) r1) (h2 : OpR X (compareOp o2) r2) (h3 : OpR X (compareOp o3) r3) (ha : PE X a ta) (hb : PE X b tb) (hc : PE X c tc) (hd : PE X d td)
    (hm : lastMarks [o1, o2, o3] [b, c, d] = false := by with_unfolding_all rfl) : PT X (.Compare a [o1, o2, o3] [b, c, d] pos) (tTest (tChain3 r1 r2 r3 ta tb tc td)) := by
  refine ⟨fun pins s σ H Q I h => ?_⟩
  refine isTrue_chain (thn (ha.run pins s σ H _ I h) fun v1 s1 ⟨x, H1, I1, y1, q1⟩ => test_link (thn (hb.run pins s1 σ H1 _ I1 q1) fun v2 s2 ⟨y, H2, I2, y2, q2⟩ => thn (h1 pins s2 σ H2 x y v1 v2 _ I2 y1 y2 q2) fun v3 s3 ⟨z, H3, I3, y3, k, e, q3⟩ => ?_)) hm
  subst e
  cases y3
  refine wpAny_truthy_bool ?_
  cases k with
  | false =>
    obtain ⟨k', e', q'⟩ := q3
    cases e'
    exact ite_ff ⟨H3, I3, q'⟩
  | true =>
    refine ite_tt (test_link (thn (hc.run pins s3 σ H3 _ I3 q3) fun v4 s4 ⟨u, H4, I4, y4, q4⟩ => thn (h2 pins s4 σ H4 y u v2 v4 _ I4 y2 y4 q4) fun v5 s5 ⟨z', H5, I5, y5, k', e', q5⟩ => ?_))
    subst e'
    cases y5
    refine wpAny_truthy_bool ?_
    cases k' with
    | false =>
      obtain ⟨k2, e2, q2'⟩ := q5
      cases e2
      exact ite_ff ⟨H5, I5, q2'⟩
    | true =>
      refine ite_tt (test_last (thn (hd.run pins s5 σ H5 _ I5 q5) fun v6 s6 ⟨v, H6, I6, y6, q6⟩ => thn (h3 pins s6 σ H6 u v v4 v6 _ I6 y4 y6 q6) fun v7 s7 ⟨z2, H7, I7, y7, k2, e2, q7⟩ => ?_))
      subst e2
      cases y7
      exact wpAny_truthy_bool ⟨H7, I7, q7⟩
theorem for_sign {x : Str} {g : TG} {tb : TS} {D : Ends} {σ : L2.St} {H : Hp} (Pv : Nat → L2.St → Hp → Prop) (h0 : Pv 0 σ H)
    (hs : ∀ i c σ H, x.cps[i]? = some c → Pv i σ H → g (.str ⟨#[c]⟩) σ H fun σ2 H2 => tb { D with nx := Pv (i + 1), ct := Pv (i + 1), bk := D.nx } σ2 H2) (hd : ∀ σ H, Pv x.cps.size σ H → D.nx σ H) :
    ∃ W : Nat → Nat → L2.St → Hp → Prop, (∃ m, W 0 m σ H) ∧ ∀ i m σ H, W i m σ H → ((Its x).stop i H ∧ D.nx σ H) ∨
      ((Its x).go i H ∧ ∃ N : L2.St → Hp → Prop, (∀ σ' H', N σ' H' → ∃ m', m' < m ∧ W (i + 1) m' σ' H') ∧ ∀ v H', (Its x).yld i H v H' → g v σ H' fun σ2 H2 => tb { D with nx := N, ct := N, bk := D.nx } σ2 H2) := by
  refine ⟨fun i m σ H => m = x.cps.size - i ∧ i ≤ x.cps.size ∧ Pv i σ H, ⟨x.cps.size, rfl, Nat.zero_le _, h0⟩, ?_⟩
  rintro i m σ H ⟨rfl, hi, p⟩
  by_cases lt : i < x.cps.size
  · refine .inr ⟨lt, Pv (i + 1), fun σ' H' p' => ⟨x.cps.size - (i + 1), by omega, rfl, lt, p'⟩, fun v H' y => ?_⟩
    obtain ⟨rfl, c, hc, rfl⟩ := y
    exact hs i c σ _ hc p
  · obtain rfl : i = x.cps.size := by omega
    exact .inl ⟨Nat.le_refl _, hd σ H p⟩
theorem lc_sign {x : Str} {g : TG} {tt : TT} {te : TE} {vs : List Nat} {σ : L2.St} {H1 : Hp} {D : Addr} {Qd : Hp → Prop} (Pv : Nat → Hp → Prop) (h0 : Pv 0 (upd H1 D (.lst [])))
    (hs : ∀ i c H, x.cps[i]? = some c → Pv i H → g (.str ⟨#[c]⟩) (wipe σ vs) H fun σ2 H2 => wipe σ2 vs = wipe σ vs ∧ tt σ2 H2 fun b H3 =>
      if b = true then te σ2 H3 fun y H4 => ∃ acc, H4 D = some (.lst acc) ∧ acc.length < sizeLine ∧ Pv (i + 1) (upd H4 D (.lst (acc ++ [y]))) else Pv (i + 1) H3) (hd : ∀ H, Pv x.cps.size H → Qd H) :
    ∃ W : Nat → Nat → Hp → Prop, (∃ m, W 0 m (upd H1 D (.lst []))) ∧ ∀ i m H, W i m H → ((Its x).stop i H ∧ Qd H) ∨
      ((Its x).go i H ∧ ∃ Nx : Hp → Prop, (∀ H', Nx H' → ∃ m', m' < m ∧ W (i + 1) m' H') ∧ ∀ v H', (Its x).yld i H v H' → g v (wipe σ vs) H' fun σ2 H2 => wipe σ2 vs = wipe σ vs ∧ tt σ2 H2 fun b H3 =>
        if b = true then te σ2 H3 fun y H4 => ∃ acc, H4 D = some (.lst acc) ∧ acc.length < sizeLine ∧ Nx (upd H4 D (.lst (acc ++ [y]))) else Nx H3) := by
  refine ⟨fun i m H => m = x.cps.size - i ∧ i ≤ x.cps.size ∧ Pv i H, ⟨x.cps.size, rfl, Nat.zero_le _, h0⟩, ?_⟩
  rintro i m H ⟨rfl, hi, p⟩
  by_cases lt : i < x.cps.size
  · refine .inr ⟨lt, Pv (i + 1), fun H' p' => ⟨x.cps.size - (i + 1), by omega, rfl, lt, p'⟩, fun v H' y => ?_⟩
    obtain ⟨rfl, c, hc, rfl⟩ := y
    exact hs i c _ hc p
  · obtain rfl : i = x.cps.size := by omega
    exact .inl ⟨Nat.le_refl _, hd H p⟩
/-- the same of a comprehension without a test -/
theorem lcY_sign {x : Str} {g : TG} {te : TE} {vs : List Nat} {σ : L2.St} {H1 : Hp} {D : Addr} {Qd : Hp → Prop} (Pv : Nat → Hp → Prop) (h0 : Pv 0 (upd H1 D (.lst [])))
    (hs : ∀ i c H, x.cps[i]? = some c → Pv i H → g (.str ⟨#[c]⟩) (wipe σ vs) H fun σ2 H2 => wipe σ2 vs = wipe σ vs ∧ te σ2 H2 fun y H4 => ∃ acc, H4 D = some (.lst acc) ∧ acc.length < sizeLine ∧ Pv (i + 1) (upd H4 D (.lst (acc ++ [y])))) (hd : ∀ H, Pv x.cps.size H → Qd H) :
    ∃ W : Nat → Nat → Hp → Prop, (∃ m, W 0 m (upd H1 D (.lst []))) ∧ ∀ i m H, W i m H → ((Its x).stop i H ∧ Qd H) ∨
      ((Its x).go i H ∧ ∃ Nx : Hp → Prop, (∀ H', Nx H' → ∃ m', m' < m ∧ W (i + 1) m' H') ∧ ∀ v H', (Its x).yld i H v H' → g v (wipe σ vs) H' fun σ2 H2 => wipe σ2 vs = wipe σ vs ∧ tYes σ2 H2 fun b H3 =>
        if b = true then te σ2 H3 fun y H4 => ∃ acc, H4 D = some (.lst acc) ∧ acc.length < sizeLine ∧ Nx (upd H4 D (.lst (acc ++ [y]))) else Nx H3) :=
  lc_sign Pv h0 (fun i c H hc p => hs i c H hc p) hd
theorem lcY_list {K : PySem.W.Frag} {a : Addr} {xs : List V} {g : TG} {te : TE} {vs : List Nat} {σ : L2.St} {H1 : Hp} {D : Addr} {Qd : Hp → Prop} (Pv : Nat → Hp → Prop) (h0 : Pv 0 (upd H1 D (.lst []))) (hl : ∀ i H, i ≤ xs.length → Pv i H → SqL K H a xs)
    (hs : ∀ i x H, xs[i]? = some x → Pv i H → g x (wipe σ vs) H fun σ2 H2 => wipe σ2 vs = wipe σ vs ∧ te σ2 H2 fun y H4 => ∃ acc, H4 D = some (.lst acc) ∧ acc.length < sizeLine ∧ Pv (i + 1) (upd H4 D (.lst (acc ++ [y])))) (hd : ∀ H, Pv xs.length H → Qd H) :
    ∃ W : Nat → Nat → Hp → Prop, (∃ m, W 0 m (upd H1 D (.lst []))) ∧ ∀ i m H, W i m H → ((Itl K a).stop i H ∧ Qd H) ∨
      ((Itl K a).go i H ∧ ∃ Nx : Hp → Prop, (∀ H', Nx H' → ∃ m', m' < m ∧ W (i + 1) m' H') ∧ ∀ x H', (Itl K a).yld i H x H' → g x (wipe σ vs) H' fun σ2 H2 => wipe σ2 vs = wipe σ vs ∧ tYes σ2 H2 fun b H3 =>
        if b = true then te σ2 H3 fun y H4 => ∃ acc, H4 D = some (.lst acc) ∧ acc.length < sizeLine ∧ Nx (upd H4 D (.lst (acc ++ [y]))) else Nx H3) :=
  lc_list Pv h0 hl (fun i c H hc p => hs i c H hc p) hd
theorem lcY_tup {K : PySem.W.Frag} {a : Addr} {xs : List V} {g : TG} {te : TE} {vs : List Nat} {σ : L2.St} {H1 : Hp} {D : Addr} {Qd : Hp → Prop} (Pv : Nat → Hp → Prop) (h0 : Pv 0 (upd H1 D (.lst []))) (hl : ∀ i H, i ≤ xs.length → Pv i H → SqT K H a xs)
    (hs : ∀ i x H, xs[i]? = some x → Pv i H → g x (wipe σ vs) H fun σ2 H2 => wipe σ2 vs = wipe σ vs ∧ te σ2 H2 fun y H4 => ∃ acc, H4 D = some (.lst acc) ∧ acc.length < sizeLine ∧ Pv (i + 1) (upd H4 D (.lst (acc ++ [y])))) (hd : ∀ H, Pv xs.length H → Qd H) :
    ∃ W : Nat → Nat → Hp → Prop, (∃ m, W 0 m (upd H1 D (.lst []))) ∧ ∀ i m H, W i m H → ((Itt K a).stop i H ∧ Qd H) ∨
      ((Itt K a).go i H ∧ ∃ Nx : Hp → Prop, (∀ H', Nx H' → ∃ m', m' < m ∧ W (i + 1) m' H') ∧ ∀ x H', (Itt K a).yld i H x H' → g x (wipe σ vs) H' fun σ2 H2 => wipe σ2 vs = wipe σ vs ∧ tYes σ2 H2 fun b H3 =>
        if b = true then te σ2 H3 fun y H4 => ∃ acc, H4 D = some (.lst acc) ∧ acc.length < sizeLine ∧ Nx (upd H4 D (.lst (acc ++ [y]))) else Nx H3) :=
  lc_tup Pv h0 hl (fun i c H hc p => hs i c H hc p) hd
theorem exc_self {K : PySem.W.Frag} {S : Addr} (h1 : PySem.W.subIn K (.ref S) (.type "BaseException") = some true) (h2 : PySem.W.isClsIn K S = true) (h3 : PySem.W.typeIn K (.ref S) = some (.type "type")) (h4 : PySem.W.subIn K (.ref S) (.ref S) = some true) :
    PySem.W.exmOne K (.ref S) (.ref S) = some true := by
  have e1 : (PySem.W.subIn K (.ref S) (.type "BaseException") == some true) = true := by rw [h1] <;> rfl
  have e2 : ((PySem.W.clsIn K S).isSome && PySem.W.typeIn K (.ref S) == some (.type "type")) = true := by
    have h2' : (PySem.W.clsIn K S).isSome = true := h2
    rw [h2', h3] <;> rfl
  show (if (PySem.W.subIn K (.ref S) (.type "BaseException") == some true) = true then (if ((PySem.W.clsIn K S).isSome && PySem.W.typeIn K (.ref S) == some (.type "type")) = true then PySem.W.subIn K (.ref S) (.ref S) else none) else none) = some true
  rw [if_pos e1, if_pos e2]
  exact h4
end EvS
namespace EvS
open PySem PySem.Spec PyProof.Rows L2
theorem r65 {k : Nat} {A : Around} (r : Room k A) : A.units + 65 < cLine := by have := r.un; omega
theorem blkOk_nest {X : Cx} {s : Shared} {H : Hp} {scope inner : Scope} {C : Addr} {cl : List (Str × Addr)} {fp : List Addr} {own : List (Str × Nat)} {N : List Str} {sc : Scope} (hN : X.N = N) (hs : X.env.scope = sc) (h : blkC N (relS scope sc) inner own = true) :
    BlkOk (X.blk s H scope (compEnvC scope cl C X.env) fp).N (X.blk s H scope (compEnvC scope cl C X.env) fp).env.scope inner own := by
  subst hN hs
  exact blkOk_by h
end EvS

set_option Elab.async false
set_option linter.all false
set_option maxRecDepth 100000
set_option maxHeartbeats 4000000
/-! len(set(xs)), xs a list of different tuples of texts (fewer than 64) -/
namespace TxSet
open PySem PySem.Spec PyProof.Rows L2
section
variable {P : Program} {w : World} {A : Around} {E : Value → Shared → Prop} {s : Shared}
abbrev TwAt (P : Program) (w : World) (h : Heap) (k : List Str) (b : Addr) : Prop := IsTupleKey (PySem.strKind P w) h k b
abbrev hs (P : Program) (w : World) (k : List Str) : Int := tupleKeyHash (PySem.strKind P w) k
abbrev go0 (t : SetTable) (h : Int) : SetTable.Probe := runAt t.mask (SetTable.bits h % (t.mask + 1)) (SetTable.bits h)
theorem words_of {k : List Str} {vs : List Value} (h : ItemsAre (PySem.strKind P w) k vs) : ∀ v ∈ vs, ∃ z t, v = Value.str z t := by
  induction h with
  | nil => exact fun v hv => by cases hv
  | @cons k0 u ks us h1 _ ih =>
    intro v hv
    cases hv with
    | head =>
      obtain ⟨t, e⟩ := Value.isStrOf_shape h1
      exact ⟨k0, t, e⟩
    | tail _ q => exact ih v q
theorem noClass (n : Nat) (z : Str) (t : Tok) : ofAClassStatement n (.str z t) = pure false := by cases n <;> rfl
theorem byVal (n : Nat) (z : Str) (t : Tok) : hashByValue n (.str z t) = pure false := by cases n <;> rfl
theorem noClassT {k : List Str} {b : Addr} {Q : Bool → Shared → Prop} (hk : TwAt P w s.heap k b) (q : Q false s) : wpAny (model P w) A (ofAClassStatement 8 (.ref b)) Q E s := by
  have ty := hk.typeIs
  obtain ⟨o, its, n, ho, _, hd, hi⟩ := hk
  have all := words_of hi
  unfold ofAClassStatement
  refine wpAny_bind (wpAny_typeOf ty ?_)
  dsimp only
  simp only [show (("tuple" : String) == "tuple") = true by decide, if_true, Bool.not_true, Bool.false_eq_true, if_false]
  try refine wpAny_bind (wpAny_pure ?_)
  try simp only [Bool.not_true, Bool.false_eq_true, if_false]
  refine wpAny_bind (m := seqItems? (.ref b)) (wpAny_seqItems ho hd ?_)
  dsimp only
  refine wpAny_bind (m := forIn its _ _) ?_
  rw [← Array.forIn_toList]
  refine wpAny_forIn_list _ (fun l r s' => (∀ v ∈ l, ∃ z t, v = Value.str z t) ∧ r.1 = none ∧ s' = s) _ ?_ ?_ _ _ ⟨all, rfl, rfl⟩
  · rintro v l r s' ⟨hl, hr, rfl⟩
    obtain ⟨z, t, rfl⟩ := hl v List.mem_cons_self
    rw [noClass]
    refine wpAny_bind (wpAny_pure ?_)
    simp only [Bool.false_eq_true, if_false]
    exact wpAny_pure ⟨fun u hu => hl u (List.mem_cons_of_mem _ hu), rfl, rfl⟩
  · rintro ⟨r1, r2⟩ s' ⟨_, hr, rfl⟩
    simp only at hr
    subst hr
    exact wpAny_pure q
theorem byValT {k : List Str} {b : Addr} {Q : Bool → Shared → Prop} (hk : TwAt P w s.heap k b) (q : ∀ v, Q v s) : wpAny (model P w) A (hashByValue 8 (.ref b)) Q E s := by
  have ty := hk.typeIs
  obtain ⟨o, its, n, ho, _, hd, hi⟩ := hk
  have all := words_of hi
  unfold hashByValue
  refine wpAny_bind (wpAny_specialOf ty F.slot_tuple_hash.lookup ?_)
  refine wpAny_bind (m := seqItems? (.ref b)) (wpAny_seqItems ho hd ?_)
  refine wpAny_bind (m := forIn its _ _) ?_
  rw [← Array.forIn_toList]
  refine wpAny_forIn_list _ (fun l r s' => (∀ v ∈ l, ∃ z t, v = Value.str z t) ∧ r.1 = none ∧ s' = s) _ ?_ ?_ _ _ ⟨all, rfl, rfl⟩
  · rintro v l r s' ⟨hl, hr, rfl⟩
    obtain ⟨z, t, rfl⟩ := hl v List.mem_cons_self
    rw [byVal]
    refine wpAny_bind (wpAny_pure ?_)
    simp only [Bool.not_false, if_true]
    exact wpAny_pure (wpAny_pure (q false))
  · rintro ⟨r1, r2⟩ s' ⟨_, hr, rfl⟩
    simp only at hr
    subst hr
    exact wpAny_pure (q true)
/-- nothing of the table is shown -/
theorem hidden {k : List Str} {b : Addr} {Q : Bool → Shared → Prop} (hk : TwAt P w s.heap k b) {ys : List Value} (hy : ∀ y ∈ ys, ∃ c k2, y = Value.ref c ∧ TwAt P w s.heap k2 c) (q : Q false s) :
    wpAny (model P w) A (searchCouldBeSeen (.ref b) ys) Q E s := by
  unfold searchCouldBeSeen
  refine wpAny_bind (wpAny_forIn_list _ (fun l r s' => (∀ y ∈ l, ∃ c k2, y = Value.ref c ∧ TwAt P w s.heap k2 c) ∧ r.1 = none ∧ s' = s) _ ?_ ?_ _ _ ⟨hy, rfl, rfl⟩)
  · rintro v l r s' ⟨hl, hr, rfl⟩
    obtain ⟨c, k2, rfl, hc⟩ := hl v List.mem_cons_self
    have more := fun u hu => hl u (List.mem_cons_of_mem _ hu)
    dsimp only
    by_cases e : (b == c || (carriedByValue (.ref b) && carriedByValue (.ref c))) = true
    · exact wp_if_pos e (wpAny_pure ⟨more, rfl, rfl⟩)
    · refine wp_if_neg e (wpAny_bind (wpAny_eqIsQuiet_tuple hk ?_))
      simp only [Bool.not_true, Bool.false_eq_true, if_false]
      refine wpAny_bind (wpAny_eqIsQuiet_tuple hc ?_)
      simp only [Bool.not_true, Bool.false_eq_true, if_false]
      refine wpAny_bind (noClassT hk ?_)
      simp only [Bool.false_eq_true, if_false]
      refine wpAny_bind (noClassT hc ?_)
      simp only [Bool.false_eq_true, if_false]
      exact wpAny_pure ⟨more, rfl, rfl⟩
  · rintro ⟨r1, r2⟩ s' ⟨_, hr, rfl⟩
    simp only at hr
    subst hr
    exact wpAny_pure q
/-! ### the set as it grows -/
def cells (P : Program) (w : World) (L : List (Addr × List Str)) : List (Int × Value) := L.map fun p => (hs P w p.2, Value.ref p.1)
theorem cells_len (L : List (Addr × List Str)) : (cells P w L).length = L.length := List.length_map ..
structure Bag (P : Program) (w : World) (h : Heap) (a : Addr) (L : List (Addr × List Str)) (es : Array (Int × Value)) (ep : Nat) (t : SetTable) : Prop where
  obj : ∃ o, h.get? a = some o ∧ o.ExactSet ∧ o.data = .set es ep t
  cel : es.toList = cells P w L
  tab : TabOk t (L.map fun p => hs P w p.2)
  key : ∀ p ∈ L, TwAt P w h p.2 p.1
  lrn : w.params.followText "set-order" = true ∨ t.led = true
  rom : L.length * 5 < t.mask * 3
  sml : L.length < 64
variable {a : Addr} {L : List (Addr × List Str)} {es : Array (Int × Value)} {ep : Nat} {t : SetTable}
theorem Bag.size (B : Bag P w s.heap a L es ep t) : es.size = L.length := by
  rw [← Array.length_toList, B.cel, cells_len]
theorem Bag.places (B : Bag P w s.heap a L es ep t) : t.place.toList.length = L.length := by
  rw [Array.length_toList, B.tab.sz, List.length_map]
theorem Bag.fit (B : Bag P w s.heap a L es ep t) : t.fits es.size = true := by
  have q1 := B.places
  have q2 := B.size
  have q3 := B.rom
  rw [Array.length_toList] at q1
  unfold SetTable.fits SetTable.fill
  rw [B.tab.dm, Bool.and_eq_true, beq_iff_eq, decide_eq_true_eq]
  constructor
  · omega
  · show t.place.size + 0 ≤ t.mask
    omega
theorem Bag.cell (B : Bag P w s.heap a L es ep t) {i : Nat} {p : Addr × List Str} (h : L[i]? = some p) : es[i]? = some (hs P w p.2, Value.ref p.1) := by
  rw [← Array.getElem?_toList, B.cel]
  unfold cells
  rw [List.getElem?_map, h]
  rfl
theorem nth_plain (m : Nat) : ∀ (n : Nat) (p : SetTable.Probe), p.dummy = none → (nth m p n).dummy = none
  | 0, _, h => h
  | n + 1, p, h => by
    refine nth_plain m n (adv m p) ?_
    unfold adv
    split <;> exact h
/-- the search for what isn't there ends at the first empty slot of its way -/
theorem seek (B : Bag P w s.heap a L es ep t) {x : Addr} {k : List Str} (hx : TwAt P w s.heap k x) (hu : A.units < cLine) (away : ∀ p ∈ L, p.2 ≠ k) {K : Nat} (hK : K < 10 * SetTable.turns t.mask)
    (hfree : way t.mask (hs P w k) K ∉ t.place.toList) (hbusy : ∀ c, c < K → way t.mask (hs P w k) c ∈ t.place.toList) {Q : SetFound → Shared → Prop} (q : Q (.free (way t.mask (hs P w k) K) false) s) :
    ∀ (f c : Nat) (st : Option SetTable.Probe), st.getD (t.probeStart (hs P w k)) = nth t.mask (go0 t (hs P w k)) c → c ≤ K → K - c < f → wpAny (model P w) A (setSearchFrom a (.ref x) (hs P w k) true f st) Q E s := by
  intro f
  induction f with
  | zero => intro c st _ _ h; exact absurd h (Nat.not_lt_zero _)
  | succ f ih =>
    intro c st hst hc hf
    obtain ⟨o, ho, hex, hd⟩ := B.obj
    rw [setSearchFrom_succ]
    refine wpAny_bind (wpAny_setState_of ho hd B.fit ?_)
    dsimp only
    refine wp_if_neg (by unfold SetTable.gaveWay; rw [mask_odd B.tab.mok]; decide) ?_
    try refine wpAny_bind (wpAny_pure ?_)
    have shift : ∀ n, nth t.mask (nth t.mask (go0 t (hs P w k)) c) n = nth t.mask (go0 t (hs P w k)) (c + n) := fun n => (nth_add t.mask c _ n).symm
    have at_ : ∀ n, (nth t.mask (nth t.mask (go0 t (hs P w k)) c) n).j = way t.mask (hs P w k) (c + n) := fun n => congrArg SetTable.Probe.j (shift n)
    have back : c + (K - c) = K := by omega
    rcases go_spec t B.tab.ris B.tab.dm (fun i => (es[i]?.map (·.1)).getD 0) (hs P w k) (10 * SetTable.turns t.mask) (K - c) _ (nth_plain t.mask c _ rfl) (by omega) (fun n hn => by rw [at_]; exact hbusy _ (by omega)) (by rw [at_, back]; exact hfree) with ⟨n, i, hn, hi, _, _, e⟩ | ⟨_, e⟩
    · have e' : t.probe (fun i => (es[i]?.map (·.1)).getD 0) (hs P w k) (st.getD (t.probeStart (hs P w k))) = some (.candidate (way t.mask (hs P w k) (c + n)) i (nth t.mask (go0 t (hs P w k)) (c + (n + 1)))) := by
        rw [hst, ← at_, ← shift]
        exact e
      rw [e']
      dsimp only
      rw [at_] at hi
      have il : i < L.length := by
        rw [← B.places]
        exact (List.getElem?_eq_some_iff.mp hi).1
      obtain ⟨p, hp⟩ : ∃ p, L[i]? = some p := ⟨_, List.getElem?_eq_getElem il⟩
      have pin := List.mem_of_getElem? hp
      have other := away p pin
      have go : wpAny (model P w) A (searchRest a (.ref x) (hs P w k) true f es t (way t.mask (hs P w k) (c + n)) i (nth t.mask (go0 t (hs P w k)) (c + (n + 1)))) Q E s := by
        unfold searchRest
        rw [B.cell hp]
        dsimp only
        refine wpAny_bind (wpAny_holding (wpAny_eqBool_tuple hu (B.key p pin) hx ?_))
        refine wpAny_bind (wpAny_setState_of ho hd B.fit ?_)
        dsimp only
        refine wp_if_neg (by simp [other]) ?_
        try refine wpAny_bind (wpAny_pure ?_)
        rw [sameMem]
        dsimp only
        simp only [if_true, slot_live B.tab.ris hi, B.cell hp]
        refine wpAny_bind (wpAny_isSame_ref_self (wpAny_bind (wpAny_pure ?_)))
        simp only [if_true]
        refine wp_if_neg (by simp [other]) ?_
        exact ih (c + (n + 1)) _ rfl (by omega) (by omega)
      by_cases hl : t.led = true
      · refine wp_if_neg (by simp [hl]) ?_
        try refine wpAny_bind (wpAny_pure ?_)
        exact go
      · refine wp_if_pos (by simp [hl]) (wpAny_bind (hidden hx (fun y hy => ?_) ?_))
        · obtain ⟨d, hd1, hd2⟩ := List.mem_map.mp hy
          have m1 : d ∈ es.toList := by
            have : d ∈ es ∧ d.1 = hs P w k := by simpa using hd1
            simpa using this.1
          rw [B.cel] at m1
          obtain ⟨p2, m2, e2⟩ := List.mem_map.mp m1
          exact ⟨p2.1, p2.2, by rw [← hd2, ← e2], B.key p2 m2⟩
        · refine wp_if_neg (by decide) ?_
          try refine wpAny_bind (wpAny_pure ?_)
          exact go
    · have e' : t.probe (fun i => (es[i]?.map (·.1)).getD 0) (hs P w k) (st.getD (t.probeStart (hs P w k))) = some (.empty (way t.mask (hs P w k) K) none) := by
        have z := at_ (K - c)
        rw [back] at z
        rw [hst, ← z]
        exact e
      rw [e']
      dsimp only
      exact wpAny_pure q
/-! ### the set grows by one -/
theorem still {h h' : Heap} {k : List Str} {c : Addr} {o : Obj} (hk : TwAt P w h k c) (ho : h.get? a = some o) (hd : o.data = .set es ep t) (sb : Heap.SameBut a h h') : TwAt P w h' k c := by
  obtain ⟨u, its, n, hu, hc, hi, hw⟩ := hk
  refine ⟨u, its, n, ?_, hc, hi, hw⟩
  rw [sb.2 c fun z => ?_]
  · exact hu
  · rw [z, ho] at hu
    rw [← Option.some.inj hu, hd] at hi
    cases hi
theorem range_get {α : Type} (L : List α) : ∀ n, n ≤ L.length → (List.range n).filterMap (fun i => L[i]?) = L.take n
  | 0, _ => rfl
  | n + 1, h => by
    have lt : n < L.length := h
    rw [List.range_succ, List.filterMap_append, range_get L n (Nat.le_of_lt lt), List.take_add_one, List.getElem?_eq_getElem lt]
    simp [List.getElem?_eq_getElem lt]
theorem chosen (hc : es.toList = cells P w L) : ∀ l : List Nat, (∀ i ∈ l, i < L.length) → l.filterMap (fun i => es[i]?) = cells P w (l.filterMap fun i => L[i]?) ∧ (l.filterMap fun i => L[i]?).map (fun p => hs P w p.2) = l.map fun i => (es.map (·.1)).getD i 0
  | [], _ => ⟨rfl, rfl⟩
  | i :: l, h => by
    obtain ⟨e1, e2⟩ := chosen hc l fun j hj => h j (List.mem_cons_of_mem _ hj)
    have il := h i List.mem_cons_self
    have gL : L[i]? = some L[i] := List.getElem?_eq_getElem il
    have gE : es[i]? = some (hs P w (L[i]).2, Value.ref (L[i]).1) := by
      rw [← Array.getElem?_toList, hc]
      unfold cells
      rw [List.getElem?_map, gL]
      rfl
    have gD : (es.map (·.1)).getD i 0 = hs P w (L[i]).2 := by
      have z : (es.map (·.1))[i]? = some (hs P w (L[i]).2) := by
        rw [Array.getElem?_map, gE]
        rfl
      rw [Array.getD_eq_getD_getElem?, z]
      rfl
    rw [List.filterMap_cons_some gE, List.filterMap_cons_some gL, e1, List.map_cons, List.map_cons, e2, gD]
    exact ⟨rfl, rfl⟩
/-- the table is laid anew, larger -/
theorem relaid_new {o : Obj} (ho : s.heap.get? a = some o) (hex : o.ExactSet) (hd : o.data = .set es ep t) (hc : es.toList = cells P w L) (hp : t.place.size = es.size) (hdm : t.dummies = #[]) (hfl : es.size ≤ t.mask)
    (key : ∀ p ∈ L, TwAt P w s.heap p.2 p.1) (ld : w.params.followText "set-order" = true ∨ t.led = true) (few : L.length < 64) {wanted M : Nat} (hw : SetTable.sizeAbove wanted - 1 = M) (hM : MaskOk M) (hw2 : SetTable.sizeAbove wanted ≤ 128)
    (hn : L.length * 5 < M * 3) {Q : Unit → Shared → Prop} (q : ∀ h' L' es' ep' t', Heap.SameBut a s.heap h' → Bag P w h' a L' es' ep' t' → L'.Perm L → Q () { s with heap := h' }) : wpAny (model P w) A (setRelay a wanted) Q E s := by
  have hl : es.size = L.length := by rw [← Array.length_toList, hc, cells_len]
  have hfit : t.fits es.size = true := by
    unfold SetTable.fits SetTable.fill
    rw [hdm, Bool.and_eq_true, beq_iff_eq, decide_eq_true_eq]
    exact ⟨hp, by show t.place.size + 0 ≤ t.mask; omega⟩
  have hsz : (es.map (·.1)).size = L.length := by rw [Array.size_map, hl]
  obtain ⟨t', ord, e, pm, T, em, el, _, _⟩ := relaid_ok t (hs := es.map (·.1)) (wanted := wanted) hw hM (by rw [hsz]; omega)
  rw [hsz] at pm
  obtain ⟨c1, c2⟩ := chosen (P := P) (w := w) (L := L) hc ord.toList fun i hi => List.mem_range.mp (pm.mem_iff.mp hi)
  have pL : (ord.toList.filterMap fun i => L[i]?).Perm L := by
    have z := pm.filterMap fun i => L[i]?
    rw [range_get L L.length (Nat.le_refl _), List.take_length] at z
    exact z
  generalize ord.toList.filterMap (fun i => L[i]?) = L2 at c1 c2 pL
  rw [← c2] at T
  have cl : (ord.filterMap (es[·]?)).toList = cells P w L2 := by first | (rw [Array.toList_filterMap]; exact c1) | simpa using c1
  have sz2 : (ord.filterMap (es[·]?)).size = es.size := by rw [← Array.length_toList, cl, cells_len, pL.length_eq, hl]
  rw [setRelay_eq]
  refine wpAny_bind (wpAny_setState_of ho hd hfit ?_)
  dsimp only
  refine wp_if_neg (by rw [sizeLine_eq]; omega) ?_
  try refine wpAny_bind (wpAny_pure ?_)
  rw [e]
  dsimp only
  refine wpAny_bind ?_
  refine wp_if_neg (by rw [sz2]; simp) ?_
  try refine wpAny_bind (wpAny_pure ?_)
  refine wpAny_pure ?_
  dsimp only
  refine wpAny_storeSet_of ho hd ?_ (by rw [sz2, hl, sizeLine_eq]; omega)
  have sb : Heap.SameBut a s.heap (s.heap.update a (Obj.putSet (ord.filterMap (es[·]?)) t')) := Heap.SameBut.update ..
  refine q _ L2 (ord.filterMap (es[·]?)) (ep + 1) t' sb ⟨⟨_, store_at ho hd, ⟨hex.1, hex.2.1, hex.2.2⟩, rfl⟩, cl, T, fun p hp => still (key p (pL.mem_iff.mp hp)) ho hd sb, by rw [el]; exact ld, by rw [pL.length_eq, em]; exact hn, by rw [pL.length_eq]; exact few⟩ pL
theorem add_new (B : Bag P w s.heap a L es ep t) {x : Addr} {k : List Str} (hx : TwAt P w s.heap k x) (hu : A.units < cLine) (away : ∀ p ∈ L, p.2 ≠ k) (few : L.length + 1 < 64) {Q : Bool → Shared → Prop}
    (q : ∀ h' L' es' ep' t', Heap.SameBut a s.heap h' → Bag P w h' a L' es' ep' t' → L'.Perm ((x, k) :: L) → Q true { s with heap := h' }) : wpAny (model P w) A (setAddHashed a (.ref x) (hs P w k)) Q E s := by
  obtain ⟨o, ho, hex, hd⟩ := B.obj
  have hl := B.size
  have rom := B.rom
  have lenT : (L.map fun p => hs P w p.2).length = L.length := List.length_map ..
  obtain ⟨K, hK, hfree, hbusy⟩ := B.tab.first (by rw [lenT]; omega) (hs P w k)
  have big : K < 100000 := by
    have z : 10 * SetTable.turns t.mask ≤ 1420 := by
      unfold SetTable.turns
      rcases B.tab.mok with e | e | e <;> omega
    omega
  unfold setAddHashed
  refine wpAny_holding ?_
  rw [show (100000 : Nat) = 99999 + 1 from rfl, setAddHashedIn_succ]
  refine wpAny_bind (wpAny_setState_of ho hd B.fit ?_)
  dsimp only
  refine wp_if_neg (by simp [byScan, Value.scannable]) ?_
  try refine wpAny_bind (wpAny_pure ?_)
  refine wpAny_bind (m := setSearch a (.ref x) (hs P w k) true) ?_
  unfold setSearch
  refine seek B hx hu away hK hfree hbusy ?_ 100000 0 none rfl (Nat.zero_le _) (by omega)
  dsimp only
  refine wpAny_bind (wpAny_setState_of ho hd B.fit ?_)
  dsimp only
  obtain ⟨g1, g2, g3, g4, g5, _, _, _, g9⟩ := B.tab.put hfree hbusy
  generalize hpt : t.put (way t.mask (hs P w k) K) = pt at g1 g3 g4 g5 g9 ⊢
  obtain ⟨t1, p⟩ := pt
  dsimp only at g1 g3 g4 g5 g9 ⊢
  subst g1
  generalize SetTable.below t.place (way t.mask (hs P w k) K) = p at g2 g3 ⊢
  have pm : (L.take p ++ (x, k) :: L.drop p).Perm ((x, k) :: L) := put_perm L p (x, k)
  have cl : (SetTable.insertAt es p (hs P w k, Value.ref x)).toList = cells P w (L.take p ++ (x, k) :: L.drop p) := by
    rw [SetTable.toList_insertAt, B.cel]
    unfold cells
    rw [List.map_append, List.map_cons, List.map_take, List.map_drop]
  have ht : (L.take p ++ (x, k) :: L.drop p).map (fun p => hs P w p.2) = (L.map fun p => hs P w p.2).take p ++ hs P w k :: (L.map fun p => hs P w p.2).drop p := by
    rw [List.map_append, List.map_cons, List.map_take, List.map_drop]
  rw [← ht] at g3
  rw [lenT] at g9
  generalize L.take p ++ (x, k) :: L.drop p = L1 at pm cl g3
  have len1 : L1.length = L.length + 1 := pm.length_eq
  have sz1 : (SetTable.insertAt es p (hs P w k, Value.ref x)).size = L.length + 1 := by rw [← Array.length_toList, cl, cells_len, len1]
  generalize SetTable.insertAt es p (hs P w k, Value.ref x) = es1 at cl sz1 ⊢
  -- behind the question whether its hash goes by value
  have rest : ∀ t2 : SetTable, TabOk t2 (L1.map fun p => hs P w p.2) → t2.mask = t.mask → t2.led = t.led → t2.fill = L.length + 1 → wpAny (model P w) A (do
      storeSet a es1 t2
      if !false && t2.tooFull then setRelay a (SetTable.grown (es.size + 1))
      return true) Q E s := fun t2 T2 m2 l2 f2 => by
    refine wpAny_bind (wpAny_storeSet_of ho hd ?_ (by rw [sz1, sizeLine_eq]; omega))
    have sb : Heap.SameBut a s.heap (s.heap.update a (Obj.putSet es1 t2)) := Heap.SameBut.update ..
    have ho1 := store_at (es' := es1) (t' := t2) ho hd
    generalize s.heap.update a (Obj.putSet es1 t2) = h1 at sb ho1 ⊢
    have key1 : ∀ p ∈ L1, TwAt P w h1 p.2 p.1 := fun p hp => by
      rcases List.mem_cons.mp (pm.mem_iff.mp hp) with e | hp
      · rw [e]
        exact still hx ho hd sb
      · exact still (B.key p hp) ho hd sb
    have ld1 : w.params.followText "set-order" = true ∨ t2.led = true := by rw [l2]; exact B.lrn
    by_cases hf : t2.tooFull = true
    · have full : (L.length + 1) * 5 ≥ t2.mask * 3 := by
        have z := hf
        unfold SetTable.tooFull at z
        rw [decide_eq_true_eq, f2] at z
        exact z
      have places : t2.place.size = es1.size := by
        have z := T2.sz
        rw [List.length_map, len1] at z
        rw [z, sz1]
      have two : (t.mask = 7 ∧ L.length = 4) ∨ (t.mask = 31 ∧ L.length = 18) := by
        rw [m2] at full
        rcases B.tab.mok with e | e | e <;> rw [e] at full rom
        · exact .inl ⟨e, by omega⟩
        · exact .inr ⟨e, by omega⟩
        · omega
      have laid : ∀ M, SetTable.sizeAbove (SetTable.grown (es.size + 1)) - 1 = M → MaskOk M → SetTable.sizeAbove (SetTable.grown (es.size + 1)) ≤ 128 → (L.length + 1) * 5 < M * 3 →
          wpAny (model P w) A (setRelay a (SetTable.grown (es.size + 1))) (fun _ s' => wpAny (model P w) A (pure true) Q E s') E { s with heap := h1 } := fun M z1 z2 z3 z4 => by
        refine relaid_new (s := { s with heap := h1 }) ho1 ⟨hex.1, hex.2.1, hex.2.2⟩ rfl cl places T2.dm (by rw [sz1, m2]; rcases two with ⟨y1, y2⟩ | ⟨y1, y2⟩ <;> omega) key1 ld1 (by rw [len1]; exact few) z1 z2 z3 (by rw [len1]; exact z4) ?_
        exact fun h2 L2 es2 ep2 t3 sb2 B2 pm2 => wpAny_pure (q h2 L2 es2 ep2 t3 (sb.trans sb2) B2 (pm2.trans pm))
      have fin : wpAny (model P w) A (setRelay a (SetTable.grown (es.size + 1))) (fun _ s' => wpAny (model P w) A (pure true) Q E s') E { s with heap := h1 } := by
        rcases two with ⟨_, y⟩ | ⟨_, y⟩
        · exact laid 31 (by rw [hl, y, size_20]) (.inr (.inl rfl)) (by rw [hl, y, size_20]; decide) (by omega)
        · exact laid 127 (by rw [hl, y, size_76]) (.inr (.inr rfl)) (by rw [hl, y, size_76]; decide) (by omega)
      first
        | (refine wpAny_bind ?_; refine wp_if_pos (by simp [hf]) ?_; exact fin)
        | (refine wp_if_pos (by simp [hf]) ?_; refine wpAny_bind ?_; exact fin)
    · have done := q h1 L1 es1 (ep + 1) t2 sb ⟨⟨_, ho1, ⟨hex.1, hex.2.1, hex.2.2⟩, rfl⟩, cl, T2, key1, ld1, (by
          have z := hf
          unfold SetTable.tooFull at z
          rw [decide_eq_true_eq, f2] at z
          rw [len1]
          omega), by rw [len1]; exact few⟩ pm
      first
        | (refine wp_if_neg (by simp [hf]) ?_; exact wpAny_pure done)
        | (refine wpAny_bind ?_; refine wp_if_neg (by simp [hf]) ?_; refine wpAny_pure ?_; exact wpAny_pure done)
  have both : ∀ v : Bool, wpAny (model P w) A (do
      storeSet a es1 (if v then t1 else { t1 with plain := false })
      if !false && (if v then t1 else { t1 with plain := false }).tooFull then setRelay a (SetTable.grown (es.size + 1))
      return true) Q E s := fun v => by
    cases v with
    | true => exact rest t1 g3 g4 g5 g9
    | false => exact rest { t1 with plain := false } ⟨g3.ris, g3.dm, g3.sz, g3.mok, g3.bd, g3.reach⟩ g4 g5 g9
  by_cases hpl : t1.plain = true
  · first
      | (refine wpAny_bind ?_; refine wp_if_pos hpl ?_; exact byValT hx both)
      | exact wp_if_pos hpl (wpAny_bind (byValT hx both))
  · first
      | (refine wpAny_bind ?_; refine wp_if_neg hpl ?_; exact wpAny_pure (both true))
      | exact wp_if_neg hpl (wpAny_bind (wpAny_pure (both true)))
/-! ### set(xs) -/
def fresh0 (w : World) : Obj := { cls := .type "set", dict := none, data := .set #[] 0 (.fresh 0 0 (!w.params.followText "set-order")) }
theorem bag0 {h : Heap} (ho : h.get? a = some (fresh0 w)) : Bag P w h a [] #[] 0 (.fresh 0 0 (!w.params.followText "set-order")) where
  obj := ⟨_, ho, ⟨rfl, rfl, rfl⟩, rfl⟩
  cel := rfl
  tab := ⟨List.Pairwise.nil, rfl, rfl, .inl rfl, fun x hx => (by cases hx), fun i h j hi => (by simp at hi)⟩
  key := fun p hp => (by cases hp)
  lrn := by
    show _ ∨ (!w.params.followText "set-order") = true
    cases w.params.followText "set-order"
    · exact .inr rfl
    · exact .inl rfl
  rom := by
    show 0 * 5 < 7 * 3
    decide
  sml := by
    show 0 < 64
    decide
theorem there {h h' : Heap} {k : List Str} {c : Addr} (hk : TwAt P w h k c) (kp : ∀ b o, h.get? b = some o → h'.get? b = some o) : TwAt P w h' k c := by
  obtain ⟨u, its, n, hu, more⟩ := hk
  exact ⟨u, its, n, kp c u hu, more⟩
theorem grow {I : Addr} {fp wr : List Addr} {G : Array GenState → Array GenState → Prop} {n : Nat} {Pv : Nat → Value → Prop} {St : Nat → Shared → Prop} {R : Result → Shared → Prop}
    (W : WalksS P w A.in1 I fp wr G n Pv St) (S : Addr) (nf : S ∉ fp) (ks : List (Addr × List Str)) (hn : ks.length = n) (few : n < 64) (diff : (ks.map (·.2)).Nodup) (hat : ∀ i v, Pv i v → ∃ p, ks[i]? = some p ∧ v = .ref p.1)
    (g : Heap) (hk : ∀ p ∈ ks, TwAt P w g p.2 p.1) (gS : g.get? S = none) (gw : ∀ b ∈ wr, g.get? b = none) (hu : A.in1.units < cLine) :
    ∀ (m i : Nat) (s : Shared), n - i = m → i ≤ n → St i s → (∀ b o, g.get? b = some o → s.heap.get? b = some o) → (∃ L es ep t, Bag P w s.heap S L es ep t ∧ L.Perm (ks.take i)) →
      (∀ s' L es ep t, Moved (S :: wr) G s s' → Bag P w s'.heap S L es ep t → L.Perm ks → R (.ok (.ret .none)) s') → codeAny (model P w) A (.builtin "set.update.loop" ⟨[.ref S, .ref I], []⟩) R s := by
  have nw : S ∉ wr := fun q => nf (W.sub _ q)
  have up : ∀ c ∈ wr, c ∈ S :: wr := fun c hc => List.mem_cons_of_mem _ hc
  have onward : ∀ {s s' : Shared}, Moved wr G s s' → (∀ b o, g.get? b = some o → s.heap.get? b = some o) → ∀ b o, g.get? b = some o → s'.heap.get? b = some o := fun mv kp b o e => by
    refine mv.heap b o (fun hb => ?_) (kp b o e)
    rw [gw b hb] at e
    cases e
  have hold : ∀ {s s' : Shared} {L : List (Addr × List Str)} {es : Array (Int × Value)} {ep : Nat} {t : SetTable} {i : Nat}, Moved wr G s s' → (∀ b o, g.get? b = some o → s'.heap.get? b = some o) → L.Perm (ks.take i) → Bag P w s.heap S L es ep t → Bag P w s'.heap S L es ep t := fun {s s' L es ep t i} mv kp pm B => by
    obtain ⟨o, ho, more⟩ := B.obj
    exact ⟨⟨o, mv.heap S o nw ho, more⟩, B.cel, B.tab, fun p hp => there (hk p (List.mem_of_mem_take (pm.mem_iff.mp hp))) kp, B.lrn, B.rom, B.sml⟩
  intro m
  induction m with
  | zero =>
    intro i s hm hi hst kp ⟨L, es, ep, t, B, pm⟩ hR
    obtain rfl : i = n := by omega
    refine codeAny_builtin F.entry_set_update_loop ?_
    rw [Around.under_plainId F.plain_set_update_loop _]
    refine wpAny_bind (m := pyNext (.ref I)) (W.done s _ _ hst fun s1 mv => ?_)
    have B1 := hold mv (onward mv kp) pm B
    rw [← hn, List.take_length] at pm
    exact wpAny_pure (hR s1 L es ep t (mv.mono up) B1 pm)
  | succ m ih =>
    intro i s hm hi hst kp ⟨L, es, ep, t, B, pm⟩ hR
    have lt : i < n := by omega
    refine codeAny_builtin F.entry_set_update_loop ?_
    rw [Around.under_plainId F.plain_set_update_loop _]
    refine wpAny_bind (m := pyNext (.ref I)) (W.item i s _ _ lt hst fun v s1 hP hst1 mv => ?_)
    obtain ⟨p, hp, rfl⟩ := hat i v hP
    have kp1 := onward mv kp
    have B1 := hold mv kp1 pm B
    have hx : TwAt P w s1.heap p.2 p.1 := there (hk p (List.mem_of_getElem? hp)) kp1
    have nxt : ks.take (i + 1) = ks.take i ++ [p] := by
      rw [List.take_add_one, hp]
      rfl
    have away : ∀ q ∈ L, q.2 ≠ p.2 := fun q hq e => by
      have d := diff.sublist (((List.take_sublist (i + 1) ks).map (·.2)))
      rw [nxt, List.map_append, List.nodup_append] at d
      exact d.2.2 q.2 (List.mem_map.mpr ⟨q, pm.mem_iff.mp hq, rfl⟩) p.2 (by simp) e
    have ll : L.length ≤ i := by
      rw [pm.length_eq, List.length_take]
      omega
    show wpAny _ A.in1 (holding [Value.ref p.1] (setAdd S (.ref p.1)) >>= _) _ _ s1
    refine wpAny_bind (wpAny_holding ?_)
    unfold setAdd
    refine wpAny_holding (wpAny_bind (wpAny_pyHash_tuple hu hx ?_))
    refine add_new (s := { s1 with toks := s1.toks + (p.2.length + 1) }) B1 hx hu away (by omega) fun h2 L2 es2 ep2 t2 sb B2 pm2 => ?_
    have pm3 : L2.Perm (ks.take (i + 1)) := by
      rw [nxt]
      exact pm2.trans ((pm.cons p).trans (List.perm_append_singleton p (ks.take i)).symm)
    have kp2 : ∀ b o, g.get? b = some o → h2.get? b = some o := fun b o e => by
      refine (sb.2 b fun z => ?_).trans (kp1 b o e)
      rw [z, gS] at e
      cases e
    refine wpAny_pure ⟨plainId_quiet F.plain_set_update_loop _, ih (i + 1) _ (by omega) lt (W.frame _ s1 _ _ hst1 (Nat.le_add_right _ _) fun c hc o e => ?_) kp2 ⟨L2, es2, ep2, t2, B2, pm3⟩ fun s3 L3 es3 ep3 t3 mv3 B3 pm4 => ?_⟩
    · rw [sb.2 c (fun z : c = S => nf (by rw [← z]; exact hc))]
      exact e
    · refine hR s3 L3 es3 ep3 t3 (Moved.trans W.gtrans ((mv.mono up).then_heap (Nat.le_add_right _ _) fun c o hc e => ?_) mv3) B3 pm4
      rw [sb.2 c (fun z : c = S => hc (by rw [z]; exact List.mem_cons_self))]
      exact e
theorem call_setT {l : Addr} {its : Array Value} (ks : List (Addr × List Str)) {Q : Value → Shared → Prop} (hA : A.handled = none) (hl : s.heap.IsList l its) (hit : its.toList = ks.map fun p => Value.ref p.1) (hk : ∀ p ∈ ks, TwAt P w s.heap p.2 p.1)
    (few : ks.length < 64) (diff : (ks.map (·.2)).Nodup) (hu : A.units + 3 < cLine)
    (q : ∀ (h' : Heap) (tk : Nat) L es ep t, Bag P w h' s.heap.objs.size L es ep t → L.Perm ks → (∀ c o, c < s.heap.objs.size → s.heap.get? c = some o → h'.get? c = some o) → Q (.ref s.heap.objs.size) { s with heap := h', toks := tk }) :
    wpAny (model P w) A (call (.type "set") [.ref l]) Q E s := by
  have hlen : ks.length = its.size := by
    have z := congrArg List.length hit
    rw [Array.length_toList, List.length_map] at z
    exact z.symm
  obtain ⟨c, tl, hmro⟩ := PySem.F.called_set.mro
  have hmade := PySem.F.called_set.made
  have hsub := PySem.F.called_set.sub
  refine wpAny_call (codeAny_of_tree ?_)
  show wpAny _ _ (callAny (.type "set") _) _ _ _
  refine wpAny_pure ⟨Code.quiet_builtin _ (by decide +kernel), codeAny_builtin PySem.F.entry_type_call ?_⟩
  rw [Around.under_plain (weight_type_call_type "set" [.ref l] []) rfl]
  have h1 := PySem.F.called_set.notType
  have h2 := PySem.F.called_set.canCreate
  have hct := PySem.F.typeCall_set_1 (.ref l)
  repeat (any_goals (first | assumption | wp_step))
  refine codeAny_mono (code_set_led1 (.ref l) (E := E) (Q₁ := fun b s₁ => b = .ref s.heap.objs.size ∧ s₁ = { s with heap := s.heap.push (fresh0 w) }) ⟨rfl, rfl⟩) fun r s₁ hr => ?_
  cases r with
  | error e => exact hr
  | ok fl =>
    cases fl with
    | ret b =>
      obtain ⟨rfl, rfl⟩ := hr
      have hS : (s.heap.push (fresh0 w)).get? s.heap.objs.size = some (fresh0 w) := Heap.get?_push_size _ rfl
      have hT : Shared.TypeIs { s with heap := s.heap.push (fresh0 w) } (.ref s.heap.objs.size) "set" := ⟨_, hS, rfl⟩
      have hli := PySem.F.called_set.init.lookup
      have hbi := PySem.F.called_set.init.bind (.ref s.heap.objs.size)
      repeat (any_goals (first | assumption | wp_step))
      refine codeAny_mono (codeAny_call_builtin (R := wants (fun r s₂ => r = .none ∧ ∃ h' tk L es ep t, s₂ = { s with heap := h', toks := tk } ∧ Bag P w h' s.heap.objs.size L es ep t ∧ L.Perm ks ∧
          (∀ c o, c < s.heap.objs.size → s.heap.get? c = some o → h'.get? c = some o)) E) PySem.F.called_set.init.plain PySem.F.entry_set_init (check_set_init_1 hT ?_)) fun r₂ s₂ hr₂ => ?_
      · obtain ⟨ol, hol, hcl, nl, hdl⟩ := hl
        obtain ⟨ocls, odict, odata, oslots⟩ := ol
        simp only at hcl hdl
        subst hcl; subst hdl
        have hol' : (s.heap.push (fresh0 w)).get? l = some { cls := .type "list", dict := odict, data := .seq its nl, slots := oslots } := Heap.get?_push_of_some _ hol
        have hsls := PySem.F.sub_list_set
        have hslf := PySem.F.sub_list_frozenset
        have hne : (Value.type "list" == Value.type "dict") = false := by decide
        have hl1 : (s.heap.push (fresh0 w)).IsList l its := ⟨_, hol', rfl, nl, rfl⟩
        unfold Builtin.«set.__init__» noKeywords Builtin.Frozenset.updateFrom
        generalize hPI : pyIter = PI
        wp_walk
        subst hPI
        refine wpAny_pyIter_list hl1 ?_
        refine wpAny_bind (wpAny_runValue ?_)
        have hlS : l < s.heap.objs.size := Heap.lt_size hol
        have h3 : A.in1.in1.in1.handled = none := by simp [hA]
        have nI : l ≠ (s.heap.push (fresh0 w)).objs.size := by
          rw [Heap.size_push]; exact Nat.ne_of_lt (Nat.lt_succ_of_lt hlS)
        have nS : s.heap.objs.size ∉ [(s.heap.push (fresh0 w)).objs.size, l] := by
          rw [Heap.size_push]; simp only [List.mem_cons, List.mem_singleton, List.not_mem_nil, or_false, not_or]
          exact ⟨Nat.ne_of_lt (Nat.lt_succ_self _), Nat.ne_of_gt hlS⟩
        have none_of : ∀ b, s.heap.objs.size ≤ b → s.heap.get? b = none := fun b hb => by
          cases z : s.heap.get? b with
          | none => rfl
          | some o => exact absurd (Nat.lt_of_lt_of_le (Heap.lt_size z) hb) (Nat.lt_irrefl _)
        have hat : ∀ (i : Nat) (v : Value), its[i]? = some v → ∃ p, ks[i]? = some p ∧ v = .ref p.1 := fun i v hv => by
          have z : its.toList[i]? = some v := by rw [Array.getElem?_toList]; exact hv
          rw [hit, List.getElem?_map] at z
          cases y : ks[i]? with
          | none =>
            rw [y] at z
            cases z
          | some p =>
            rw [y] at z
            exact ⟨p, rfl, (Option.some.inj z).symm⟩
        refine grow ((Walks.list h3 _ l nI its).toS) s.heap.objs.size nS ks hlen (by rw [← hlen]; exact few) diff hat s.heap hk (none_of _ (Nat.le_refl _)) (fun b hb => none_of b (by
            rw [List.mem_singleton.mp hb, Heap.size_push]
            exact Nat.le_succ _)) hu (its.size - 0) 0 _ (by omega) (Nat.zero_le _) ⟨⟨_, Heap.get?_push_size _ rfl, rfl, rfl⟩, (hl1.push _)⟩ (fun b o e => Heap.get?_push_of_some _ (Heap.get?_push_of_some _ e)) ?hS0 ?hR
        case hS0 =>
          have hget : ((s.heap.push (fresh0 w)).push { cls := .type "list_iterator", data := .fields #[.ref l, .int 0 0] }).get? s.heap.objs.size = some (fresh0 w) := Heap.get?_push_of_some _ hS
          exact ⟨[], #[], 0, _, bag0 hget, by rw [List.take_zero]⟩
        case hR =>
          intro s' L es ep t mv B pm
          obtain ⟨h', g', d', tk', os'⟩ := s'
          obtain rfl : g' = s.gens := mv.gens
          obtain rfl : d' = s.drawn := mv.drawn
          obtain rfl : os' = s.os := mv.os
          show wpAny _ _ _ _ _ _
          refine wpAny_pure ?_
          show wpAny _ _ (ret Value.none) _ _ _
          refine wpAny_pure ⟨rfl, h', tk', L, es, ep, t, rfl, B, pm, fun c o hc e => ?_⟩
          have n1 : c ≠ s.heap.objs.size := Nat.ne_of_lt hc
          have n2 : c ≠ (s.heap.push (fresh0 w)).objs.size := by
            rw [Heap.size_push]; exact Nat.ne_of_lt (Nat.lt_succ_of_lt hc)
          exact mv.heap c o (by simp only [List.mem_cons, List.mem_singleton, List.not_mem_nil, or_false, not_or]; exact ⟨n1, n2⟩) (Heap.get?_push_of_some _ (Heap.get?_push_of_some _ e))
      · cases r₂ with
        | error e => exact hr₂
        | ok fl₂ =>
          cases fl₂ with
          | ret r =>
            obtain ⟨rfl, h', tk, L, es, ep, t, rfl, B, pm, hk'⟩ := hr₂
            repeat (any_goals (first | assumption | wp_step))
            exact q _ _ _ _ _ _ B pm hk'
          | _ => exact hr₂.elim
    | _ => exact hr.elim
end
section
variable {X : Cx}
/-- len(set(xs)), xs a list of different tuples of texts -/
def tLenSetT (K : PySem.W.Frag) (ta : TE) : TE := fun σ H Q => ta σ H fun x H1 => ∃ (l : Addr) (ks : List (Addr × List Str)), x = .ref l ∧ SqL K H1 l (ks.map fun p => V.ref p.1) ∧ (∀ p ∈ ks, SqT K H1 p.1 (p.2.map V.str)) ∧ ks.length < 64 ∧ (ks.map (·.2)).Nodup ∧ Q (.int (ks.length : Nat)) H1
theorem words_is {P : Program} {w : World} : ∀ {k : List Str} {us : List Value}, Vals (k.map V.str) us → ItemsAre (PySem.strKind P w) k us
  | [], _, .nil => .nil
  | z :: k, _, .cons r t => by
    obtain ⟨tk, rfl⟩ := r
    exact .cons (strKind_is _ _ _ _) (words_is t)
theorem refs_is : ∀ {ks : List (Addr × List Str)} {us : List Value}, Vals (ks.map fun p => V.ref p.1) us → us = ks.map fun p => Value.ref p.1
  | [], _, .nil => rfl
  | p :: ks, _, .cons r t => by
    cases r
    rw [List.map_cons, ← refs_is t]
theorem pe_lenSetT {a : Expr} {ta : TE} {p p2 q pos : Pos} {k : Nat} (hr : Room k X.A) (hc : X.calm = true) (hg : Gl X "len") (hm : X.mg "len" = none) (hg2 : Gl X "set") (hm2 : X.mg "set" = none) (ha : PE X a ta)
    (na : starEach [a] X.env = (false, eval a X.env) :: starEach [] X.env := by rfl) : PE X (.Call (.Name "len" p) [.Call (.Name "set" p2) [a] [] q] [] pos) (tLenSetT X.K ta) := by
  refine ⟨fun pins s σ H Q I h => ?_⟩
  refine Call_ (ld_blt I hg hm boot_len ?_)
  refine PyProof.Rows.callWith_builtin1 (PyProof.Rows.args_cons ?_ rfl) rfl rfl
  refine Call_ (ld_blt I hg2 hm2 boot_set ?_)
  refine PyProof.Rows.callWith_type1 (PyProof.Rows.args_cons (thn (ha.run pins s σ H _ I h) fun v s1 ⟨x, H1, I1, r1, q1⟩ => PyProof.Rows.args_nil ?_) na) na rfl
  obtain ⟨l, ks, rfl, hq, ht, few, diff, q1⟩ := q1
  cases r1
  obtain ⟨its, r, pl, hz⟩ := I1.list hq
  have hu := hr.units
  refine call_setT (P := X.prog) (w := X.w) ks (I1.ok.hd hc) pl.isList (by simpa using refs_is r) (fun p hp => ?_) few diff (by omega) fun h' tk L es ep t B pm hk => ?_
  · obtain ⟨ts, rt, pt, _⟩ := I1.tuple (ht p hp)
    obtain ⟨o, ho, hcl, n, hd⟩ := pt
    exact ⟨o, ts.toArray, n, ho, hcl, hd, words_is rt⟩
  · refine PyProof.Rows.args_nil ?_
    obtain ⟨o, ho, hex, hd⟩ := B.obj
    have I2 : Inv X pins σ H1 { s1 with heap := h', toks := tk } := I1.kept fun c o e => hk c o (Heap.lt_size e) e
    have hn : es.size = ks.length := by
      have z : es.size = L.length := by rw [← Array.length_toList, B.cel, cells_len]
      rw [z, pm.length_eq]
    refine call_len_set ho hex hd (B.fit (s := { s1 with heap := h', toks := tk })) (by rw [hn] <;> omega) ⟨.int (ks.length : Nat), H1, I2.tok _, ⟨_, by rw [hn]⟩, q1⟩
end
end TxSet

set_option Elab.async false
set_option linter.all false
set_option maxRecDepth 100000
set_option maxHeartbeats 4000000
/-! An own exception's __init__ over ValueError: super().__init__(e), then one more statement. -/
namespace SupX
open PySem PySem.Spec PyProof.Rows L2 NdefX LamX
/-- the body of such an __init__ -/
abbrev supBody (e : Expr) (st2 : Stmt) (p0 p1 p2 p3 p4 : Pos) : List Stmt :=
  [.Expr (.Call (.Attribute (.Call (.Name "super" p0) [] [] p1) "__init__" p2) [e] [] p3) p4, st2]
abbrev supF (name qual : Str) (params : Arguments) (body : List Stmt) (scope : Scope) (cc cda : Addr) : NF := ⟨name, qual, params, body, scope, [("__class__", cc)], cda⟩
/-- what the written part says of it -/
structure SupC (P : Program) (K : PySem.W.Frag) (mg : Str → Option Value) (C f cc cda : Addr) (name qual arg2 : Str) (params : Arguments) (body : List Stmt) (scope : Scope) (fd : FuncData) : Prop where
  lk : ∃ (oc : Value) (od : Option Addr) (dV kV doc pm : Value) (an : Option Addr) (ct : Value) (osl : Array (Option Value)), fd = PySem.W.fnX name qual params body scope [("__class__", cc)] dV kV doc pm an (.ref cda) ct ∧ K.lookup f = some ⟨oc, od, .func fd, osl⟩
  hcd : PySem.W.codeIn K (.ref cda) qual = true
  code : ∃ (ccl : Value) (cdd : Option Addr) (vs : Array Value) (ccs : Array (Option Value)) (file : Str) (tf : Tok), K.lookup cda = some ⟨ccl, cdd, .fields vs, ccs⟩ ∧ vs[2]? = some (.str file tf) ∧ ((P.main.file : Str) == file) = true
  cell : ∃ (cl : Value) (cld : Option Addr) (csl : Array (Option Value)), K.lookup cc = some ⟨cl, cld, .cell (some (.ref C)), csl⟩
  S : NScope ["self", arg2, "__class__"] ["self", arg2] ["__class__"] scope
  hp : ∃ ar : Arg, (params.posonlyargs ++ params.args).head? = some ar ∧ ar.arg = "self"
  hsup : scope.names.lookup ("super" : Str) = some .globalImplicit
  T : OexC K C
  cls : ∃ cd, PySem.W.clsIn K C = some cd
  sub : PySem.W.mroIn K C (.ref C) = some true
  ve : PySem.W.subIn K (.ref C) (.type "ValueError") = some true
  along : PySem.W.ks_superIn K C C "__init__" = some (some (.builtin "ValueError.__init__"))
  opq : PySem.W.nsIn K cStatics "thirdparty.any" = some none
  msup : mg "super" = none
  top : (P.main.scope.names.lookup ("super" : Str)).isSome = false
section
variable {P : Program} {w : World} {K : PySem.W.Frag} {mg : Str → Option Value} {base : Heap} {CX : CXT} {k : Nat}
/-- the built-in __init__ by its method-wrapper, upon an exception that is being made -/
theorem call_mw {X : Cx} {pins : List (Addr × Obj)} {σ : L2.St} {H : Hp} {s : Shared} {a C u : Addr} {us : List Value} {A : Around} {E : Value → Shared → Prop} {Q : Value → Shared → Prop} (T : OexC X.K C) (I : Inv X pins σ H s) (e : H a = some (exo a C none)) (hl : us.length ≤ sizeLine)
    (hu : s.heap.get? u = some (PySem.W.kxs_mw "ValueError.__init__" a)) (h : ∀ s', Inv X pins σ H s' → Q .none s') : wpAny (model X.prog X.w) A (call (.ref u) us) Q E s := by
  obtain ⟨nm, q, N, bs, bm, sn, sub, ab, col, dd, k0, k1, k2, k3, k5, hC, hbm⟩ := T.cls
  obtain ⟨t1, ho⟩ := exo_at I.hok e
  have hC' := I.kIn _ _ hC
  obtain ⟨hh, g, d, t, os⟩ := s
  refine wpAny_call (codeAny_of_tree ?_)
  show wpAny _ A.in1 (callAny (.ref u) ⟨us, []⟩) _ _ _
  simp only [callAny]
  refine wpAny_bind (wpAny_load hu ?_)
  simp only [PySem.W.kxs_mw, show (Value.type "method-wrapper" == Value.type "method" || Value.type "method-wrapper" == Value.type "builtin_function_or_method" || Value.type "method-wrapper" == Value.type "method-wrapper") = true by decide, if_true]
  refine PySem.W.KFB.if_so (by decide) ?_
  refine wpAny_bind (PySem.W.check_bound_init PySem.F.excBase_ValueError.toExcCallFacts hC' ho rfl ?_)
  refine wpAny_bind (wpAny_pure (wpAny_pure ?_))
  refine ⟨plainId_quiet PySem.F.excBase_ValueError.init.plain _, codeAny_builtin PySem.F.excBase_ValueError.initEntry ?_⟩
  refine PySem.W.exc_init_tree (cls := .ref C) (t0 := t1) (dv := none) (c2 := .none) (c3 := .none) (b4 := .bool false) ho hl (fun h' k hx _ => ?_)
  have J := I.write (t' := t) (x := a) (e := a) (o := exo a C none) (by rw [e]; exact True.intro) (.inl rfl) k ⟨_, hx⟩ (exo_ok hx)
  have eu : upd H a (exo a C none) = H := by
    funext b
    by_cases hb : b = a
    · rw [hb, upd_same, e]
    · rw [upd_ne hb]
  rw [eu] at J
  exact h _ J
theorem callWith_mw {M : Model} {A : Around} {E : Value → Shared → Prop} {s : Shared} {i : String} {u x : Addr} {pos : Pos} {env : Env} {e : Expr} {Q : Value → Shared → Prop}
    (h : wpAny M A (spliced (backTo pos (starEach [e] env))) (fun vs s₁ => PySem.W.KxsAt i u x s₁.heap ∧ wpAny M A (call (.ref u) vs) Q E s₁) E s)
    (he : starEach [e] env = [(false, eval e env)]) : wpAny M A (callWith pos (.ref u) [] (backTo pos (starEach [e] env)) []) Q E s := by
  rw [he] at h ⊢
  refine PySem.W.kxs_callWith (i := i) (x := x) rfl ?_
  exact PySem.Calls.evalArgs_plain h
/-- THE RULE: such an __init__ as a def -/
theorem sup_ok {C f cc cda : Addr} {name qual arg2 : Str} {params : Arguments} {e : Expr} {st2 : Stmt} {p0 p1 p2 p3 p4 : Pos} {scope : Scope} {fd : FuncData} {sp : Sp} (W0 : SupC P K mg C f cc cda name qual arg2 params (supBody e st2 p0 p1 p2 p3 p4) scope fd)
    (len : ∀ vs H Q E, sp vs H Q E → vs.length = 2)
    (hbody : ∀ (A : Around) (outer : List Env) (s : Shared) (H : Hp) (vs : List V) (Q : VK) (E : XK), Room k (A.deeper (envF (supF name qual params (supBody e st2 p0 p1 p2 p3 p4) scope cc cda) f s.heap.objs.size)) → sp vs H Q E →
      ∃ (a : Addr) (y : V) (ta : TA) (t2 : TS), vs = [.ref a, y] ∧ H a = some (exo a C none) ∧ PA (ncx CX P w K mg base ["self", arg2, "__class__"] (supF name qual params (supBody e st2 p0 p1 p2 p3 p4) scope cc cda) f A outer s H E) [e] ta ∧
        PS (ncx CX P w K mg base ["self", arg2, "__class__"] (supF name qual params (supBody e st2 p0 p1 p2 p3 p4) scope cc cda) f A outer s H E) st2 t2 ∧
        ta (startF ["self", arg2, "__class__"] vs [none]) H fun ws H1 => ws.length ≤ 1000 ∧ H1 a = some (exo a C none) ∧ t2 { nx := fun _ H' => Q .non H', rt := Q } (startF ["self", arg2, "__class__"] vs [none]) H1)
    (he : ∀ env : Env, starEach [e] env = [(false, eval e env)]) (hcall : ∀ env : Env, ∃ pl : Sem Bool, eval (.Call (.Attribute (.Call (.Name "super" p0) [] [] p1) "__init__" p2) [e] [] p3) env = (do
      let ov ← attributeBase (.Call (.Name "super" p0) [] [] p1) "__init__" env (eval (.Call (.Name "super" p0) [] [] p1) env)
      standAt p2.atName
      let (f, first) ← holding [ov] (getMethod ov "__init__" pl)
      callWith p3 f first (backTo p3 (starEach [e] env)) [])) : FnOk P w K mg base CX (k + 1) f fd ["self", arg2] sp := by
  obtain ⟨⟨oc, od, dV, kV, doc, pm, an, ct, osl, rfl, lk⟩, hcd, ⟨ccl, cdd, cvs, ccs, file, tf, hcode, hvs, hfile⟩, ⟨cl, cld, csl, hcell⟩, S, ⟨ar, hp1, hp2⟩, hsup, T, ⟨cd, hcls⟩, hsub, hve, halong, hopq, msup, htop⟩ := W0
  refine ⟨len, fun A outer s H args us vs Q E hr e0 hb r hsp => ?_⟩
  have hl := len _ _ _ _ hsp
  have KX : K.In s.heap := e0.mod.kin.keeps fun b o e => (e0.bs b o e).1
  have lim : s.heap.NoLimit := e0.mod.nolimit.keeps fun b o e => (e0.bs b o e).1
  refine PySem.ks_codeAny_call_defAt (body := supBody e st2 p0 p1 p2 p3 p4) hr.depth (KX _ _ lk) rfl lim (PySem.W.codeRec_of KX hcd) rfl hb S.nocell (fun ⟨n, _⟩ hy => S.par n (List.of_mem_zip hy).1) (fun h₁ hns kp => ?_) S.co S.gen S.kind
  obtain ⟨a, y, ta, t2, rfl, ea, hPA, hPS, hq⟩ := hbody A outer s H vs Q E (hr.deeper _) hsp
  have kb : ∀ b o, base.get? b = some o → H b = none := fun b o z => (e0.bs b o z).2
  have kcell : s.heap.IsCell cc (some (.ref C)) := ⟨_, KX _ _ hcell, rfl⟩
  have nocc : H cc = none := kb cc _ (e0.mod.kin _ _ hcell)
  have CA : CellsAt (supF name qual params (supBody e st2 p0 p1 p2 p3 p4) scope cc cda).cl ["__class__"] [none] s.heap H := by
    have one : ∀ {y c}, List.lookup y [(("__class__" : Str), cc)] = some c → y = "__class__" ∧ c = cc := fun {y c} z => by
      rw [List.lookup_cons] at z
      by_cases q : (y == ("__class__" : Str)) = true
      · rw [q] at z
        exact ⟨eq_of_beq q, (Option.some.inj z).symm⟩
      · rw [Bool.not_eq_true] at q
        rw [q] at z
        cases z
    refine ⟨rfl, fun y c z => ?_, fun x y c z1 z2 => (one z1).1.trans (one z2).1.symm, fun i y hi => ?_⟩
    · obtain ⟨_, rfl⟩ := one z
      exact ⟨nocc, _, kcell⟩
    · cases i with
      | zero =>
        obtain rfl := Option.some.inj hi
        exact ⟨cc, by rw [List.lookup_cons, show (("__class__" : Str) == ("__class__" : Str)) = true from beq_self_eq_true _], fun v hv => by simp at hv⟩
      | succ i => simp at hi
  have I : L2.Inv (ncx CX P w K mg base ["self", arg2, "__class__"] (supF name qual params (supBody e st2 p0 p1 p2 p3 p4) scope cc cda) f A outer s H E) [] (startF ["self", arg2, "__class__"] [.ref a, y] [none]) H { s with heap := h₁, toks := s.toks + (((["self", arg2] : List Str).zip us)).length } := inv_startN (F := supF name qual params (supBody e st2 p0 p1 p2 p3 p4) scope cc cda) S hr.hd e0 hl r CA hns kp
  have K1 : K.In h₁ := KX.keeps kp
  obtain ⟨ua, uy, rfl, ra, ry⟩ : ∃ ua uy, us = [ua, uy] ∧ ua = Value.ref a ∧ RelV y uy := by
    cases r with
    | cons h1 h2 =>
      cases h2 with
      | cons h3 h4 =>
        cases h4
        exact ⟨_, _, rfl, h1, h3⟩
  subst ra
  have hself : ((["self", arg2] : List Str).zip [Value.ref a, uy]).reverse.lookup ar.arg = some (.ref a) := by
    rw [hp2]
    have nd := S.nd
    exact zip_look (i := 0) (ps := (["self", arg2] : List Str)) (us := [Value.ref a, uy]) (by
      have q := nd.sublist (List.take_sublist 2 (["self", arg2, "__class__"] : List Str))
      exact q) rfl rfl
  obtain ⟨t1, hoe⟩ := exo_at I.hok ea
  obtain ⟨oC, hC1, hC2⟩ : ∃ oC, h₁.get? C = some oC ∧ oC.data = .cls cd := by
    unfold PySem.W.clsIn at hcls
    split at hcls
    · rename_i c d cd' sl ho
      cases hcls
      exact ⟨_, K1 _ _ ho, rfl⟩
    · cases hcls
  have hself2 : scope.names.lookup ar.arg = some .local := by rw [hp2]; exact S.par "self" List.mem_cons_self
  obtain ⟨mb, hm1, hm2⟩ := I.mod.blt
  obtain ⟨pl, hpl⟩ := hcall (envF (supF name qual params (supBody e st2 p0 p1 p2 p3 p4) scope cc cda) f s.heap.objs.size)
  refine PySem.ks_wpAt_execs_cons (PySem.ks_wpAt_Expr_any (PySem.ks_wpAt_MethodCall ?_ hpl) (hi := I.quiet))
  refine PySem.ks_wpAt_super_base (f := f) hsup (S.frk "__class__" List.mem_cons_self) (by decide) rfl (kp _ _ (KX _ _ lk)) rfl hp1 rfl (K1 _ _ hcode) rfl hvs hfile htop ?_
  refine PySem.W.ks_loadName_global S.kind hsup (Calls.loadGlobal_builtin (I.mod.glob.keeps I.bk) msup (hm1.keeps I.bk) ((hm2 "super" (by decide)).trans (show bootBuiltins "super" = some (.type "super") by decide +kernel)) ⟨rfl, ?_⟩)
  refine wpAny_loadName_free S.kind (S.frk "__class__" List.mem_cons_self) rfl ⟨_, K1 _ _ hcell, rfl⟩ ?_
  refine wpAny_loadName_local S.kind hself2 hns hself ?_
  refine PySem.ks_wpAny_isType_cls hC1 hC2 ⟨rfl, ?_⟩
  refine PySem.ks_wpAny_call_super hC1 hC2 hoe rfl (fun c z => by cases z) (PySem.W.looks_mroIn K1 hsub) (fun h2 hso k2 => ?_)
  have K2 : K.In h2 := K1.keeps k2
  have I2 := I.kept (h' := h2) (t' := s.toks + (((["self", arg2] : List Str).zip [Value.ref a, uy])).length) k2
  have IA : PySem.W.InstAt h2 a _ C none := ⟨k2 _ _ hoe, rfl, rfl, trivial⟩
  have halong' : PySem.W.alongIn K "__init__" ((cd.mro.dropWhile (· != .ref C)).drop 1) = some (some (.builtin "ValueError.__init__")) := by
    unfold PySem.W.ks_superIn at halong
    rw [hcls] at halong
    exact halong
  refine PySem.W.kxs_getMethod PySem.W.kxs_ValueError hso (PySem.W.looks_opaque K2 hopq) (l₀ := cd.mro) (fun A Q E s k q => wpAny_bind ((PySem.W.looks_clsIn K2 hcls) A _ E s k (wpAny_pure q))) rfl K2 halong' (IA.type.andThen (PySem.W.looks_subIn K2 hve)) (PySem.W.ks_ne K2 IA hcls) (by decide) ?_
  have k3 : ∀ b o, h2.get? b = some o → (h2.push (PySem.W.kxs_mw "ValueError.__init__" a)).get? b = some o := fun b o z => Heap.get?_push_of_some _ z
  have I3 := I2.kept (h' := h2.push (PySem.W.kxs_mw "ValueError.__init__" a)) (t' := s.toks + (((["self", arg2] : List Str).zip [Value.ref a, uy])).length + 1) k3
  have hu : (h2.push (PySem.W.kxs_mw "ValueError.__init__" a)).get? h2.objs.size = some (PySem.W.kxs_mw "ValueError.__init__" a) := Heap.get?_push_size _ rfl
  have I4 := I3.pins_of (pins' := [(h2.objs.size, PySem.W.kxs_mw "ValueError.__init__" a)]) fun p hp => by
    obtain rfl := List.mem_singleton.mp hp
    refine ⟨hu, I2.hok.fresh (Nat.le_refl _), fun z => ?_, I2.nofs (Nat.le_refl _), fun v z => by cases z⟩
    have := I2.lt
    rw [← z] at this
    exact absurd this (Nat.lt_irrefl _)
  refine callWith_mw (i := "ValueError.__init__") (x := a) (thn (hPA.run p3 _ _ _ H _ I4 hq) fun us' s5 ⟨vs', H5, I5, r5, hlen, ea5, q5⟩ => ⟨(I5.pin _ (List.mem_append_right _ List.mem_cons_self)).1, ?_⟩) (he _)
  have hlen' : us'.length ≤ sizeLine := by
    rw [← Paired.length r5, sizeLine_eq]
    omega
  refine call_mw (X := ncx CX P w K mg base ["self", arg2, "__class__"] (supF name qual params (supBody e st2 p0 p1 p2 p3 p4) scope cc cda) f A outer s H E) T I5 ea5 hlen' (I5.pin _ (List.mem_append_right _ List.mem_cons_self)).1 (fun s6 I6 => ?_)
  have I7 := I6.pins_of (pins' := []) fun p hp => by cases hp
  refine wpAt_of_wpAny (wpAny_mono ((pss_one hPS).run [] s6 _ H5 _ I7 q5) (fun fl s' hs => ?_) fun e s' hs => hs)
  have fin : ∀ {σ' : L2.St} {H' : Hp} {v : V} {u : Value}, L2.Inv (ncx CX P w K mg base ["self", arg2, "__class__"] (supF name qual params (supBody e st2 p0 p1 p2 p3 p4) scope cc cda) f A outer s H E) [] σ' H' s' → L2.RelV v u → Q v H' → CE outer P w H s Q u s' :=
    fun {σ' H' v u} J rv q => ⟨v, H', J.os, J.bare, J.base, J.hok, rv, q⟩
  cases fl with
  | ret u =>
    obtain ⟨v, σ', H', J, rv, q⟩ := hs
    exact fin J rv q
  | next =>
    obtain ⟨σ', H', J, q⟩ := hs
    exact fin (v := V.non) (u := Value.none) J rfl q
  | brk =>
    obtain ⟨_, _, _, q⟩ := hs
    exact False.elim q
  | cont =>
    obtain ⟨_, _, _, q⟩ := hs
    exact False.elim q
end
end SupX

set_option Elab.async false
set_option linter.all false
set_option maxRecDepth 100000
set_option maxHeartbeats 4000000
namespace SupX
open PySem PySem.Spec PyProof.Rows L2 NdefX LamX
/-- isinstance(e, c), e the exception that the suite holds, with or without a dict of its own -/
def rIsX (K : PySem.W.Frag) (a : Addr) (cls : Value) (d : Option Addr) : List V → Hp → VK → Prop := fun xs H Q => ∃ (c : V) (cv : Value) (b : Bool) (D : Addr), xs = [.ref a, c] ∧ cls = .ref D ∧ ExcC K D ∧ (∀ u, L2.RelV c u → u = cv) ∧ PySem.W.kitOne K (.ref D) cv = some b ∧ (∀ dd, d = some dd → ∃ fs, H dd = some (.xd fs)) ∧ Q (.bl b) H
theorem call_isX {X : Cx} {a : Addr} {cls : Value} {d : Option Addr} {oe : Obj} {pn : List (Addr × Obj)} (hz : Zc cls d oe) (hf : ∃ vs, oe.data = .fields vs) : CallR (X.suite a ((a, oe) :: pn)) (.builtin "isinstance") (rIsX X.K a cls d) := by
  intro pins s σ H xs us Q I r h
  obtain ⟨c, cv, b, D, rfl, rfl, C, hcv, e, hd, q⟩ := h
  cases r with
  | cons rx rr =>
    cases rr with
    | cons rt rr =>
      cases rr
      cases rx
      obtain rfl := hcv _ rt
      obtain ⟨hget, _⟩ := I.pin (a, oe) (List.mem_append_left _ List.mem_cons_self)
      obtain ⟨vs, hv⟩ := hf
      obtain ⟨od, J⟩ : ∃ od, PySem.W.InstAt s.heap a oe D od := by
        have no : PySem.W.notCls oe = true := by unfold PySem.W.notCls; rw [hv]
        cases hdd : d with
        | none => exact ⟨none, hget, hz.1, no, by rw [hz.2, hdd]; trivial⟩
        | some dd =>
          obtain ⟨fs, hx⟩ := hd dd hdd
          have hx' : ObjOk X.prog X.w H s.heap dd (.xd fs) := I.hok dd _ hx
          obtain ⟨mA, ⟨o, es, ep, ho, _⟩, _⟩ := hx'
          exact ⟨some o, hget, hz.1, no, by rw [hz.2, hdd]; exact ho⟩
      have hcl : (PySem.W.clsIn X.K D).isSome = true := by
        obtain ⟨cd, hc, _⟩ := PySem.W.any_some C.hd
        rw [hc]
        rfl
      exact PySem.W.kia_one (PySem.W.kitx_exc hcl C.hg C.hk C.hs C.ha C.hn C.ht C.hm) I.kIn J e (fun z => nomatch z) fun tk => ⟨.bl b, H, I.kept (t' := tk) fun _ _ z => z, rfl, q⟩
/-- such an __init__ that keeps its one argument as the field fld -/
def spKeep (C : Addr) (fld : Str) : Sp := fun vs H Q _ => ∃ (a : Addr) (y : V), vs = [.ref a, y] ∧ (∃ z : Str, y = .str z ∧ z.length ≤ 100000 ∨ ∃ i : Int, y = .int i ∧ i.natAbs.log2 < 1920) ∧ H a = some (exo a C none) ∧
  ∀ dx, H dx = none → dx ≠ a → Q .non (upd (upd H dx (exd dx [(fld, y)])) a (exo a C (some dx)))
/-- C(e): what its making asks behind the argument -/
theorem keep_post {C : Addr} {fld : Str} {y : V} {H1 : Hp} {Q : XK} (hy : ∃ z : Str, y = .str z ∧ z.length ≤ 100000 ∨ ∃ i : Int, y = .int i ∧ i.natAbs.log2 < 1920) (q : ∀ d H', H1 d = none → Evl.Ex H1 H' → H' d = some (.xd [(fld, y)]) → Q (.ref C) (some d) H') :
    ([y] : List V).length ≤ 1000 ∧ ∀ a, H1 a = none → spKeep C fld (.ref a :: ([y] ++ [])) (upd H1 a (exo a C none))
      (fun v H2 => v = .non ∧ ∃ (d : Addr) (fs : List (Str × V)), H2 a = some (exo a C (some d)) ∧ H2 d = some (exd d fs) ∧ H1 d = none ∧ Q (.ref C) (some d) (upd (L2.del H2 a) d (.xd fs))) (fun _ _ _ => False) := by
  refine ⟨by show 1 ≤ 1000; decide, fun a ha => ⟨a, y, rfl, hy, upd_same, fun dx hd ne => ⟨rfl, dx, [(fld, y)], upd_same, ?_, ?_, ?_⟩⟩⟩
  · rw [upd_ne ne, upd_same]
  · rw [upd_ne ne] at hd
    exact hd
  · have hd1 : H1 dx = none := by rw [upd_ne ne] at hd; exact hd
    refine q dx _ hd1 (fun b o hb => ?_) upd_same
    have nb : b ≠ dx := fun z => by rw [z, hd1] at hb; cases hb
    have na : b ≠ a := fun z => by rw [z, ha] at hb; cases hb
    rw [upd_ne nb, L2.del_ne na, upd_ne na, upd_ne nb, upd_ne na]
    exact hb
theorem pmk_keep {X : Cx} {x : Str} {C fI : Addr} {k : Nat} {fd : FuncData} {e : Expr} {es : List Expr} {ta : TA} {p pos : Pos} {ps : List Str} {fld : Str} (T : OexC X.K C) (iC : PySem.W.findIn X.K (.ref C) "__init__" = some (some (.ref fI))) (tI : PySem.W.typeIn X.K (.ref fI) = some (.type "function"))
    (F1 : FnOk X.prog X.w X.K X.mg X.base CX0 k fI fd ps (spKeep C fld)) (hr : Room (k + 1) X.A) (hb : Binds X.K fd ps []) (hg : Gl X x) (hm : X.mg x = some (.ref C)) (ha : PA X (e :: es) ta)
    (hdb : (x == ("__debug__" : Str)) = false := by decide) (he : starEach (e :: es) X.env = (false, eval e X.env) :: starEach es X.env := by rfl) (hpl : (backTo pos (starEach es X.env)).any (·.1) = false := by rfl) :
    PMk X (.Call (.Name x p) (e :: es) [] pos) (tMkO C (spKeep C fld) [] ta) :=
  pmk_oex T iC tI F1 hr hb .nil pass0 hg hm ha hdb he hpl
end SupX

set_option Elab.async false
set_option linter.all false
set_option maxRecDepth 100000
set_option maxHeartbeats 4000000
namespace EV
open PySem PySem.Spec PyProof.Rows L2 EvS
def top (i : Nat) : Stmt := PySem.Challenge.pw_everyfire_k09_weathers.main.body.getD i (.Pass ⟨0, 0, 0, 0⟩)
abbrev s_check_weather : Stmt := top 9
abbrev s_check_winds : Stmt := top 10
abbrev s_check_rows : Stmt := top 11
abbrev s_wind_at : Stmt := top 12
abbrev s_is_name : Stmt := top 22
abbrev s__check_count : Stmt := top 23
abbrev s__check_names : Stmt := top 24
abbrev s__check_ends : Stmt := top 25
abbrev s__as_bounds : Stmt := top 26
abbrev s__as_link : Stmt := top 27
abbrev s__as_path : Stmt := top 28
abbrev s__check_single_paths : Stmt := top 29
abbrev s_init : Stmt := inClass (top 30) 0
abbrev s_link_names : Stmt := inClass (top 30) 1
abbrev s_check_wind : Stmt := inClass (top 30) 3
abbrev s__law_row : Stmt := top 32
abbrev s__law_numbers : Stmt := top 33
abbrev s__law_names : Stmt := top 34
abbrev s__law_parts : Stmt := top 35
abbrev s__law_made : Stmt := top 36
abbrev s__law_weather : Stmt := top 37
abbrev s__law_wind : Stmt := top 38
abbrev s__law_told : Stmt := top 39
abbrev s__law_spoilt : Stmt := top 40
abbrev s_law : Stmt := top 41
theorem sc_check_weather : FnScope ["land", "weather"] ["land", "weather"] (defScope s_check_weather) := ⟨rfl, rfl, rfl, by decide +kernel, rfl, by decide +kernel, by decide +kernel⟩
theorem sc_check_winds : FnScope ["land", "weather", "_", "wind"] ["land", "weather"] (defScope s_check_winds) := ⟨rfl, rfl, rfl, by decide +kernel, rfl, by decide +kernel, by decide +kernel⟩
theorem sc_check_rows : FnScope ["weather", "minutes", "before", "behind", "minute", "_"] ["weather"] (defScope s_check_rows) := ⟨rfl, rfl, rfl, by decide +kernel, rfl, by decide +kernel, by decide +kernel⟩
theorem sc_wind_at : FnScope ["land", "weather", "minute", "blowing", "begin", "wind"] ["land", "weather", "minute"] (defScope s_wind_at) := ⟨rfl, rfl, rfl, by decide +kernel, rfl, by decide +kernel, by decide +kernel⟩
theorem sc_is_name : FnScope ["text", "sign"] ["text"] (defScope s_is_name) := ⟨rfl, rfl, rfl, by decide +kernel, rfl, by decide +kernel, by decide +kernel⟩
theorem sc__check_count : FnScope ["sort", "rows", "least", "most"] ["sort", "rows", "least", "most"] (defScope s__check_count) := ⟨rfl, rfl, rfl, by decide +kernel, rfl, by decide +kernel, by decide +kernel⟩
theorem sc__check_names : FnScope ["sort", "names", "name"] ["sort", "names"] (defScope s__check_names) := ⟨rfl, rfl, rfl, by decide +kernel, rfl, by decide +kernel, by decide +kernel⟩
theorem sc__check_ends : FnScope ["sort", "one", "other", "places"] ["sort", "one", "other", "places"] (defScope s__check_ends) := ⟨rfl, rfl, rfl, by decide +kernel, rfl, by decide +kernel, by decide +kernel⟩
theorem sc__as_bounds : FnScope ["bounds", "least", "most"] ["bounds"] (defScope s__as_bounds) := ⟨rfl, rfl, rfl, by decide +kernel, rfl, by decide +kernel, by decide +kernel⟩
theorem sc__as_link : FnScope ["link", "winds", "places", "name", "one", "other", "times", "bounds"] ["link", "winds", "places"] (defScope s__as_link) := ⟨rfl, rfl, rfl, by decide +kernel, rfl, by decide +kernel, by decide +kernel⟩
theorem sc__as_path : FnScope ["path", "places", "one", "other", "minutes"] ["path", "places"] (defScope s__as_path) := ⟨rfl, rfl, rfl, by decide +kernel, rfl, by decide +kernel, by decide +kernel⟩
theorem sc__check_single_paths : FnScope ["paths", "ends", "one", "other", "_"] ["paths"] (defScope s__check_single_paths) := ⟨rfl, rfl, rfl, by decide +kernel, rfl, by decide +kernel, by decide +kernel⟩
theorem sc_init : FnScope ["self", "winds", "places", "links", "paths", "link", "path"] ["self", "winds", "places", "links", "paths"] (defScope s_init) := ⟨rfl, rfl, rfl, by decide +kernel, rfl, by decide +kernel, by decide +kernel⟩
theorem sc_link_names : FnScope ["self", "link"] ["self"] (defScope s_link_names) := ⟨rfl, rfl, rfl, by decide +kernel, rfl, by decide +kernel, by decide +kernel⟩
theorem sc_check_wind : FnScope ["self", "wind"] ["self", "wind"] (defScope s_check_wind) := ⟨rfl, rfl, rfl, by decide +kernel, rfl, by decide +kernel, by decide +kernel⟩
theorem sc__law_row : FnScope ["cell", "many", "row", "rest", "mixed", "k"] ["cell", "many"] (defScope s__law_row) := ⟨rfl, rfl, rfl, by decide +kernel, rfl, by decide +kernel, by decide +kernel⟩
theorem sc__law_numbers : FnScope ["script", "many", "cells", "each", "numbers", "cell", "number"] ["script", "many"] (defScope s__law_numbers) := ⟨rfl, rfl, rfl, by decide +kernel, rfl, by decide +kernel, by decide +kernel⟩
theorem sc__law_names : FnScope ["number", "many", "letters", "size", "rest", "place", "names", "k", "own", "spot", "step"] ["number", "many"] (defScope s__law_names) := ⟨rfl, rfl, rfl, by decide +kernel, rfl, by decide +kernel, by decide +kernel⟩
theorem sc__law_parts : FnScope ["numbers", "at", "winds", "places", "names", "links", "k", "spot", "one", "other", "times", "j", "number", "least"] ["numbers", "at"] (defScope s__law_parts) := ⟨rfl, rfl, rfl, by decide +kernel, rfl, by decide +kernel, by decide +kernel⟩
theorem sc__law_made : FnScope ["parts"] ["parts"] (defScope s__law_made) := ⟨rfl, rfl, rfl, by decide +kernel, rfl, by decide +kernel, by decide +kernel⟩
theorem sc__law_weather : FnScope ["parts", "numbers", "at", "weather", "k", "minute"] ["parts", "numbers", "at"] (defScope s__law_weather) := ⟨rfl, rfl, rfl, by decide +kernel, rfl, by decide +kernel, by decide +kernel⟩
theorem sc__law_wind : FnScope ["parts", "weather", "minute", "wind", "start", "name"] ["parts", "weather", "minute"] (defScope s__law_wind) := ⟨rfl, rfl, rfl, by decide +kernel, rfl, by decide +kernel, by decide +kernel⟩
theorem sc__law_told : FnScope ["which", "land", "weather", "e"] ["which", "land", "weather"] (defScope s__law_told) := ⟨rfl, rfl, rfl, by decide +kernel, rfl, by decide +kernel, by decide +kernel⟩
theorem sc__law_spoilt : FnScope ["weather", "number", "other", "which", "place", "minute", "wind", "k"] ["weather", "number", "other"] (defScope s__law_spoilt) := ⟨rfl, rfl, rfl, by decide +kernel, rfl, by decide +kernel, by decide +kernel⟩
theorem sc_law : FnScope ["script", "numbers", "parts", "land", "weather", "minute", "longest", "k", "due", "place", "handed", "which"] ["script"] (defScope s_law) := ⟨rfl, rfl, rfl, by decide +kernel, rfl, by decide +kernel, by decide +kernel⟩
abbrev s_UnknownName : Stmt := inClass (top 5) 0
structure PF (P : Program) : Prop where
  file : ((P.main.file : Str) == PySem.Challenge.pw_everyfire_k09_weathers.main.file) = true
  top : (P.main.scope.names.lookup ("super" : Str)).isSome = false
/-- where the top has put things -/
structure Ad where
  C : Addr
  tl : Addr
  te : Addr
  pr : Addr
  X_EveryfireError : Addr
  X_InvalidWeather : Addr
  X_UnknownName : Addr
  f_UnknownName : Addr
  d_UnknownName : FuncData
  cc_UnknownName : Addr
  cd_UnknownName : Addr
  f_check_weather : Addr
  d_check_weather : FuncData
  f_check_winds : Addr
  d_check_winds : FuncData
  f_check_rows : Addr
  d_check_rows : FuncData
  f_wind_at : Addr
  d_wind_at : FuncData
  f_is_name : Addr
  d_is_name : FuncData
  f__check_count : Addr
  d__check_count : FuncData
  f__check_names : Addr
  d__check_names : FuncData
  f__check_ends : Addr
  d__check_ends : FuncData
  f__as_bounds : Addr
  d__as_bounds : FuncData
  f__as_link : Addr
  d__as_link : FuncData
  f__as_path : Addr
  d__as_path : FuncData
  f__check_single_paths : Addr
  d__check_single_paths : FuncData
  f_init : Addr
  d_init : FuncData
  f_link_names : Addr
  d_link_names : FuncData
  f_check_wind : Addr
  d_check_wind : FuncData
  f__law_row : Addr
  d__law_row : FuncData
  f__law_numbers : Addr
  d__law_numbers : FuncData
  f__law_names : Addr
  d__law_names : FuncData
  f__law_parts : Addr
  d__law_parts : FuncData
  f__law_made : Addr
  d__law_made : FuncData
  f__law_weather : Addr
  d__law_weather : FuncData
  f__law_wind : Addr
  d__law_wind : FuncData
  f__law_told : Addr
  d__law_told : FuncData
  f__law_spoilt : Addr
  d__law_spoilt : FuncData
  f_law : Addr
  d_law : FuncData
structure Txt (K : PySem.W.Frag) (mg : Str → Option Value) (a : Ad) : Prop where
  F_check_weather : Fun K "check_weather" "check_weather" s_check_weather a.f_check_weather a.d_check_weather
  B_check_weather : Binds K a.d_check_weather ["land", "weather"] []
  k_check_weather : PySem.W.keepIn K (.ref a.f_check_weather) = true
  g_check_weather : mg "check_weather" = some (.ref a.f_check_weather)
  F_check_winds : Fun K "check_winds" "check_winds" s_check_winds a.f_check_winds a.d_check_winds
  B_check_winds : Binds K a.d_check_winds ["land", "weather"] []
  k_check_winds : PySem.W.keepIn K (.ref a.f_check_winds) = true
  g_check_winds : mg "check_winds" = some (.ref a.f_check_winds)
  F_check_rows : Fun K "check_rows" "check_rows" s_check_rows a.f_check_rows a.d_check_rows
  B_check_rows : Binds K a.d_check_rows ["weather"] []
  k_check_rows : PySem.W.keepIn K (.ref a.f_check_rows) = true
  g_check_rows : mg "check_rows" = some (.ref a.f_check_rows)
  F_wind_at : Fun K "wind_at" "wind_at" s_wind_at a.f_wind_at a.d_wind_at
  B_wind_at : Binds K a.d_wind_at ["land", "weather", "minute"] []
  k_wind_at : PySem.W.keepIn K (.ref a.f_wind_at) = true
  g_wind_at : mg "wind_at" = some (.ref a.f_wind_at)
  F_is_name : Fun K "is_name" "is_name" s_is_name a.f_is_name a.d_is_name
  B_is_name : Binds K a.d_is_name ["text"] []
  k_is_name : PySem.W.keepIn K (.ref a.f_is_name) = true
  g_is_name : mg "is_name" = some (.ref a.f_is_name)
  F__check_count : Fun K "_check_count" "_check_count" s__check_count a.f__check_count a.d__check_count
  B__check_count : Binds K a.d__check_count ["sort", "rows", "least", "most"] []
  k__check_count : PySem.W.keepIn K (.ref a.f__check_count) = true
  g__check_count : mg "_check_count" = some (.ref a.f__check_count)
  F__check_names : Fun K "_check_names" "_check_names" s__check_names a.f__check_names a.d__check_names
  B__check_names : Binds K a.d__check_names ["sort", "names"] []
  k__check_names : PySem.W.keepIn K (.ref a.f__check_names) = true
  g__check_names : mg "_check_names" = some (.ref a.f__check_names)
  F__check_ends : Fun K "_check_ends" "_check_ends" s__check_ends a.f__check_ends a.d__check_ends
  B__check_ends : Binds K a.d__check_ends ["sort", "one", "other", "places"] []
  k__check_ends : PySem.W.keepIn K (.ref a.f__check_ends) = true
  g__check_ends : mg "_check_ends" = some (.ref a.f__check_ends)
  F__as_bounds : Fun K "_as_bounds" "_as_bounds" s__as_bounds a.f__as_bounds a.d__as_bounds
  B__as_bounds : Binds K a.d__as_bounds ["bounds"] []
  k__as_bounds : PySem.W.keepIn K (.ref a.f__as_bounds) = true
  g__as_bounds : mg "_as_bounds" = some (.ref a.f__as_bounds)
  F__as_link : Fun K "_as_link" "_as_link" s__as_link a.f__as_link a.d__as_link
  B__as_link : Binds K a.d__as_link ["link", "winds", "places"] []
  k__as_link : PySem.W.keepIn K (.ref a.f__as_link) = true
  g__as_link : mg "_as_link" = some (.ref a.f__as_link)
  F__as_path : Fun K "_as_path" "_as_path" s__as_path a.f__as_path a.d__as_path
  B__as_path : Binds K a.d__as_path ["path", "places"] []
  k__as_path : PySem.W.keepIn K (.ref a.f__as_path) = true
  g__as_path : mg "_as_path" = some (.ref a.f__as_path)
  F__check_single_paths : Fun K "_check_single_paths" "_check_single_paths" s__check_single_paths a.f__check_single_paths a.d__check_single_paths
  B__check_single_paths : Binds K a.d__check_single_paths ["paths"] []
  k__check_single_paths : PySem.W.keepIn K (.ref a.f__check_single_paths) = true
  g__check_single_paths : mg "_check_single_paths" = some (.ref a.f__check_single_paths)
  F_init : FunD K "__init__" "Land.__init__" (defArgs s_init) (defBody s_init) (defScope s_init) [] [("links", .ref a.tl), ("paths", .ref a.te)] a.f_init a.d_init
  F_link_names : Fun K "link_names" "Land.link_names" s_link_names a.f_link_names a.d_link_names
  B_link_names : Binds K a.d_link_names ["self"] []
  k_link_names : PySem.W.keepIn K (.ref a.f_link_names) = true
  F_check_wind : Fun K "check_wind" "Land.check_wind" s_check_wind a.f_check_wind a.d_check_wind
  B_check_wind : Binds K a.d_check_wind ["self", "wind"] []
  k_check_wind : PySem.W.keepIn K (.ref a.f_check_wind) = true
  m_check_wind : Meth K a.C "check_wind" a.f_check_wind
  F__law_row : Fun K "_law_row" "_law_row" s__law_row a.f__law_row a.d__law_row
  B__law_row : Binds K a.d__law_row ["cell", "many"] []
  k__law_row : PySem.W.keepIn K (.ref a.f__law_row) = true
  g__law_row : mg "_law_row" = some (.ref a.f__law_row)
  F__law_numbers : Fun K "_law_numbers" "_law_numbers" s__law_numbers a.f__law_numbers a.d__law_numbers
  B__law_numbers : Binds K a.d__law_numbers ["script", "many"] []
  k__law_numbers : PySem.W.keepIn K (.ref a.f__law_numbers) = true
  g__law_numbers : mg "_law_numbers" = some (.ref a.f__law_numbers)
  F__law_names : Fun K "_law_names" "_law_names" s__law_names a.f__law_names a.d__law_names
  B__law_names : Binds K a.d__law_names ["number", "many"] []
  k__law_names : PySem.W.keepIn K (.ref a.f__law_names) = true
  g__law_names : mg "_law_names" = some (.ref a.f__law_names)
  F__law_parts : Fun K "_law_parts" "_law_parts" s__law_parts a.f__law_parts a.d__law_parts
  B__law_parts : Binds K a.d__law_parts ["numbers", "at"] []
  k__law_parts : PySem.W.keepIn K (.ref a.f__law_parts) = true
  g__law_parts : mg "_law_parts" = some (.ref a.f__law_parts)
  F__law_made : Fun K "_law_made" "_law_made" s__law_made a.f__law_made a.d__law_made
  B__law_made : Binds K a.d__law_made ["parts"] []
  k__law_made : PySem.W.keepIn K (.ref a.f__law_made) = true
  g__law_made : mg "_law_made" = some (.ref a.f__law_made)
  F__law_weather : Fun K "_law_weather" "_law_weather" s__law_weather a.f__law_weather a.d__law_weather
  B__law_weather : Binds K a.d__law_weather ["parts", "numbers", "at"] []
  k__law_weather : PySem.W.keepIn K (.ref a.f__law_weather) = true
  g__law_weather : mg "_law_weather" = some (.ref a.f__law_weather)
  F__law_wind : Fun K "_law_wind" "_law_wind" s__law_wind a.f__law_wind a.d__law_wind
  B__law_wind : Binds K a.d__law_wind ["parts", "weather", "minute"] []
  k__law_wind : PySem.W.keepIn K (.ref a.f__law_wind) = true
  g__law_wind : mg "_law_wind" = some (.ref a.f__law_wind)
  F__law_told : Fun K "_law_told" "_law_told" s__law_told a.f__law_told a.d__law_told
  B__law_told : Binds K a.d__law_told ["which", "land", "weather"] []
  k__law_told : PySem.W.keepIn K (.ref a.f__law_told) = true
  g__law_told : mg "_law_told" = some (.ref a.f__law_told)
  F__law_spoilt : Fun K "_law_spoilt" "_law_spoilt" s__law_spoilt a.f__law_spoilt a.d__law_spoilt
  B__law_spoilt : Binds K a.d__law_spoilt ["weather", "number", "other"] []
  k__law_spoilt : PySem.W.keepIn K (.ref a.f__law_spoilt) = true
  g__law_spoilt : mg "_law_spoilt" = some (.ref a.f__law_spoilt)
  F_law : Fun K "law" "law" s_law a.f_law a.d_law
  B_law : Binds K a.d_law ["script"] []
  k_law : PySem.W.keepIn K (.ref a.f_law) = true
  g_law : mg "law" = some (.ref a.f_law)
  z_ValueError : mg "ValueError" = none
  z_abs : mg "abs" = none
  z_all : mg "all" = none
  z_int : mg "int" = none
  z_isinstance : mg "isinstance" = none
  z_len : mg "len" = none
  z_list : mg "list" = none
  z_max : mg "max" = none
  z_min : mg "min" = none
  z_range : mg "range" = none
  z_set : mg "set" = none
  z_sorted : mg "sorted" = none
  z_tuple : mg "tuple" = none
  z_zip : mg "zip" = none
  c_DIGITS : ∃ t, mg "DIGITS" = some (.str "0123456789" t)
  c_LAST_CHANGE : ∃ t, mg "LAST_CHANGE" = some (.int 100000 t)
  c_LETTERS : ∃ t, mg "LETTERS" = some (.str "abcdefghijklmnopqrstuvwxyz" t)
  c_LONGEST_NAME : ∃ t, mg "LONGEST_NAME" = some (.int 12 t)
  c_MOST_LINKS : ∃ t, mg "MOST_LINKS" = some (.int 60 t)
  c_MOST_MINUTES : ∃ t, mg "MOST_MINUTES" = some (.int 1000 t)
  c_MOST_PATHS : ∃ t, mg "MOST_PATHS" = some (.int 60 t)
  c_MOST_PLACES : ∃ t, mg "MOST_PLACES" = some (.int 24 t)
  c_MOST_ROWS : ∃ t, mg "MOST_ROWS" = some (.int 40 t)
  c_MOST_WINDS : ∃ t, mg "MOST_WINDS" = some (.int 4 t)
  g_EveryfireError : mg "EveryfireError" = some (.ref a.X_EveryfireError)
  g_InvalidWeather : mg "InvalidWeather" = some (.ref a.X_InvalidWeather)
  g_UnknownName : mg "UnknownName" = some (.ref a.X_UnknownName)
  x_InvalidWeather : PySem.W.excIn K a.X_InvalidWeather [.type "ValueError", .type "Exception", .type "BaseException", .type "object"] "ValueError.__new__" = true
  k_InvalidWeather : PySem.W.keepIn K (.ref a.X_InvalidWeather) = true
  b_InvalidWeather : PySem.W.subIn K (.ref a.X_InvalidWeather) (.type "BaseException") = some true
  t_InvalidWeather : PySem.W.typeIn K (.ref a.X_InvalidWeather) = some (.type "type")
  o_UnknownName : OexC K a.X_UnknownName
  i_UnknownName : PySem.W.findIn K (.ref a.X_UnknownName) "__init__" = some (some (.ref a.f_UnknownName))
  ti_UnknownName : PySem.W.typeIn K (.ref a.f_UnknownName) = some (.type "function")
  B_UnknownName : Binds K a.d_UnknownName ["self", "name"] []
  S_UnknownName : ∀ {P : Program}, PF P → SupX.SupC P K mg a.X_UnknownName a.f_UnknownName a.cc_UnknownName a.cd_UnknownName "__init__" "UnknownName.__init__" "name" (defArgs s_UnknownName) (defBody s_UnknownName) (defScope s_UnknownName) a.d_UnknownName
  xf_UnknownName : XfC K a.X_UnknownName
  nf_UnknownName : PySem.W.findIn K (.ref a.X_UnknownName) "name" = some none
  ec_UnknownName : ExcC K a.X_UnknownName
  ec_InvalidWeather : ExcC K a.X_InvalidWeather
  kt_UnknownName_ValueError : PySem.W.kitOne K (.ref a.X_UnknownName) (.type "ValueError") = some true
  kt_InvalidWeather_ValueError : PySem.W.kitOne K (.ref a.X_InvalidWeather) (.type "ValueError") = some true
  kt_UnknownName_UnknownName : PySem.W.kitOne K (.ref a.X_UnknownName) (.ref a.X_UnknownName) = some true
  kt_InvalidWeather_UnknownName : PySem.W.kitOne K (.ref a.X_InvalidWeather) (.ref a.X_UnknownName) = some false
  kt_InvalidWeather_InvalidWeather : PySem.W.kitOne K (.ref a.X_InvalidWeather) (.ref a.X_InvalidWeather) = some true
  em_UnknownName_EveryfireError : PySem.W.exmOne K (.ref a.X_UnknownName) (.ref a.X_EveryfireError) = some true
  em_InvalidWeather_EveryfireError : PySem.W.exmOne K (.ref a.X_InvalidWeather) (.ref a.X_EveryfireError) = some true
  cl : Cls K a.C
  mk_Land : Mk K a.C a.f_init
  g_Land : mg "Land" = some (.ref a.C)
  nW : NoAttr K a.C "winds"
  nP : NoAttr K a.C "places"
  nL : NoAttr K a.C "links"
  nA : NoAttr K a.C "paths"
  p_link_names : PropOf K a.C "link_names" a.pr a.f_link_names
  tlT : ∀ H : Hp, SqT K H a.tl []
  teT : ∀ H : Hp, SqT K H a.te []
end EV

set_option Elab.async false
set_option linter.all false
set_option maxRecDepth 100000
set_option maxHeartbeats 4000000
namespace EV
open PySem PySem.Spec PyProof.Rows L2 EvS Evl
def LETS : List Nat := ("abcdefghijklmnopqrstuvwxyz" : Str).cps.toList
def DIGS : List Nat := ("0123456789" : Str).cps.toList
def okSign (c : Nat) : Bool := decide (c ∈ LETS) || decide (c ∈ DIGS)
/-- point 2 -/
def isName (z : Str) : Bool := decide (1 ≤ z.length ∧ z.length ≤ 12) && (z.cps.toList.head?.any fun c => decide (c ∈ LETS)) && z.cps.toList.all okSign
def sp_is_name : Sp := fun vs H Q _ => ∃ z : Str, vs = [.str z] ∧ z.length ≤ 10000 ∧ ∀ H', Ex H H' → Q (.bl (isName z)) H'
section
variable {P : Program} {w : World} {K : PySem.W.Frag} {mg : Str → Option Value} {base : Heap} {a : Ad}
theorem G_is_name (T : Txt K mg a) : FnOk P w K mg base CX0 1 a.f_is_name a.d_is_name ["text"] sp_is_name := by
  refine T.F_is_name.ok sc_is_name (fun vs H Q E h => ?_) (fun cdv A outer s H vs Q E hr h => ?_)
  · obtain ⟨z, rfl, _⟩ := h
    rfl
  · obtain ⟨z, rfl, hz, k⟩ := h
    have hzs : z.length ≤ sizeLine := sz_of (by omega)
    refine ⟨_, (pss_cons (ps_if (pt_not (pt_chain op_le op_le pe_int (pe_callB call_len_str (by rfl) T.z_len PySem.boot_len (pa_cons (pv 0) pa_nil)) (pe_gI rfl T.c_LONGEST_NAME))) (pss_one (ps_ret pe_bl)) pss_nil)
      (pss_one (ps_ret (pe_and (pe_cmpR op_in_sign (pe_ix ix_str (pv 0) pe_int (fun _ _ => rfl)) (pe_gS rfl T.c_LETTERS) rfl) (pe_one (pe_callB (cr_all rfl) (by rfl) T.z_all (by decide +kernel) (pa_cons (pe_lc (own := [("sign", 1)]) (g := gName 1) (tt := tYes) rfl sc_is_name.nd (pi_str (pv 0)) (blkOk_by (N := ["text", "sign"]) (sc := defScope s_is_name) (by decide +kernel)) (fun _ _ _ _ _ => pg_name (i := 1) sc_is_name.nd rfl (Or.inl rfl)) (fun _ _ _ _ _ => pts_nil) (fun _ _ _ _ _ => (pe_or (pe_cmpR op_in_sign (pv 1) (pe_gS rfl T.c_LETTERS) rfl) (pe_one (pe_cmpR op_in_sign (pv 1) (pe_gS rfl T.c_DIGITS) rfl))))) pa_nil))))))), ?_⟩
    have no : ¬ (1 ≤ z.length ∧ z.length ≤ 12) → Q (.bl false) H := fun n => by
      have e : isName z = false := by
        unfold isName
        rw [decide_eq_false n]
        rfl
      have q := k H (Ex.refl H)
      rw [e] at q
      exact q
    refine ⟨_, rfl, _, rfl, hzs, _, _, rfl, rfl, _, rfl, ?_⟩
    refine ite2 (fun h1 => ?_) (fun h1 => ?_)
    · refine ⟨_, _, rfl, rfl, _, rfl, ?_⟩
      have h1' : 1 ≤ z.length := by
        have := of_decide_eq_true h1
        omega
      refine ite2 (fun h2 => ?_) (fun h2 => ?_)
      · exact no (fun n => by simp at h2; omega)
      · have h2' : z.length ≤ 12 := by
          simp at h2
          omega
        have hsz : z.cps.size = z.length := rfl
        obtain ⟨c0, hc0⟩ : ∃ c, z.cps[0]? = some c := ⟨_, Array.getElem?_eq_getElem (by omega)⟩
        have hl0 : z.cps.toList[0]? = some c0 := by rw [Array.getElem?_toList]; exact hc0
        have hh : z.cps.toList.head? = some c0 := by rw [List.head?_eq_getElem?]; exact hl0
        refine ⟨_, rfl, z, 0, c0, rfl, rfl, hzs, ?_, ?_⟩
        · have := atI_nat (j := 0) hl0
          simpa using this
        · refine ⟨c0, _, rfl, rfl, _, rfl, ?_⟩
          have rest : ∀ H', Ex H H' → Q (.bl (decide (c0 ∈ LETS) && z.cps.toList.all okSign)) H' := fun H' e => by
            have q := k H' e
            have ei : isName z = (decide (c0 ∈ LETS) && z.cps.toList.all okSign) := by
              unfold isName
              rw [decide_eq_true (show 1 ≤ z.length ∧ z.length ≤ 12 from ⟨h1', h2'⟩), hh]
              rfl
            rw [ei] at q
            exact q
          refine ite2 (fun h3 => ?_) (fun h3 => ?_)
          · have h3' : decide (c0 ∈ LETS) = true := h3
            rw [h3', Bool.true_and] at rest
            have hlen : z.cps.toList.length = z.cps.size := Array.length_toList
            refine ⟨_, rfl, z, rfl, fun D hD => lcY_sign (fun i H' => H D = none ∧ Ex H H' ∧ H' D = some (.lst ((z.cps.toList.take i).map fun c => V.bl (okSign c)))) ⟨hD, Ex.new hD, upd_same⟩ (fun i c H' hc p => ?_) (fun H' p => ?_)⟩
            · obtain ⟨p1, p2, p3⟩ := p
              have hil : i < z.cps.size := (Array.getElem?_eq_some_iff.mp hc).1
              have hlc : z.cps.toList[i]? = some c := by rw [Array.getElem?_toList]; exact hc
              have stp : (z.cps.toList.take (i + 1)).map (fun c => V.bl (okSign c)) = (z.cps.toList.take i).map (fun c => V.bl (okSign c)) ++ [V.bl (okSign c)] := by
                rw [List.take_add_one, hlc, List.map_append]
                rfl
              have fin : ∃ acc, H' D = some (.lst acc) ∧ acc.length < sizeLine ∧ H D = none ∧ Ex H (upd H' D (.lst (acc ++ [V.bl (okSign c)]))) ∧ (upd H' D (.lst (acc ++ [V.bl (okSign c)]))) D = some (.lst ((z.cps.toList.take (i + 1)).map fun c => V.bl (okSign c))) := by
                refine ⟨_, p3, sz_lt ?_, p1, Ex.mut p2 p1, ?_⟩
                · rw [List.length_map, List.length_take]
                  omega
                · rw [stp]
                  exact upd_same
              refine ⟨rfl, ?_⟩
              refine ⟨_, rfl, c, _, rfl, rfl, _, rfl, ?_⟩
              refine ite2 (fun h5 => ?_) (fun h5 => ?_)
              · have e : okSign c = true := by
                  unfold okSign
                  rw [show decide (c ∈ LETS) = true from h5]
                  rfl
                rw [e] at fin
                exact fin
              · refine ⟨_, rfl, c, _, rfl, rfl, ?_⟩
                have e : okSign c = decide (c ∈ DIGS) := by
                  unfold okSign
                  rw [show decide (c ∈ LETS) = false from Bool.eq_false_iff.mpr h5]
                  rfl
                rw [e] at fin
                exact fin
            · obtain ⟨p1, p2, p3⟩ := p
              rw [← hlen, List.take_length] at p3
              refine ⟨D, z.cps.toList.map okSign, rfl, ?_, ?_⟩
              · rw [List.map_map]
                exact SqL.of p3
              · have q := rest H' p2
                have e : (z.cps.toList.map okSign).all id = z.cps.toList.all okSign := by
                  rw [List.all_map]
                  rfl
                rw [e]
                exact q
          · have h3' : decide (c0 ∈ LETS) = false := Bool.eq_false_iff.mpr h3
            rw [h3', Bool.false_and] at rest
            exact rest H (Ex.refl H)
    · exact ⟨_, rfl, no (fun n => by simp at h1; omega)⟩
end
end EV

set_option Elab.async false
set_option linter.all false
set_option maxRecDepth 100000
set_option maxHeartbeats 4000000
namespace EV
open PySem PySem.Spec PyProof.Rows L2 EvS Evl
def Small (l : List Int) : Prop := ∀ n ∈ l, 0 ≤ n ∧ n < 1009
theorem small_snoc {l : List Int} {n : Int} (h : Small l) (a : 0 ≤ n) (b : n < 1009) : Small (l ++ [n]) := fun x hx => by
  rcases List.mem_append.mp hx with q | q
  · exact h x q
  · rw [List.mem_singleton] at q
    subst q
    exact ⟨a, b⟩
/-- a new list of m small numbers -/
def NewNums (m : Int) (H : Hp) (Q : VK) : Prop := ∀ H' p (ns : List Int), Ex H H' → H p = none → H' p = some (.lst (ns.map V.int)) → (ns.length : Int) = m → Small ns → Q (.ref p) H'
def sp__law_row : Sp := fun vs H Q _ => ∃ (c m : Int), vs = [.int c, .int m] ∧ 0 ≤ m ∧ m ≤ 10000 ∧ NewNums m H Q
def sp__law_numbers (K : PySem.W.Frag) : Sp := fun vs H Q _ => ∃ (p : Addr) (ns : List Int) (m : Int), vs = [.ref p, .int m] ∧ SqL K H p (ns.map V.int) ∧ 0 ≤ m ∧ m ≤ 1000 ∧ NewNums m H Q
theorem cutV_to (xs : List V) (k : Nat) : cutV xs none (some (k : Int)) = xs.take k := by
  unfold cutV
  rw [HT.sIx_nat, HT.sIx_none, List.drop_zero, Nat.sub_zero]
  rcases Nat.le_total k xs.length with h | h
  · rw [Nat.min_eq_left h]
  · rw [Nat.min_eq_right h, List.take_length, List.take_of_length_le h]
section
variable {P : Program} {w : World} {K : PySem.W.Frag} {mg : Str → Option Value} {base : Heap} {a : Ad}
theorem G__law_row (T : Txt K mg a) : FnOk P w K mg base CX0 1 a.f__law_row a.d__law_row ["cell", "many"] sp__law_row := by
  refine T.F__law_row.ok sc__law_row (fun vs H Q E h => ?_) (fun cdv A outer s H vs Q E hr h => ?_)
  · obtain ⟨c, m, rfl, _⟩ := h
    rfl
  · obtain ⟨c, m, rfl, m0, m1, k⟩ := h
    refine ⟨_, (pss_cons (ps_set (i := 2) sc__law_row.nd rfl (Or.inl rfl) (pe_lst pa_nil))
      (pss_cons (ps_set (i := 3) sc__law_row.nd rfl (Or.inl rfl) (pe_callB call_abs (by rfl) T.z_abs (by decide +kernel) (pa_cons (pv 0) pa_nil)))
      (pss_cons (ps_set (i := 4) sc__law_row.nd rfl (Or.inl rfl) (pe_op op_mod (pe_callTy call_int1 (by rfl) T.z_int (by decide +kernel) (pa_cons (pe_op op_add (pe_op op_mul (pv 3) pe_int) pe_int) pa_nil)) pe_int))
      (pss_cons (ps_for PassesOwn.never rfl (pi_range1 (by rfl) T.z_range (pa_cons (pv 1) pa_nil)) (pg_name (i := 5) sc__law_row.nd rfl (Or.inl rfl)) (pss_cons (ps_set (i := 4) sc__law_row.nd rfl (Or.inl rfl) (pe_op op_mod (pe_callTy call_int1 (by rfl) T.z_int (by decide +kernel) (pa_cons (pe_op op_add (pe_op op_mul (pv 4) pe_int) (pe_op op_mul pe_int (pe_op op_add (pv 5) pe_int))) pa_nil)) pe_int))
        (pss_one (ps_if (pt_cmpR op_ge (pe_callB call_abs (by rfl) T.z_abs (by decide +kernel) (pa_cons (pv 0) pa_nil)) (pe_op op_pow pe_int pe_int) (nomark _)) (pss_cons (ps_expr (pe_bm PySem.F.plainAttrs_list PySem.F.slot_list_append PySem.F.type_list_append mt_append (pv 2) (pa_cons (pe_op op_mod (pe_callTy call_int1 (by rfl) T.z_int (by decide +kernel) (pa_cons (pv 3) pa_nil)) pe_int) pa_nil)))
          (pss_one (ps_set (i := 3) sc__law_row.nd rfl (Or.inl rfl) (pe_op op_fdiv (pv 3) pe_int)))) (pss_one (ps_expr (pe_bm PySem.F.plainAttrs_list PySem.F.slot_list_append PySem.F.type_list_append mt_append (pv 2) (pa_cons (pe_op op_mod (pe_callTy call_int1 (by rfl) T.z_int (by decide +kernel) (pa_cons (pe_op op_fdiv (pv 4) pe_int) pa_nil)) pe_int) pa_nil))))))))
      (pss_one (ps_ret (pv 2))))))), ?_⟩
    refine ⟨Nat.zero_le _, fun l hl => ?_⟩
    refine ⟨_, rfl, _, rfl, ?_⟩
    refine ⟨_, rfl, _, _, rfl, rfl, .inr ⟨by decide, by decide⟩, _, _, rfl, rfl, .inl ⟨_, rfl, _, _, rfl, rfl, (by show (0 : Int) < 2147483647; decide), ?_⟩⟩
    refine ⟨_, rfl, _, rfl, by omega, by omega, for_range (n := m.toNat) (fun i σ H' => ∃ (r x : Int) (ns : List Int) (v : Option V), σ = [some (.int c), some (.int m), some (.ref l), some (.int r), some (.int x), v] ∧ Ex H H' ∧ H' l = some (.lst (ns.map V.int)) ∧ ns.length = i ∧ Small ns) ?_ ?_ ?_⟩
    · exact ⟨_, _, [], none, rfl, Ex.new hl, upd_same, rfl, fun n hn => by cases hn⟩
    · rintro i σ H' hi ⟨r, x, ns, v, rfl, e, hL, hlen, hs⟩
      have room : (ns.map V.int).length < sizeLine := sz_lt (by rw [List.length_map]; omega)
      have nx : ∀ (r' x' y : Int), 0 ≤ y → y < 1009 → ∃ (r x : Int) (ns' : List Int) (v' : Option V), [some (V.int c), some (V.int m), some (V.ref l), some (V.int r'), some (V.int x'), some (V.int (0 + (i : Int)))] = [some (V.int c), some (V.int m), some (V.ref l), some (V.int r), some (V.int x), v'] ∧
          Ex H (upd H' l (.lst (ns.map V.int ++ [V.int y]))) ∧ (upd H' l (.lst (ns.map V.int ++ [V.int y]))) l = some (.lst (ns'.map V.int)) ∧ ns'.length = i + 1 ∧ Small ns' := fun r' x' y h0 h1 =>
        ⟨_, _, ns ++ [y], _, rfl, Ex.mut e hl, by rw [upd_same, List.map_append] <;> rfl, by rw [List.length_append, hlen] <;> rfl, small_snoc hs h0 h1⟩
      refine ⟨_, rfl, _, _, rfl, rfl, .inr ⟨by decide, by decide⟩, _, rfl, _, _, rfl, rfl, _, _, rfl, rfl, .inl ⟨by decide, by decide⟩, _, _, rfl, rfl, .inl ⟨_, rfl, _, _, rfl, rfl, (by show (0 : Int) < 2147483629; decide), ?_⟩⟩
      refine ⟨_, rfl, _, rfl, _, _, rfl, rfl, ⟨by decide, by decide, by decide⟩, _, _, rfl, rfl, _, rfl, ?_⟩
      refine ite2 (fun _ => ?_) (fun _ => ?_)
      · refine ⟨_, rfl, .inl ⟨rfl, _, SqL.of hL⟩, _, rfl, .inl ⟨_, rfl, _, _, rfl, rfl, (by show (0 : Int) < 1009; decide), l, _, _, rfl, rfl, hL, room, ?_⟩⟩
        refine ⟨_, rfl, _, _, rfl, rfl, ⟨by decide, by decide⟩, ?_⟩
        exact nx _ _ _ (Int.emod_nonneg _ (by decide)) (Int.emod_lt_of_pos _ (by decide))
      · refine ⟨_, rfl, .inl ⟨rfl, _, SqL.of hL⟩, _, rfl, _, _, rfl, rfl, ⟨by decide, by decide⟩, .inl ⟨_, rfl, _, _, rfl, rfl, (by show (0 : Int) < 1009; decide), l, _, _, rfl, rfl, hL, room, ?_⟩⟩
        exact nx _ _ _ (Int.emod_nonneg _ (by decide)) (Int.emod_lt_of_pos _ (by decide))
    · rintro σ H' ⟨r, x, ns, v, rfl, e, hL, hlen, hs⟩
      exact ⟨_, rfl, k H' l ns e hl hL (by omega) hs⟩
theorem G__law_numbers (T : Txt K mg a) : FnOk P w K mg base CX0 2 a.f__law_numbers a.d__law_numbers ["script", "many"] (sp__law_numbers K) := by
  refine T.F__law_numbers.ok sc__law_numbers (fun vs H Q E h => ?_) (fun cdv A outer s H vs Q E hr h => ?_)
  · obtain ⟨p, ns, m, rfl, _⟩ := h
    rfl
  · obtain ⟨p, ns, m, rfl, hS, m0, m1, k⟩ := h
    refine ⟨_, (pss_cons (ps_set (i := 2) sc__law_numbers.nd rfl (Or.inl rfl) (pe_slice sl_list (pv 0) po_none (po_some pe_int)))
      (pss_cons (ps_set (i := 3) sc__law_numbers.nd rfl (Or.inl rfl) (pe_op op_add pe_int (pe_op op_fdivN (pv 1) (pe_callB (call_max2 rfl) (by rfl) T.z_max (by decide +kernel) (pa_cons pe_int (pa_cons (pe_callB call_len_seq (by rfl) T.z_len PySem.boot_len (pa_cons (pv 2) pa_nil)) pa_nil))))))
      (pss_cons (ps_set (i := 4) sc__law_numbers.nd rfl (Or.inl rfl) (pe_lst pa_nil))
      (pss_cons (ps_for PassesOwn.never rfl (pi_list (pv 2)) (pg_name (i := 5) sc__law_numbers.nd rfl (Or.inl rfl)) (pss_one (ps_for PassesOwn.never rfl (pi_list (pe_call (G__law_row T) (hr.mono (by decide)) (by rfl) T.g__law_row T.k__law_row T.B__law_row .nil pass0 (pa_cons (pv 5) (pa_cons (pv 3) pa_nil)))) (pg_name (i := 6) sc__law_numbers.nd rfl (Or.inl rfl)) (pss_one (ps_expr (pe_bm PySem.F.plainAttrs_list PySem.F.slot_list_append PySem.F.type_list_append mt_append (pv 4) (pa_cons (pv 6) pa_nil)))))))
      (pss_cons (ps_while PassesOwn.never (pt_cmpR op_lt (pe_callB call_len_seq (by rfl) T.z_len PySem.boot_len (pa_cons (pv 4) pa_nil)) (pv 1) (nomark _)) (pss_one (ps_expr (pe_bm PySem.F.plainAttrs_list PySem.F.slot_list_append PySem.F.type_list_append mt_append (pv 4) (pa_cons pe_int pa_nil)))))
      (pss_one (ps_ret (pe_slice sl_list (pv 4) po_none (po_some (pv 1)))))))))), ?_⟩
    -- cells = script[:63]
    refine ⟨_, rfl, _, rfl, p, _, rfl, hS, fun q hq => ?_⟩
    have hcs : cutV (ns.map V.int) none (some ((63 : Nat) : Int)) = (ns.take 63).map V.int := by
      rw [cutV_to, List.map_take]
    show tSeq _ _ _ _ (upd H q (.lst (cutV (ns.map V.int) none (some ((63 : Nat) : Int)))))
    rw [hcs]
    generalize hcd : ns.take 63 = cs
    have hcl : cs.length ≤ 63 := by
      rw [← hcd, List.length_take]
      omega
    have hlc : (cs.map V.int).length = cs.length := List.length_map ..
    have e1 : Ex H (upd H q (.lst (cs.map V.int))) := Ex.new hq
    -- each = 1 + many // max(1, len(cells))
    refine ⟨_, rfl, _, rfl, q, _, rfl, .inl (SqL.of upd_same), _, _, rfl, _, _, rfl, rfl, ⟨?_, ?_⟩, _, _, rfl, rfl, ?_⟩
    · split <;> omega
    · rw [hlc]
      split <;> omega
    generalize hd : (if ((cs.map V.int).length : Int) > 1 then ((cs.map V.int).length : Int) else 1) = d
    have d1 : 1 ≤ d := by
      rw [← hd]
      split <;> omega
    have f0 : 0 ≤ m.fdiv d := by
      rw [Int.fdiv_eq_ediv_of_nonneg _ (by omega)]
      exact Int.ediv_nonneg m0 (by omega)
    have f1 : m.fdiv d ≤ 1000 := by
      rw [Int.fdiv_eq_ediv_of_nonneg _ (by omega)]
      exact Int.le_trans (Int.ediv_le_self _ m0) m1
    generalize m.fdiv d = f at f0 f1
    -- numbers = []
    refine ⟨Nat.zero_le _, fun l hl => ?_⟩
    have hlH : H l = none := fresh_back e1 hl
    have nql : q ≠ l := ne_of_none upd_same hl
    have nlq : l ≠ q := Ne.symm nql
    refine ⟨_, rfl, q, rfl, ⟨_, SqL.of (by rw [upd_ne nql]; exact upd_same)⟩, for_list (K := K) (a := q) (xs := cs.map V.int) (fun i σ H' => ∃ (ks : List Int) (v5 v6 : Option V), σ = [some (.ref p), some (.int m), some (.ref q), some (.int (1 + f)), some (.ref l), v5, v6] ∧
      Ex H H' ∧ H' q = some (.lst (cs.map V.int)) ∧ H' l = some (.lst (ks.map V.int)) ∧ ks.length ≤ i * 1001 ∧ Small ks) ?_ ?_ ?_ ?_⟩
    · exact ⟨[], none, none, rfl, e1.trans (Ex.new hl), by rw [upd_ne nql]; exact upd_same, upd_same, by simp, fun n hn => by cases hn⟩
    · rintro i σ H' _ ⟨ks, v5, v6, rfl, e, hQ, hL, _⟩
      exact SqL.of hQ
    · rintro i y σ H' hi ⟨ks, v5, v6, rfl, e, hQ, hL, hn, hs⟩
      have hi63 : i < cs.length := by
        have z := (List.getElem?_eq_some_iff.mp hi).1
        rw [hlc] at z
        exact z
      obtain ⟨c, rfl⟩ : ∃ c, y = V.int c := by
        rw [List.getElem?_map] at hi
        cases z : cs[i]? with
        | none =>
          rw [z] at hi
          cases hi
        | some c =>
          rw [z] at hi
          exact ⟨c, (Option.some.inj hi).symm⟩
      -- for number in _law_row(cell, each)
      refine ⟨_, rfl, _, rfl, c, 1 + f, rfl, by omega, by omega, fun H2 r rs e2 hr hR hrl hrs => ⟨r, rfl, ⟨_, SqL.of hR⟩, ?_⟩⟩
      have nrl : r ≠ l := Ne.symm (ne_of_none hL hr)
      have nrq : q ≠ r := ne_of_none hQ hr
      have nlr : l ≠ r := Ne.symm nrl
      refine for_list (K := K) (a := r) (xs := rs.map V.int) (fun j σ H' => ∃ (ks' : List Int) (v6 : Option V), σ = [some (.ref p), some (.int m), some (.ref q), some (.int (1 + f)), some (.ref l), some (.int c), v6] ∧
        Ex H H' ∧ H' q = some (.lst (cs.map V.int)) ∧ H' r = some (.lst (rs.map V.int)) ∧ H' l = some (.lst (ks'.map V.int)) ∧ ks'.length = ks.length + j ∧ Small ks') ?_ ?_ ?_ ?_
      · exact ⟨ks, v6, rfl, e.trans e2, e2 _ _ hQ, hR, e2 _ _ hL, rfl, hs⟩
      · rintro j σ H' _ ⟨ks', v6, rfl, _, _, h3, _⟩
        exact SqL.of h3
      · rintro j y σ H' hj ⟨ks', v6, rfl, e3, hQ3, hR3, hL3, hn3, hs3⟩
        have hjr : j < rs.length := by
          have z := (List.getElem?_eq_some_iff.mp hj).1
          rw [List.length_map] at z
          exact z
        obtain ⟨n, hnm, rfl⟩ : ∃ n, n ∈ rs ∧ y = V.int n := by
          rw [List.getElem?_map] at hj
          cases z : rs[j]? with
          | none =>
            rw [z] at hj
            cases hj
          | some n =>
            rw [z] at hj
            exact ⟨n, List.mem_of_getElem? z, (Option.some.inj hj).symm⟩
        refine ⟨_, rfl, .inl ⟨rfl, _, SqL.of hL3⟩, _, rfl, l, _, _, rfl, rfl, hL3, sz_lt (by rw [List.length_map]; omega), ?_⟩
        exact ⟨ks' ++ [n], _, rfl, Ex.mut e3 hlH, by rw [upd_ne nql]; exact hQ3, by rw [upd_ne nrl]; exact hR3, by rw [upd_same, List.map_append] <;> rfl, by rw [List.length_append, hn3] <;> rfl, small_snoc hs3 (hrs n hnm).1 (hrs n hnm).2⟩
      · rintro σ H' ⟨ks', v6, rfl, e3, hQ3, hR3, hL3, hn3, hs3⟩
        rw [List.length_map] at hn3
        exact ⟨ks', _, _, rfl, e3, hQ3, hL3, by omega, hs3⟩
    · rintro σ H' ⟨ks, v5, v6, rfl, e, hQ, hL, hn, hs⟩
      rw [hlc] at hn
      -- while len(numbers) < many
      refine ⟨fun j σ H' => ∃ ks' : List Int, j = (m.toNat - ks'.length) ∧ σ = [some (.ref p), some (.int m), some (.ref q), some (.int (1 + f)), some (.ref l), v5, v6] ∧ Ex H H' ∧ H' l = some (.lst (ks'.map V.int)) ∧ ks'.length ≤ 70000 ∧ Small ks',
        ⟨_, ks, rfl, rfl, e, hL, by omega, hs⟩, ?_⟩
      rintro j σ H' ⟨ks', rfl, rfl, e3, hL3, hn3, hs3⟩
      have hlk : (ks'.map V.int).length = ks'.length := List.length_map ..
      refine ⟨_, rfl, l, _, rfl, .inl (SqL.of hL3), _, rfl, _, _, rfl, rfl, _, rfl, ?_⟩
      refine ite2 (fun lt => ?_) (fun ge => ?_)
      · have lt' : (ks'.length : Int) < m := by
          have z := of_decide_eq_true lt
          rw [hlk] at z
          exact z
        refine ⟨_, fun σ' H' z => z, ?_⟩
        refine ⟨_, rfl, .inl ⟨rfl, _, SqL.of hL3⟩, l, _, _, rfl, rfl, hL3, sz_lt (by rw [hlk]; omega), ?_⟩
        exact ⟨_, by show m.toNat - (ks' ++ [0]).length < _; rw [List.length_append, List.length_singleton]; omega, ks' ++ [0], rfl, rfl, Ex.mut e3 hlH, by rw [upd_same, List.map_append] <;> rfl, by rw [List.length_append, List.length_singleton]; omega, small_snoc hs3 (by decide) (by decide)⟩
      · have ge' : m ≤ (ks'.length : Int) := by
          have z : ¬ ((ks'.map V.int).length : Int) < m := fun z => ge (decide_eq_true z)
          rw [hlk] at z
          omega
        -- return numbers[:many]
        refine ⟨_, rfl, _, rfl, _, rfl, l, _, rfl, SqL.of hL3, fun u hu => ?_⟩
        have em : m = ((m.toNat : Nat) : Int) := by omega
        have hcu : cutV (ks'.map V.int) none (some m) = (ks'.take m.toNat).map V.int := by
          rw [em, cutV_to, List.map_take]
          rfl
        show Q (.ref u) (upd H' u (.lst (cutV (ks'.map V.int) none (some m))))
        rw [hcu]
        refine k _ u (ks'.take m.toNat) (e3.trans (Ex.new hu)) (fresh_back e3 hu) upd_same ?_ (fun x hx => hs3 x (List.mem_of_mem_take hx))
        rw [List.length_take]
        omega
end
end EV

set_option Elab.async false
set_option linter.all false
set_option maxRecDepth 100000
set_option maxHeartbeats 4000000
namespace EV
open PySem PySem.Spec PyProof.Rows L2 EvS Evl
/-! ### the data of a land -/
structure Link where
  n : Str
  o : Str
  t : Str
  ts : List (Option (Int × Int))
structure LandD where
  ws : List Str
  ps : List Str
  ls : List Link
  pa : List (Str × Str × Int)
def dTime : Option (Int × Int) → PyData
  | none => .none
  | some b => .tuple [.int b.1, .int b.2]
def dRaw (k : Link) : PyData := .tuple [.str k.n, .str k.o, .str k.t, .list (k.ts.map dTime)]
def dLink (k : Link) : PyData := .tuple [.str k.n, .str k.o, .str k.t, .tuple (k.ts.map dTime)]
def dPath (p : Str × Str × Int) : PyData := .tuple [.str p.1, .str p.2.1, .int p.2.2]
def dParts (D : LandD) : PyData := .list [.list (D.ws.map .str), .list (D.ps.map .str), .list (D.ls.map dRaw), .list (D.pa.map dPath)]
def dLand (D : LandD) : PyData := .tuple [.tuple (D.ws.map .str), .tuple (D.ps.map .str), .tuple (D.ls.map dLink), .tuple (D.pa.map dPath)]
def Good (ns : List Str) : Prop := (∀ n ∈ ns, isName n = true) ∧ ns.Nodup
def TimeOk : Option (Int × Int) → Prop
  | none => True
  | some b => 1 ≤ b.1 ∧ b.1 ≤ b.2 ∧ b.2 ≤ 1000
structure LinkOk (ws ps : List Str) (k : Link) : Prop where
  o : k.o ∈ ps
  t : k.t ∈ ps
  ne : k.o ≠ k.t
  len : k.ts.length = ws.length
  ok : ∀ b ∈ k.ts, TimeOk b
structure PathOk (ps : List Str) (p : Str × Str × Int) : Prop where
  o : p.1 ∈ ps
  t : p.2.1 ∈ ps
  ne : p.1 ≠ p.2.1
  lo : 1 ≤ p.2.2
  hi : p.2.2 ≤ 1000
def Apart (p q : Str × Str) : Prop := ¬ [p.1, p.2].Perm [q.1, q.2]
structure LandOk (D : LandD) : Prop where
  w1 : 1 ≤ D.ws.length
  w4 : D.ws.length ≤ 4
  p1 : 1 ≤ D.ps.length
  p24 : D.ps.length ≤ 24
  l60 : D.ls.length ≤ 60
  a60 : D.pa.length ≤ 60
  gw : Good D.ws
  gp : Good D.ps
  gl : Good (D.ls.map (·.n))
  lk : ∀ k ∈ D.ls, LinkOk D.ws D.ps k
  pt : ∀ p ∈ D.pa, PathOk D.ps p
  ap : (D.pa.map fun p => (p.1, p.2.1)).Pairwise Apart
theorem name_len {z : Str} (h : isName z = true) : 1 ≤ z.length ∧ z.length ≤ 12 := by
  unfold isName at h
  rw [Bool.and_eq_true, Bool.and_eq_true] at h
  exact of_decide_eq_true h.1.1
/-! ### data that stands -/
mutual
theorem dp_ex {K : PySem.W.Frag} {H H' : Hp} (e : Ex H H') : ∀ {v : V} {d : PyData}, Dp K H v d → Dp K H' v d
  | _, _, .non => .non
  | _, _, .bl b => .bl b
  | _, _, .int i => .int i
  | _, _, .str x => .str x
  | _, _, .lst h r => .lst (ex_l e h) (dps_ex e r)
  | _, _, .tup h r => .tup (ex_t e h) (dps_ex e r)
theorem dps_ex {K : PySem.W.Frag} {H H' : Hp} (e : Ex H H') : ∀ {vs : List V} {ds : List PyData}, DpAll K H vs ds → DpAll K H' vs ds
  | _, _, .nil => .nil
  | _, _, .cons h r => .cons (dp_ex e h) (dps_ex e r)
end
theorem dps_len {K : PySem.W.Frag} {H : Hp} : ∀ {vs : List V} {ds : List PyData}, DpAll K H vs ds → vs.length = ds.length
  | _, _, .nil => rfl
  | _, _, .cons _ r => congrArg Nat.succ (dps_len r)
theorem dps_at {K : PySem.W.Frag} {H : Hp} : ∀ {vs : List V} {ds : List PyData} {i : Nat} {v : V}, DpAll K H vs ds → vs[i]? = some v → ∃ d, ds[i]? = some d ∧ Dp K H v d
  | _, _, _, _, .nil, h => by simp at h
  | _, _, 0, _, .cons h _, e => by
    simp only [List.getElem?_cons_zero, Option.some.injEq] at e
    subst e
    exact ⟨_, rfl, h⟩
  | _, _, i + 1, _, .cons _ r, e => by
    simp only [List.getElem?_cons_succ] at e
    exact dps_at (i := i) r e
theorem dps_app {K : PySem.W.Frag} {H : Hp} : ∀ {vs us : List V} {ds es : List PyData}, DpAll K H vs ds → DpAll K H us es → DpAll K H (vs ++ us) (ds ++ es)
  | _, _, _, _, .nil, b => b
  | _, _, _, _, .cons h r, b => .cons h (dps_app r b)
theorem dps_one {K : PySem.W.Frag} {H : Hp} {v : V} {d : PyData} (h : Dp K H v d) : DpAll K H [v] [d] := .cons h .nil
theorem dps_str {K : PySem.W.Frag} {H : Hp} : ∀ ns : List Str, DpAll K H (ns.map V.str) (ns.map PyData.str)
  | [] => .nil
  | n :: r => .cons (.str n) (dps_str r)
theorem dps_strs {K : PySem.W.Frag} {H : Hp} : ∀ {ns : List Str} {vs : List V}, DpAll K H vs (ns.map PyData.str) → vs = ns.map V.str
  | [], _, .nil => rfl
  | n :: r, _, .cons h t => by
    cases h
    rw [dps_strs t]
    rfl
def Seq2 (K : PySem.W.Frag) (H : Hp) (p : Addr) (xs : List V) : Prop := SqL K H p xs ∨ SqT K H p xs
theorem Seq2.ex {K : PySem.W.Frag} {H H' : Hp} {p : Addr} {xs : List V} (e : Ex H H') (h : Seq2 K H p xs) : Seq2 K H' p xs := h.elim (fun q => .inl (ex_l e q)) (fun q => .inr (ex_t e q))
/-- a link as it is handed in: its times are a list or a tuple -/
def LinkIn (K : PySem.W.Frag) (H : Hp) (v : V) (k : Link) : Prop := ∃ t u vs, v = .ref t ∧ SqT K H t [.str k.n, .str k.o, .str k.t, .ref u] ∧ Seq2 K H u vs ∧ DpAll K H vs (k.ts.map dTime)
theorem LinkIn.ex {K : PySem.W.Frag} {H H' : Hp} {v : V} {k : Link} (e : Ex H H') (h : LinkIn K H v k) : LinkIn K H' v k := by
  obtain ⟨t, u, vs, rfl, h1, h2, h3⟩ := h
  exact ⟨t, u, vs, rfl, ex_t e h1, h2.ex e, dps_ex e h3⟩
theorem raw_in {K : PySem.W.Frag} {H : Hp} {v : V} {k : Link} (h : Dp K H v (dRaw k)) : LinkIn K H v k := by
  unfold dRaw at h
  cases h with
  | tup hs hr =>
    cases hr with
    | cons a1 hr =>
      cases a1
      cases hr with
      | cons a2 hr =>
        cases a2
        cases hr with
        | cons a3 hr =>
          cases a3
          cases hr with
          | cons a4 hr =>
            cases hr
            cases a4 with
            | lst hl ha => exact ⟨_, _, _, rfl, hs, .inl hl, ha⟩
theorem made_in {K : PySem.W.Frag} {H : Hp} {v : V} {k : Link} (h : Dp K H v (dLink k)) : LinkIn K H v k := by
  unfold dLink at h
  cases h with
  | tup hs hr =>
    cases hr with
    | cons a1 hr =>
      cases a1
      cases hr with
      | cons a2 hr =>
        cases a2
        cases hr with
        | cons a3 hr =>
          cases a3
          cases hr with
          | cons a4 hr =>
            cases hr
            cases a4 with
            | tup hl ha => exact ⟨_, _, _, rfl, hs, .inr hl, ha⟩
theorem path_in {K : PySem.W.Frag} {H : Hp} {v : V} {p : Str × Str × Int} (h : Dp K H v (dPath p)) : ∃ t, v = .ref t ∧ SqT K H t [.str p.1, .str p.2.1, .int p.2.2] := by
  unfold dPath at h
  cases h with
  | tup hs hr =>
    cases hr with
    | cons a1 hr =>
      cases a1
      cases hr with
      | cons a2 hr =>
        cases a2
        cases hr with
        | cons a3 hr =>
          cases a3
          cases hr
          exact ⟨_, rfl, hs⟩
/-- a land as it stands -/
def landFs (wi pl li pa : Addr) : List (Str × V) := putF "paths" (.ref pa) (putF "links" (.ref li) (putF "places" (.ref pl) (putF "winds" (.ref wi) [])))
structure LandAt (K : PySem.W.Frag) (C : Addr) (H : Hp) (x : Addr) (D : LandD) (dx wi pl li pa : Addr) (rows prs : List V) : Prop where
  ob : H x = some (.ins C dx (landFs wi pl li pa))
  wi : SqT K H wi (D.ws.map V.str)
  pl : SqT K H pl (D.ps.map V.str)
  li : SqT K H li rows
  ls : DpAll K H rows (D.ls.map dLink)
  pa : SqT K H pa prs
  ps : DpAll K H prs (D.pa.map dPath)
def IsLand (K : PySem.W.Frag) (C : Addr) (H : Hp) (x : Addr) (D : LandD) : Prop := ∃ dx wi pl li pa rows prs, LandAt K C H x D dx wi pl li pa rows prs
theorem IsLand.ex {K : PySem.W.Frag} {C : Addr} {H H' : Hp} {x : Addr} {D : LandD} (e : Ex H H') (h : IsLand K C H x D) : IsLand K C H' x D := by
  obtain ⟨dx, wi, pl, li, pa, rows, prs, L⟩ := h
  exact ⟨dx, wi, pl, li, pa, rows, prs, e _ _ L.ob, ex_t e L.wi, ex_t e L.pl, ex_t e L.li, dps_ex e L.ls, ex_t e L.pa, dps_ex e L.ps⟩
theorem fs_winds (wi pl li pa : Addr) : (landFs wi pl li pa).lookup ("winds" : Str) = some (V.ref wi) := by
  unfold landFs
  rw [lookup_putF, if_neg (by decide +kernel), lookup_putF, if_neg (by decide +kernel), lookup_putF, if_neg (by decide +kernel), lookup_putF, if_pos rfl]
theorem fs_places (wi pl li pa : Addr) : (landFs wi pl li pa).lookup ("places" : Str) = some (V.ref pl) := by
  unfold landFs
  rw [lookup_putF, if_neg (by decide +kernel), lookup_putF, if_neg (by decide +kernel), lookup_putF, if_pos rfl]
theorem fs_links (wi pl li pa : Addr) : (landFs wi pl li pa).lookup ("links" : Str) = some (V.ref li) := by
  unfold landFs
  rw [lookup_putF, if_neg (by decide +kernel), lookup_putF, if_pos rfl]
theorem fs_paths (wi pl li pa : Addr) : (landFs wi pl li pa).lookup ("paths" : Str) = some (V.ref pa) := by
  unfold landFs
  rw [lookup_putF, if_pos rfl]
/-! ### the checks, where all is well -/
theorem flat_str (ys : List Str) : (ys.map V.str).all flatV = true := by
  rw [List.all_map]
  exact List.all_eq_true.mpr fun _ _ => rfl
theorem inV_str {z : Str} {ys : List Str} (h : z ∈ ys) : inV (.str z) (ys.map V.str) = true := by
  unfold inV
  rw [List.any_map, List.any_eq_true]
  refine ⟨z, h, ?_⟩
  show (z == z) = true
  exact beq_self_eq_true z
def sp__check_count (K : PySem.W.Frag) : Sp := fun vs H Q _ => ∃ (z : Str) (p : Addr) (xs : List V) (lo hi : Int), vs = [.str z, .ref p, .int lo, .int hi] ∧ Seq2 K H p xs ∧ lo ≤ xs.length ∧ (xs.length : Int) ≤ hi ∧ Q .non H
def sp__check_names (K : PySem.W.Frag) : Sp := fun vs H Q _ => ∃ (z : Str) (p : Addr) (ns : List Str), vs = [.str z, .ref p] ∧ Seq2 K H p (ns.map V.str) ∧ ns.length ≤ 1000 ∧ Good ns ∧ ∀ H', Ex H H' → Q .non H'
def sp__check_ends (K : PySem.W.Frag) : Sp := fun vs H Q _ => ∃ (z one other : Str) (p : Addr) (ps : List Str), vs = [.str z, .str one, .str other, .ref p] ∧ Seq2 K H p (ps.map V.str) ∧ one ∈ ps ∧ other ∈ ps ∧ one ≠ other ∧ Q .non H
def sp__as_bounds (K : PySem.W.Frag) : Sp := fun vs H Q _ => ∃ (v : V) (b : Option (Int × Int)), vs = [v] ∧ Dp K H v (dTime b) ∧ TimeOk b ∧ ∀ v' H', Ex H H' → Dp K H' v' (dTime b) → Q v' H'
def sp__as_link (K : PySem.W.Frag) : Sp := fun vs H Q _ => ∃ (v : V) (wi pl : Addr) (ws ps : List Str) (k : Link), vs = [v, .ref wi, .ref pl] ∧ LinkIn K H v k ∧ Seq2 K H wi (ws.map V.str) ∧ Seq2 K H pl (ps.map V.str) ∧ LinkOk ws ps k ∧ ws.length ≤ 100 ∧
  ∀ H' p, Ex H H' → H p = none → Dp K H' (.ref p) (dLink k) → Q (.ref p) H'
def sp__as_path (K : PySem.W.Frag) : Sp := fun vs H Q _ => ∃ (v : V) (pl : Addr) (ps : List Str) (p : Str × Str × Int), vs = [v, .ref pl] ∧ Dp K H v (dPath p) ∧ Seq2 K H pl (ps.map V.str) ∧ PathOk ps p ∧ ∀ H' q, Ex H H' → H q = none → Dp K H' (.ref q) (dPath p) → Q (.ref q) H'
def sp__check_single_paths (K : PySem.W.Frag) : Sp := fun vs H Q _ => ∃ (p : Addr) (prs : List V) (pa : List (Str × Str × Int)), vs = [.ref p] ∧ SqT K H p prs ∧ DpAll K H prs (pa.map dPath) ∧ pa.length ≤ 60 ∧ (pa.map fun p => (p.1, p.2.1)).Pairwise Apart ∧ ∀ H', Ex H H' → Q .non H'
def sp_link_names (K : PySem.W.Frag) (C : Addr) : Sp := fun vs H Q _ => ∃ (x dx : Addr) (fs : List (Str × V)) (l : Addr) (rows : List V) (ls : List Link), vs = [.ref x] ∧ H x = some (.ins C dx fs) ∧ fs.lookup ("links" : Str) = some (V.ref l) ∧ SqT K H l rows ∧ DpAll K H rows (ls.map dLink) ∧ ls.length ≤ 1000 ∧
  ∀ H' p, Ex H H' → H p = none → H' p = some (.tup ((ls.map (·.n)).map V.str)) → Q (.ref p) H'
section
variable {P : Program} {w : World} {K : PySem.W.Frag} {mg : Str → Option Value} {base : Heap} {a : Ad}
theorem G__check_count (T : Txt K mg a) : FnOk P w K mg base CX0 1 a.f__check_count a.d__check_count ["sort", "rows", "least", "most"] (sp__check_count K) := by
  refine T.F__check_count.ok sc__check_count (fun vs H Q E h => ?_) (fun cdv A outer s H vs Q E hr h => ?_)
  · obtain ⟨z, p, xs, lo, hi, rfl, _⟩ := h
    rfl
  · obtain ⟨z, p, xs, lo, hi, rfl, hS, h1, h2, k⟩ := h
    refine ⟨_, (pss_one (ps_if (pt_not (pt_chain op_le op_le (pv 2) (pe_callB call_len_seq (by rfl) T.z_len PySem.boot_len (pa_cons (pv 1) pa_nil)) (pv 3))) pss_any pss_nil)), ?_⟩
    refine ⟨_, rfl, _, rfl, p, _, rfl, hS, _, _, rfl, rfl, _, rfl, ?_⟩
    refine ite2 (fun _ => ?_) (fun n => absurd (decide_eq_true h1) n)
    exact ⟨_, rfl, _, _, rfl, rfl, _, rfl, iteNS h2 k⟩
theorem G__check_names (T : Txt K mg a) : FnOk P w K mg base CX0 2 a.f__check_names a.d__check_names ["sort", "names"] (sp__check_names K) := by
  refine T.F__check_names.ok sc__check_names (fun vs H Q E h => ?_) (fun cdv A outer s H vs Q E hr h => ?_)
  · obtain ⟨z, p, ns, rfl, _⟩ := h
    rfl
  · obtain ⟨z, p, ns, rfl, hS, hl, hg, k⟩ := h
    refine ⟨_, (pss_cons (ps_for PassesOwn.never rfl (pi_or (pi_list (pv 1)) (pi_tup (pv 1))) (pg_name (i := 2) sc__check_names.nd rfl (Or.inl rfl)) (pss_one (ps_if (pt_not (pt_val (pe_call (G_is_name T) (hr.mono (by decide)) (by rfl) T.g_is_name T.k_is_name T.B_is_name .nil pass0 (pa_cons (pv 2) pa_nil)))) pss_any pss_nil)))
      (pss_one (ps_if (pt_cmpR op_ne (pe_lenSetS rfl (by rfl) T.z_len (by rfl) T.z_set (pv 1)) (pe_callB call_len_seq (by rfl) T.z_len PySem.boot_len (pa_cons (pv 1) pa_nil)) (nomark _)) pss_any pss_nil))), ?_⟩
    have hlen : (ns.map V.str).length = ns.length := List.length_map ..
    have pick : ∀ {i : Nat} {y : V}, (ns.map V.str)[i]? = some y → ∃ n, n ∈ ns ∧ y = .str n := fun {i y} hy => by
      rw [List.getElem?_map] at hy
      cases q : ns[i]? with
      | none =>
        rw [q] at hy
        cases hy
      | some n =>
        rw [q] at hy
        exact ⟨n, List.mem_of_getElem? q, (Option.some.inj hy).symm⟩
    have dl := (dd_len_eq ns [] List.nodup_nil).mpr (by rw [List.nil_append]; exact hg.2)
    rw [List.length_nil, Nat.zero_add] at dl
    rcases hS with hS | hS
    · refine .inl ⟨_, rfl, p, rfl, ⟨_, hS⟩, for_list (K := K) (a := p) (xs := ns.map V.str) (fun i σ H' => ∃ v, σ = [some (V.str z), some (V.ref p), v] ∧ Ex H H') ⟨none, rfl, Ex.refl H⟩ ?_ ?_ ?_⟩
      · rintro i σ H' _ ⟨v, rfl, e⟩
        exact ex_l e hS
      · rintro i y σ H' hy ⟨v, rfl, e⟩
        obtain ⟨n, hn, rfl⟩ := pick hy
        have nl := name_len (hg.1 n hn)
        refine ⟨_, rfl, n, rfl, by omega, fun H2 e2 => ⟨_, rfl, ?_⟩⟩
        rw [hg.1 n hn]
        exact iteF ⟨_, rfl, e.trans e2⟩
      · rintro σ H' ⟨v, rfl, e⟩
        refine ⟨_, rfl, p, ns, rfl, .inl (ex_l e hS), by omega, _, rfl, p, _, rfl, .inl (ex_l e hS), rfl, _, rfl, ?_⟩
        rw [hlen, dl]
        exact iteNS rfl (k _ e)
    · refine .inr ⟨_, rfl, p, rfl, ⟨_, hS⟩, for_tup (K := K) (a := p) (xs := ns.map V.str) (fun i σ H' => ∃ v, σ = [some (V.str z), some (V.ref p), v] ∧ Ex H H') ⟨none, rfl, Ex.refl H⟩ ?_ ?_ ?_⟩
      · rintro i σ H' _ ⟨v, rfl, e⟩
        exact ex_t e hS
      · rintro i y σ H' hy ⟨v, rfl, e⟩
        obtain ⟨n, hn, rfl⟩ := pick hy
        have nl := name_len (hg.1 n hn)
        refine ⟨_, rfl, n, rfl, by omega, fun H2 e2 => ⟨_, rfl, ?_⟩⟩
        rw [hg.1 n hn]
        exact iteF ⟨_, rfl, e.trans e2⟩
      · rintro σ H' ⟨v, rfl, e⟩
        refine ⟨_, rfl, p, ns, rfl, .inr (ex_t e hS), by omega, _, rfl, p, _, rfl, .inr (ex_t e hS), rfl, _, rfl, ?_⟩
        rw [hlen, dl]
        exact iteNS rfl (k _ e)
theorem G__check_ends (T : Txt K mg a) : FnOk P w K mg base CX0 1 a.f__check_ends a.d__check_ends ["sort", "one", "other", "places"] (sp__check_ends K) := by
  refine T.F__check_ends.ok sc__check_ends (fun vs H Q E h => ?_) (fun cdv A outer s H vs Q E hr h => ?_)
  · obtain ⟨z, one, other, p, ps, rfl, _⟩ := h
    rfl
  · obtain ⟨z, one, other, p, ps, rfl, hS, h1, h2, h3, k⟩ := h
    refine ⟨_, (pss_cons (ps_if (PW.pt (pw_or (pt_cmpR op_notIn_seq (pv 1) (pv 3) (by rfl)) (pw_or1 (pt_cmpR op_notIn_seq (pv 2) (pv 3) (by rfl))))) pss_any pss_nil)
      (pss_one (ps_if (pt_cmpR op_eq (pv 1) (pv 2) (nomark _)) pss_any pss_nil))), ?_⟩
    refine ⟨_, rfl, _, rfl, p, _, rfl, hS, rfl, flat_str _, _, rfl, ?_⟩
    rw [inV_str h1]
    refine iteF ⟨_, rfl, _, rfl, p, _, rfl, hS, rfl, flat_str _, _, rfl, ?_⟩
    rw [inV_str h2]
    refine iteF ?_
    refine ⟨_, rfl, _, rfl, rfl, _, rfl, ?_⟩
    rw [decide_eq_false (fun q => h3 (V.str.inj q))]
    exact iteF k
theorem G__as_bounds (T : Txt K mg a) : FnOk P w K mg base CX0 1 a.f__as_bounds a.d__as_bounds ["bounds"] (sp__as_bounds K) := by
  refine T.F__as_bounds.ok sc__as_bounds (fun vs H Q E h => ?_) (fun cdv A outer s H vs Q E hr h => ?_)
  · obtain ⟨v, b, rfl, _⟩ := h
    rfl
  · obtain ⟨v, b, rfl, hv, hok, k⟩ := h
    refine ⟨_, (pss_cons (ps_if (pt_cmpR op_isN (pv 0) pe_non (nomark _)) (pss_one (ps_ret pe_non)) pss_nil)
      (pss_cons (ps_if (pt_cmpR op_ne (pe_callB call_len_seq (by rfl) T.z_len PySem.boot_len (pa_cons (pv 0) pa_nil)) pe_int (nomark _)) pss_any pss_nil)
      (pss_cons (ps_asg (pv 0) (pg_tup (by rfl) (pgs_cons (pg_name (i := 1) sc__as_bounds.nd rfl (Or.inl rfl)) (pgs_cons (pg_name (i := 2) sc__as_bounds.nd rfl (Or.inl rfl)) pgs_nil))))
      (pss_cons (ps_if (pt_not (pt_chain3 op_le op_le op_le pe_int (pv 1) (pv 2) (pe_gI rfl T.c_MOST_MINUTES))) pss_any pss_nil)
      (pss_one (ps_ret (pe_tup (pa_cons (pv 1) (pa_cons (pv 2) pa_nil))))))))), ?_⟩
    cases b with
    | none =>
      cases hv
      exact ⟨_, rfl, rfl, _, rfl, iteT (k .non H (Ex.refl H) .non)⟩
    | some b =>
      obtain ⟨lo, hi⟩ := b
      obtain ⟨o1, o2, o3⟩ := hok
      cases hv with
      | tup hs hr =>
        cases hr with
        | cons a1 hr =>
          cases a1
          cases hr with
          | cons a2 hr =>
            cases a2
            cases hr
            rename_i p
            refine ⟨_, rfl, rfl, _, rfl, iteF ?_⟩
            refine ⟨_, rfl, p, _, rfl, .inr hs, rfl, _, rfl, iteNS rfl ?_⟩
            refine ⟨_, rfl, p, _, rfl, hs, rfl, _, _, rfl, _, _, rfl, rfl, ?_⟩
            refine ⟨_, rfl, _, _, rfl, rfl, _, rfl, ?_⟩
            refine ite2 (fun _ => ?_) (fun n => absurd (decide_eq_true o1) n)
            refine ⟨_, rfl, _, _, rfl, rfl, _, rfl, ?_⟩
            refine ite2 (fun _ => ?_) (fun n => absurd (decide_eq_true o2) n)
            refine ⟨_, _, rfl, rfl, _, rfl, iteNS o3 ?_⟩
            refine ⟨_, rfl, _, rfl, by show 2 ≤ sizeLine; decide, fun q hq => ?_⟩
            exact k _ _ (Ex.new hq) (.tup (st_of upd_same) (.cons (.int lo) (.cons (.int hi) .nil)))
theorem G_link_names (T : Txt K mg a) : FnOk P w K mg base CX0 1 a.f_link_names a.d_link_names ["self"] (sp_link_names K a.C) := by
  refine T.F_link_names.ok sc_link_names (fun vs H Q E h => ?_) (fun cdv A outer s H vs Q E hr h => ?_)
  · obtain ⟨x, dx, fs, l, rows, ls, rfl, _⟩ := h
    rfl
  · obtain ⟨x, dx, fs, l, rows, ls, rfl, hx, hf, hl, hd, hmax, k⟩ := h
    have hlen : rows.length = ls.length := by rw [dps_len hd, List.length_map]
    refine ⟨_, (pss_one (ps_ret (pe_callTy call_tupK (by rfl) T.z_tuple (by decide +kernel) (pa_cons (pe_lc (own := [("link", 1)]) (g := gName 1) (tt := tYes) rfl sc_link_names.nd (pi_tup (pe_fld (pv 0) rfl)) (blkOk_by (N := ["self", "link"]) (sc := defScope s_link_names) (by decide +kernel)) (fun _ _ _ _ _ => pg_name (i := 1) sc_link_names.nd rfl (Or.inl rfl)) (fun _ _ _ _ _ => pts_nil) (fun _ _ _ _ _ => (pe_ix (show IxR _ (rIxT K) from ix_tup) (pv 1) pe_int (fun _ _ => rfl)))) pa_nil)))), ?_⟩
    refine ⟨_, rfl, x, _, dx, fs, _, rfl, hx, T.cl, T.nL, hf, l, rfl, ⟨_, hl⟩, fun D hD => lcY_tup (K := K) (a := l) (xs := rows) (fun i H' => Ex H H' ∧ H' D = some (.lst (((ls.map (·.n)).take i).map V.str))) ⟨Ex.new hD, upd_same⟩ (fun i H' _ p => ex_t p.1 hl) (fun i r H' hi p => ?_) (fun H' p => ?_)⟩
    · obtain ⟨d, hd1, hd2⟩ := dps_at hd hi
      have hil : i < rows.length := (List.getElem?_eq_some_iff.mp hi).1
      obtain ⟨k0, hk0⟩ : ∃ k0, ls[i]? = some k0 := ⟨ls[i]'(by omega), List.getElem?_eq_getElem (by omega)⟩
      rw [List.getElem?_map, hk0] at hd1
      obtain rfl : dLink k0 = d := Option.some.inj hd1
      obtain ⟨t, u, vs, rfl, hT, _, _⟩ := made_in hd2
      refine ⟨rfl, _, rfl, t, _, 0, .str k0.n, rfl, rfl, ex_t p.1 hT, atI_nat (j := 0) rfl, _, p.2, sz_lt (by rw [List.length_map, List.length_take, List.length_map]; omega), Ex.mut p.1 hD, ?_⟩
      rw [upd_same, List.take_add_one, List.getElem?_map, hk0, List.map_append]
      rfl
    · rw [hlen, ← List.length_map (f := (·.n)), List.take_length] at p
      refine ⟨D, _, rfl, .inl ⟨SqL.of p.2, fun q hq => ?_⟩⟩
      exact k _ q (p.1.trans (Ex.new hq)) (fresh_back p.1 hq) upd_same
end
end EV

set_option Elab.async false
set_option linter.all false
set_option maxRecDepth 100000
set_option maxHeartbeats 4000000
namespace EV
open PySem PySem.Spec PyProof.Rows L2 EvS Evl
/-! ### data without lists stands while lists change -/
mutual
def frozen : PyData → Bool
  | .none => true
  | .bool _ => true
  | .int _ => true
  | .str _ => true
  | .tuple ds => frozenAll ds
  | .list _ => false
  | .dict _ => false
def frozenAll : List PyData → Bool
  | [] => true
  | d :: ds => frozen d && frozenAll ds
end
theorem frozenAll_of : ∀ {ds : List PyData}, (∀ d ∈ ds, frozen d = true) → frozenAll ds = true
  | [], _ => by simp [frozenAll]
  | d :: ds, h => by
    rw [frozenAll, h d List.mem_cons_self, frozenAll_of fun x hx => h x (List.mem_cons_of_mem _ hx)]
    rfl
theorem frozen_time (b : Option (Int × Int)) : frozen (dTime b) = true := by cases b <;> simp [dTime, frozen, frozenAll]
theorem frozen_times (ts : List (Option (Int × Int))) : frozenAll (ts.map dTime) = true := frozenAll_of fun d hd => by
  obtain ⟨b, _, rfl⟩ := List.mem_map.mp hd
  exact frozen_time b
theorem frozen_link (k : Link) : frozen (dLink k) = true := by simp [dLink, frozen, frozenAll, frozen_times]
theorem frozen_path (p : Str × Str × Int) : frozen (dPath p) = true := by simp [dPath, frozen, frozenAll]
theorem frozen_links (ls : List Link) : frozenAll (ls.map dLink) = true := frozenAll_of fun d hd => by
  obtain ⟨b, _, rfl⟩ := List.mem_map.mp hd
  exact frozen_link b
theorem frozen_paths (ls : List (Str × Str × Int)) : frozenAll (ls.map dPath) = true := frozenAll_of fun d hd => by
  obtain ⟨b, _, rfl⟩ := List.mem_map.mp hd
  exact frozen_path b
theorem frozen_strs (ls : List Str) : frozenAll (ls.map PyData.str) = true := frozenAll_of fun d hd => by
  obtain ⟨b, _, rfl⟩ := List.mem_map.mp hd
  simp [frozen]
theorem frozen_land (D : LandD) : frozen (dLand D) = true := by simp [dLand, frozen, frozenAll, frozen_links, frozen_paths, frozen_strs]
def ExT (H H' : Hp) : Prop := ∀ a xs, Rd H a (.tup xs) → Rd H' a (.tup xs)
theorem exT_of {H H' : Hp} (e : Ex H H') : ExT H H' := fun _ _ h => ex_rd e h
theorem ExT.trans {H H1 H2 : Hp} (a : ExT H H1) (b : ExT H1 H2) : ExT H H2 := fun x y h => b x y (a x y h)
theorem exT_mut {H : Hp} {l : Addr} {xs ys : List V} (h : H l = some (.lst xs)) : ExT H (upd H l (.lst ys)) := fun a zs r => by
  rcases r with r | ⟨o, r⟩
  · exact .inl (by rw [upd_ne (ne_of r h (by intro z; cases z))]; exact r)
  · exact .inr ⟨o, by rw [upd_ne (ne_of r h (by intro z; cases z))]; exact r⟩
theorem exT_t {K : PySem.W.Frag} {H H' : Hp} {p : Addr} {xs : List V} (e : ExT H H') (h : SqT K H p xs) : SqT K H' p xs := h.elim (fun r => .inl (e _ _ r)) .inr
mutual
theorem dp_exT {K : PySem.W.Frag} {H H' : Hp} (e : ExT H H') : ∀ {v : V} {d : PyData}, Dp K H v d → frozen d = true → Dp K H' v d
  | _, _, .non, _ => .non
  | _, _, .bl b, _ => .bl b
  | _, _, .int i, _ => .int i
  | _, _, .str x, _ => .str x
  | _, _, .lst _ _, f => by simp [frozen] at f
  | _, _, .tup h r, f => .tup (exT_t e h) (dps_exT e r (by simpa [frozen] using f))
theorem dps_exT {K : PySem.W.Frag} {H H' : Hp} (e : ExT H H') : ∀ {vs : List V} {ds : List PyData}, DpAll K H vs ds → frozenAll ds = true → DpAll K H' vs ds
  | _, _, .nil, _ => .nil
  | _, _, .cons h r, f => by
    simp only [frozenAll, Bool.and_eq_true] at f
    exact .cons (dp_exT e h f.1) (dps_exT e r f.2)
end
/-! ### side by side -/
inductive All2 {α β : Type} (R : α → β → Prop) : List α → List β → Prop
  | nil : All2 R [] []
  | cons {a : α} {b : β} {as : List α} {bs : List β} : R a b → All2 R as bs → All2 R (a :: as) (b :: bs)
theorem All2.len {α β : Type} {R : α → β → Prop} : ∀ {as : List α} {bs : List β}, All2 R as bs → as.length = bs.length
  | _, _, .nil => rfl
  | _, _, .cons _ r => congrArg Nat.succ r.len
theorem All2.mono {α β : Type} {R S : α → β → Prop} (f : ∀ a b, R a b → S a b) : ∀ {as : List α} {bs : List β}, All2 R as bs → All2 S as bs
  | _, _, .nil => .nil
  | _, _, .cons h r => .cons (f _ _ h) (r.mono f)
theorem All2.app {α β : Type} {R : α → β → Prop} : ∀ {as cs : List α} {bs ds : List β}, All2 R as bs → All2 R cs ds → All2 R (as ++ cs) (bs ++ ds)
  | _, _, _, _, .nil, b => b
  | _, _, _, _, .cons h r, b => .cons h (r.app b)
theorem All2.at {α β : Type} {R : α → β → Prop} : ∀ {as : List α} {bs : List β} (i : Nat) {a : α}, All2 R as bs → as[i]? = some a → ∃ b, bs[i]? = some b ∧ R a b
  | _, _, _, _, .nil, h => by simp at h
  | _, _, 0, _, .cons h _, e => by
    simp only [List.getElem?_cons_zero, Option.some.injEq] at e
    subst e
    exact ⟨_, rfl, h⟩
  | _, _, i + 1, _, .cons _ r, e => by
    simp only [List.getElem?_cons_succ] at e
    exact r.at i e
theorem all2_dps {β : Type} {K : PySem.W.Frag} {H : Hp} {f : β → PyData} {R : V → β → Prop} (g : ∀ v b, Dp K H v (f b) → R v b) : ∀ {vs : List V} {bs : List β}, DpAll K H vs (bs.map f) → All2 R vs bs
  | _, [], .nil => .nil
  | _, _ :: _, .cons h r => .cons (g _ _ h) (all2_dps g r)
theorem take_one {α : Type} {l : List α} {i : Nat} {x : α} (h : l[i]? = some x) : l.take (i + 1) = l.take i ++ [x] := by
  rw [List.take_add_one, h]
  rfl
section
variable {P : Program} {w : World} {K : PySem.W.Frag} {mg : Str → Option Value} {base : Heap} {a : Ad}
theorem G__as_link (T : Txt K mg a) : FnOk P w K mg base CX0 2 a.f__as_link a.d__as_link ["link", "winds", "places"] (sp__as_link K) := by
  refine T.F__as_link.ok sc__as_link (fun vs H Q E h => ?_) (fun cdv A outer s H vs Q E hr h => ?_)
  · obtain ⟨v, wi, pl, ws, ps, k0, rfl, _⟩ := h
    rfl
  · obtain ⟨v, wi, pl, ws, ps, k0, rfl, hv, hW, hP, ok, hmax, k⟩ := h
    obtain ⟨t, u, vs, rfl, hT, hU, hD0⟩ := hv
    have lv : vs.length = k0.ts.length := by rw [dps_len hD0, List.length_map]
    refine ⟨_, (pss_cons (ps_if (pt_cmpR op_ne (pe_callB call_len_seq (by rfl) T.z_len PySem.boot_len (pa_cons (pv 0) pa_nil)) pe_int (nomark _)) pss_any pss_nil)
      (pss_cons (ps_asg (pv 0) (pg_tup (by rfl) (pgs_cons (pg_name (i := 3) sc__as_link.nd rfl (Or.inl rfl)) (pgs_cons (pg_name (i := 4) sc__as_link.nd rfl (Or.inl rfl)) (pgs_cons (pg_name (i := 5) sc__as_link.nd rfl (Or.inl rfl)) (pgs_cons (pg_name (i := 6) sc__as_link.nd rfl (Or.inl rfl)) pgs_nil))))))
      (pss_cons (ps_expr (pe_call (G__check_ends T) (hr.mono (by decide)) (by rfl) T.g__check_ends T.k__check_ends T.B__check_ends .nil pass0 (pa_cons pe_str (pa_cons (pv 4) (pa_cons (pv 5) (pa_cons (pv 2) pa_nil))))))
      (pss_cons (ps_if (pt_cmpR op_ne (pe_callB call_len_seq (by rfl) T.z_len PySem.boot_len (pa_cons (pv 6) pa_nil)) (pe_callB call_len_seq (by rfl) T.z_len PySem.boot_len (pa_cons (pv 1) pa_nil)) (nomark _)) pss_any pss_nil)
      (pss_one (ps_ret (pe_tup (pa_cons (pv 3) (pa_cons (pv 4) (pa_cons (pv 5) (pa_cons (pe_callTy call_tupK (by rfl) T.z_tuple (by decide +kernel) (pa_cons (pe_lc (own := [("bounds", 7)]) (g := gName 7) (tt := tYes) rfl sc__as_link.nd (pi_or (pi_list (pv 6)) (pi_tup (pv 6))) (blkOk_by (N := ["link", "winds", "places", "name", "one", "other", "times", "bounds"]) (sc := defScope s__as_link) (by decide +kernel)) (fun _ _ _ _ _ => pg_name (i := 7) sc__as_link.nd rfl (Or.inl rfl)) (fun _ _ _ _ _ => pts_nil) (fun _ _ _ _ _ => (pe_call (G__as_bounds T) (hr.mono (by decide)) (by rfl) T.g__as_bounds T.k__as_bounds T.B__as_bounds .nil pass0 (pa_cons (pv 7) pa_nil)))) pa_nil)) pa_nil))))))))))), ?_⟩
    refine ⟨_, rfl, t, _, rfl, .inr hT, rfl, _, rfl, iteNS rfl ?_⟩
    refine ⟨_, rfl, t, _, rfl, hT, rfl, _, _, rfl, _, _, rfl, _, _, rfl, _, _, rfl, rfl, ?_⟩
    refine ⟨_, rfl, _, rfl, _, rfl, _, k0.o, k0.t, pl, ps, rfl, hP, ok.o, ok.t, ok.ne, ?_⟩
    refine ⟨_, rfl, u, _, rfl, hU, _, rfl, wi, _, rfl, hW, rfl, _, rfl, iteNS (by rw [lv, ok.len, List.length_map]) ?_⟩
    refine ⟨_, rfl, _, rfl, _, rfl, ?_⟩
    let Pv : Addr → Nat → Hp → Prop := fun D i H' => Ex H H' ∧ ∃ made, H' D = some (.lst made) ∧ made.length = i ∧ DpAll K H' made ((k0.ts.take i).map dTime)
    have start : ∀ {D : Addr}, H D = none → Pv D 0 (upd H D (.lst [])) := fun hD => ⟨Ex.new hD, [], upd_same, rfl, .nil⟩
    have turn : ∀ {D : Addr} (i : Nat) (y : V) (H' : Hp) (σ : L2.St), H D = none → vs[i]? = some y → Pv D i H' → σ[7]? = some (some y) →
        tCall (sp__as_bounds K) [] E0 (tCons (tVar 7) tNil) σ H' fun y H4 => ∃ acc, H4 D = some (.lst acc) ∧ acc.length < sizeLine ∧ Pv D (i + 1) (upd H4 D (.lst (acc ++ [y]))) := by
      rintro D i y H' σ hD hy ⟨e, made, hm, hl, hd⟩ hs
      obtain ⟨d, hd1, hd2⟩ := dps_at hD0 hy
      have hil : i < vs.length := (List.getElem?_eq_some_iff.mp hy).1
      obtain ⟨b, hb⟩ : ∃ b, k0.ts[i]? = some b := ⟨k0.ts[i]'(by omega), List.getElem?_eq_getElem (by omega)⟩
      rw [List.getElem?_map, hb] at hd1
      obtain rfl : dTime b = d := Option.some.inj hd1
      refine ⟨y, hs, y, b, rfl, dp_ex e hd2, ok.ok b (List.mem_of_getElem? hb), fun v' H6 e6 hv' => ⟨made, e6 _ _ hm, sz_lt (by have := ok.len; omega), (e.trans e6).mut hD, _, upd_same, by rw [List.length_append, hl] <;> rfl, ?_⟩⟩
      rw [take_one hb, List.map_append]
      exact dps_app (dps_exT (exT_mut (e6 _ _ hm)) (dps_ex e6 hd) (frozen_times _)) (dps_one (dp_exT (exT_mut (e6 _ _ hm)) hv' (frozen_time _)))
    have fin : ∀ {D : Addr} {H' : Hp}, Pv D vs.length H' → rTupK K [.ref D] H' fun x H2 => (5 : Nat) - 1 ≤ sizeLine ∧ ∀ p, H2 p = none → Q (.ref p) (upd H2 p (.tup [.str k0.n, .str k0.o, .str k0.t, x])) := by
      rintro D H' ⟨e, made, hm, hl, hd⟩
      rw [lv, List.take_length] at hd
      refine ⟨D, made, rfl, .inl ⟨SqL.of hm, fun q hq => ⟨by decide, fun r hr0 => ?_⟩⟩⟩
      have e1 : Ex H' (upd (upd H' q (.tup made)) r (.tup [.str k0.n, .str k0.o, .str k0.t, .ref q])) := (Ex.new hq).trans (Ex.new hr0)
      have nqr : q ≠ r := ne_of_none upd_same hr0
      exact k _ r (e.trans e1) (fresh_back (e.trans (Ex.new hq)) hr0) (.tup (st_of upd_same) (.cons (.str _) (.cons (.str _) (.cons (.str _) (.cons (.tup (st_of (by rw [upd_ne nqr, upd_same])) (dps_ex e1 hd)) .nil)))))
    rcases hU with hU | hU
    · exact .inl ⟨_, rfl, u, rfl, ⟨_, hU⟩, fun D hD => lcY_list (K := K) (a := u) (xs := vs) (Pv D) (start hD) (fun i H' _ p => ex_l p.1 hU) (fun i y H' hi p => ⟨rfl, turn i y H' _ hD hi p rfl⟩) (fun H' p => fin p)⟩
    · exact .inr ⟨_, rfl, u, rfl, ⟨_, hU⟩, fun D hD => lcY_tup (K := K) (a := u) (xs := vs) (Pv D) (start hD) (fun i H' _ p => ex_t p.1 hU) (fun i y H' hi p => ⟨rfl, turn i y H' _ hD hi p rfl⟩) (fun H' p => fin p)⟩
theorem G__as_path (T : Txt K mg a) : FnOk P w K mg base CX0 2 a.f__as_path a.d__as_path ["path", "places"] (sp__as_path K) := by
  refine T.F__as_path.ok sc__as_path (fun vs H Q E h => ?_) (fun cdv A outer s H vs Q E hr h => ?_)
  · obtain ⟨v, pl, ps, p, rfl, _⟩ := h
    rfl
  · obtain ⟨v, pl, ps, p, rfl, hv, hP, ok, k⟩ := h
    obtain ⟨t, rfl, hT⟩ := path_in hv
    have lo := ok.lo
    have hi := ok.hi
    refine ⟨_, (pss_cons (ps_if (pt_cmpR op_ne (pe_callB call_len_seq (by rfl) T.z_len PySem.boot_len (pa_cons (pv 0) pa_nil)) pe_int (nomark _)) pss_any pss_nil)
      (pss_cons (ps_asg (pv 0) (pg_tup (by rfl) (pgs_cons (pg_name (i := 2) sc__as_path.nd rfl (Or.inl rfl)) (pgs_cons (pg_name (i := 3) sc__as_path.nd rfl (Or.inl rfl)) (pgs_cons (pg_name (i := 4) sc__as_path.nd rfl (Or.inl rfl)) pgs_nil)))))
      (pss_cons (ps_expr (pe_call (G__check_ends T) (hr.mono (by decide)) (by rfl) T.g__check_ends T.k__check_ends T.B__check_ends .nil pass0 (pa_cons pe_str (pa_cons (pv 2) (pa_cons (pv 3) (pa_cons (pv 1) pa_nil))))))
      (pss_cons (ps_if (pt_not (pt_chain op_le op_le pe_int (pv 4) (pe_gI rfl T.c_MOST_MINUTES))) pss_any pss_nil)
      (pss_one (ps_ret (pe_tup (pa_cons (pv 2) (pa_cons (pv 3) (pa_cons (pv 4) pa_nil)))))))))), ?_⟩
    refine ⟨_, rfl, t, _, rfl, .inr hT, rfl, _, rfl, iteNS rfl ?_⟩
    refine ⟨_, rfl, t, _, rfl, hT, rfl, _, _, rfl, _, _, rfl, _, _, rfl, rfl, ?_⟩
    refine ⟨_, rfl, _, rfl, _, rfl, _, p.1, p.2.1, pl, ps, rfl, hP, ok.o, ok.t, ok.ne, ?_⟩
    refine ⟨_, rfl, _, _, rfl, rfl, _, rfl, ?_⟩
    refine ite2 (fun _ => ?_) (fun n => absurd (decide_eq_true lo) n)
    refine ⟨_, _, rfl, rfl, _, rfl, iteNS hi ?_⟩
    refine ⟨_, rfl, _, rfl, _, rfl, by show 3 ≤ sizeLine; decide, fun q hq => ?_⟩
    exact k _ q (Ex.new hq) hq (.tup (st_of upd_same) (.cons (.str _) (.cons (.str _) (.cons (.int _) .nil))))
theorem G__check_single_paths (T : Txt K mg a) : FnOk P w K mg base CX0 1 a.f__check_single_paths a.d__check_single_paths ["paths"] (sp__check_single_paths K) := by
  refine T.F__check_single_paths.ok sc__check_single_paths (fun vs H Q E h => ?_) (fun cdv A outer s H vs Q E hr h => ?_)
  · obtain ⟨p, prs, pa, rfl, _⟩ := h
    rfl
  · obtain ⟨p, prs, pa, rfl, hT, hd, h60, hap, k⟩ := h
    have lp : prs.length = pa.length := by rw [dps_len hd, List.length_map]
    refine ⟨_, (pss_cons (ps_setLc (i := 1) (own := [("one", 2), ("other", 3), ("_", 4)]) (g := gTup K 3 (gCons (gName 2) (gCons (gName 3) (gCons (gName 4) gNil)))) (tt := tYes) rfl sc__check_single_paths.nd rfl rfl (sw_true rfl rfl rfl (by decide +kernel)) (pi_tup (pv 0)) (blkOk_by (N := ["paths", "ends", "one", "other", "_"]) (sc := defScope s__check_single_paths) (by decide +kernel)) (fun _ _ _ _ _ => (pg_tup (by rfl) (pgs_cons (pg_name (i := 2) sc__check_single_paths.nd rfl (Or.inl rfl)) (pgs_cons (pg_name (i := 3) sc__check_single_paths.nd rfl (Or.inl rfl)) (pgs_cons (pg_name (i := 4) sc__check_single_paths.nd rfl (Or.inl rfl)) pgs_nil))))) (fun _ _ _ _ _ => pts_nil) (fun _ _ _ _ _ => (pe_callTy (show CallR _ _ (rTupK K) from call_tupK) (by rfl) T.z_tuple (by decide +kernel) (pa_cons (pe_callB (show CallR _ _ (rSortedS K) from cr_sortedS) (by rfl) T.z_sorted (by decide +kernel) (pa_cons (pe_lst (pa_cons (pv 2) (pa_cons (pv 3) pa_nil))) pa_nil)) pa_nil))))
      (pss_one (ps_if (pt_cmpR op_ne (TxSet.pe_lenSetT hr rfl (by rfl) T.z_len (by rfl) T.z_set (pv 1)) (pe_callB call_len_seq (by rfl) T.z_len PySem.boot_len (pa_cons (pv 1) pa_nil)) (nomark _)) pss_any pss_nil))), ?_⟩
    refine ⟨_, rfl, p, rfl, ⟨_, hT⟩, fun D hD => lcY_tup (K := K) (a := p) (xs := prs) (fun i H' => Ex H H' ∧ ∃ ks : List (Addr × List Str), H' D = some (.lst (ks.map fun p => V.ref p.1)) ∧ (∀ p ∈ ks, H' p.1 = some (.tup (p.2.map V.str))) ∧ All2 (fun q r => q.2.Perm [r.1, r.2.1]) ks (pa.take i))
      ⟨Ex.new hD, [], upd_same, fun p hp => (by cases hp), .nil⟩ (fun i H' _ q => ex_t q.1 hT) (fun i y H' hi q => ?_) (fun H' q => ?_)⟩
    · obtain ⟨e, ks, hks, hat, h2⟩ := q
      have hil : i < prs.length := (List.getElem?_eq_some_iff.mp hi).1
      obtain ⟨d, hd1, hd2⟩ := dps_at hd hi
      obtain ⟨b, hb⟩ : ∃ b, pa[i]? = some b := ⟨pa[i]'(by omega), List.getElem?_eq_getElem (by omega)⟩
      rw [List.getElem?_map, hb] at hd1
      obtain rfl : dPath b = d := Option.some.inj hd1
      obtain ⟨t, rfl, hb2⟩ := path_in hd2
      have lk : ks.length = (pa.take i).length := h2.len
      refine ⟨t, _, rfl, ex_t e hb2, rfl, _, _, rfl, _, _, rfl, _, _, rfl, rfl, rfl, ?_⟩
      refine ⟨_, rfl, _, rfl, by show 2 ≤ sizeLine; decide, fun l hl => ?_⟩
      refine ⟨l, [b.1, b.2.1], rfl, SqL.of upd_same, (by show 2 < 64; decide), fun ys m pm _ hm => ?_⟩
      refine ⟨m, _, rfl, .inl ⟨SqL.of upd_same, fun n hn => ?_⟩⟩
      have e3 : Ex H' (upd (upd (upd H' l (.lst [.str b.1, .str b.2.1])) m (.lst (ys.map V.str))) n (.tup (ys.map V.str))) := ((Ex.new hl).trans (Ex.new hm)).trans (Ex.new hn)
      have hD3 := e3 _ _ hks
      refine ⟨_, hD3, sz_lt (by rw [List.length_map, lk, List.length_take]; omega), (e.trans e3).mut hD, ks ++ [(n, ys)], by rw [upd_same, List.map_append] <;> rfl, fun q hq => ?_, ?_⟩
      · rcases List.mem_append.mp hq with z | z
        · have h3 := e3 _ _ (hat q z)
          rw [upd_ne (ne_of h3 hD3 (by intro z; cases z))]
          exact h3
        · rw [List.mem_singleton.mp z]
          have h3 : (upd (upd (upd H' l (.lst [.str b.1, .str b.2.1])) m (.lst (ys.map V.str))) n (.tup (ys.map V.str))) n = some (.tup (ys.map V.str)) := upd_same
          show (upd _ D _) n = _
          rw [upd_ne (ne_of h3 hD3 (by intro z; cases z))]
          exact h3
      · rw [take_one hb]
        exact h2.app (.cons pm .nil)
    · obtain ⟨e, ks, hks, hat, h2⟩ := q
      rw [lp, List.take_length] at h2
      have lk := h2.len
      have diff : (ks.map (·.2)).Nodup := by
        have go : ∀ {ks : List (Addr × List Str)} {pa : List (Str × Str × Int)}, All2 (fun q r => q.2.Perm [r.1, r.2.1]) ks pa → (pa.map fun p => (p.1, p.2.1)).Pairwise Apart → (ks.map (·.2)).Nodup := by
          intro ks pa h
          induction h with
          | nil => intro _; exact List.nodup_nil
          | @cons q r ks pa h hr ih =>
            intro hp
            rw [List.map_cons, List.pairwise_cons] at hp
            rw [List.map_cons, List.nodup_cons]
            refine ⟨fun hm => ?_, ih hp.2⟩
            obtain ⟨q2, hq2, e2⟩ := List.mem_map.mp hm
            obtain ⟨i, hi, ei⟩ := List.getElem_of_mem hq2
            obtain ⟨r2, hr2, p2⟩ := hr.at i (show ks[i]? = some q2 by rw [List.getElem?_eq_getElem hi, ei])
            refine hp.1 (r2.1, r2.2.1) (List.mem_map.mpr ⟨r2, List.mem_of_getElem? hr2, rfl⟩) ?_
            rw [e2] at p2
            exact h.symm.trans p2
        exact go h2 hap
      refine ⟨_, rfl, D, ks, rfl, SqL.of hks, fun q hq => st_of (hat q hq), by omega, diff, _, rfl, D, _, rfl, .inl (SqL.of hks), rfl, _, rfl, ?_⟩
      rw [List.length_map]
      exact iteNS rfl (k _ e)
end
end EV

set_option Elab.async false
set_option linter.all false
set_option maxRecDepth 100000
set_option maxHeartbeats 4000000
namespace EV
open PySem PySem.Spec PyProof.Rows L2 EvS Evl
/-- a new land of well formed parts -/
def sp_init (K : PySem.W.Frag) (C : Addr) : Sp := fun vs H Q _ => ∃ (H0 : Hp) (x dx wi pl li pa : Addr) (D : LandD) (rows prs : List V), vs = [.ref x, .ref wi, .ref pl, .ref li, .ref pa] ∧ Ex H0 H ∧ H0 x = none ∧ H x = some (.ins C dx []) ∧
  Seq2 K H0 wi (D.ws.map V.str) ∧ Seq2 K H0 pl (D.ps.map V.str) ∧ Seq2 K H0 li rows ∧ All2 (LinkIn K H0) rows D.ls ∧ Seq2 K H0 pa prs ∧ DpAll K H0 prs (D.pa.map dPath) ∧ LandOk D ∧ ∀ H', Ex H0 H' → IsLand K C H' x D → Q .non H'
section
variable {P : Program} {w : World} {K : PySem.W.Frag} {mg : Str → Option Value} {base : Heap} {a : Ad}
theorem G_init (T : Txt K mg a) : FnOk P w K mg base CX0 3 a.f_init a.d_init ["self", "winds", "places", "links", "paths"] (sp_init K a.C) := by
  refine T.F_init.ok sc_init (fun vs H Q E h => ?_) (fun cdv A outer s H vs Q E hr h => ?_)
  · obtain ⟨H0, x, dx, wi, pl, li, pa, D, rows, prs, rfl, _⟩ := h
    rfl
  · obtain ⟨H0, x, dx, wi, pl, li, pa, D, rows, prs, rfl, e0, x0, hx, hW, hP, hL, hLs, hA, hAs, ok, k⟩ := h
    have lw : (D.ws.map V.str).length = D.ws.length := List.length_map ..
    have lp : (D.ps.map V.str).length = D.ps.length := List.length_map ..
    have ll := hLs.len
    have la : prs.length = D.pa.length := by rw [dps_len hAs, List.length_map]
    have b1 := ok.w1
    have b2 := ok.w4
    have b3 := ok.p1
    have b4 := ok.p24
    have b5 := ok.l60
    have b6 := ok.a60
    refine ⟨_, (pss_cons (ps_expr (pe_call (G__check_count T) (hr.mono (by decide)) (by rfl) T.g__check_count T.k__check_count T.B__check_count .nil pass0 (pa_cons pe_str (pa_cons (pv 1) (pa_cons pe_int (pa_cons (pe_gI rfl T.c_MOST_WINDS) pa_nil))))))
      (pss_cons (ps_expr (pe_call (G__check_names T) (hr.mono (by decide)) (by rfl) T.g__check_names T.k__check_names T.B__check_names .nil pass0 (pa_cons pe_str (pa_cons (pv 1) pa_nil))))
      (pss_cons (ps_expr (pe_call (G__check_count T) (hr.mono (by decide)) (by rfl) T.g__check_count T.k__check_count T.B__check_count .nil pass0 (pa_cons pe_str (pa_cons (pv 2) (pa_cons pe_int (pa_cons (pe_gI rfl T.c_MOST_PLACES) pa_nil))))))
      (pss_cons (ps_expr (pe_call (G__check_names T) (hr.mono (by decide)) (by rfl) T.g__check_names T.k__check_names T.B__check_names .nil pass0 (pa_cons pe_str (pa_cons (pv 2) pa_nil))))
      (pss_cons (ps_expr (pe_call (G__check_count T) (hr.mono (by decide)) (by rfl) T.g__check_count T.k__check_count T.B__check_count .nil pass0 (pa_cons pe_str (pa_cons (pv 3) (pa_cons pe_int (pa_cons (pe_gI rfl T.c_MOST_LINKS) pa_nil))))))
      (pss_cons (ps_expr (pe_call (G__check_count T) (hr.mono (by decide)) (by rfl) T.g__check_count T.k__check_count T.B__check_count .nil pass0 (pa_cons pe_str (pa_cons (pv 4) (pa_cons pe_int (pa_cons (pe_gI rfl T.c_MOST_PATHS) pa_nil))))))
      (pss_cons (ps_fld (pv 0) (pe_callTy call_tupS (by rfl) T.z_tuple (by decide +kernel) (pa_cons (pv 1) pa_nil)) rfl)
      (pss_cons (ps_fld (pv 0) (pe_callTy call_tupS (by rfl) T.z_tuple (by decide +kernel) (pa_cons (pv 2) pa_nil)) rfl)
      (pss_cut (ps_fld (pv 0) (pe_callTy call_tupK (by rfl) T.z_tuple (by decide +kernel) (pa_cons (pe_lc (own := [("link", 5)]) (g := gName 5) (tt := tYes) rfl sc_init.nd (pi_or (pi_list (pv 3)) (pi_tup (pv 3))) (blkOk_by (N := ["self", "winds", "places", "links", "paths", "link", "path"]) (sc := defScope s_init) (by decide +kernel)) (fun _ _ _ _ _ => pg_name (i := 5) sc_init.nd rfl (Or.inl rfl)) (fun _ _ _ _ _ => pts_nil) (fun _ _ _ _ _ => (pe_call (G__as_link T) (hr.mono (by decide)) (by rfl) T.g__as_link T.k__as_link T.B__as_link .nil pass0 (pa_cons (pv 5) (pa_cons (show PE _ _ (tFld K (tVar 0) "winds") from pe_fld (pv 0) rfl) (pa_cons (show PE _ _ (tFld K (tVar 0) "places") from pe_fld (pv 0) rfl) pa_nil)))))) pa_nil)) rfl)
      (pss_cons (ps_expr (pe_call (G__check_names T) (hr.mono (by decide)) (by rfl) T.g__check_names T.k__check_names T.B__check_names .nil pass0 (pa_cons pe_str (pa_cons (pe_prop (pv 0) T.cl T.p_link_names (G_link_names T) (hr.mono (by decide)) T.B_link_names .nil pass0 rfl) pa_nil))))
      (pss_cut (ps_fld (pv 0) (pe_callTy call_tupK (by rfl) T.z_tuple (by decide +kernel) (pa_cons (pe_lc (own := [("path", 6)]) (g := gName 6) (tt := tYes) rfl sc_init.nd (pi_or (pi_list (pv 4)) (pi_tup (pv 4))) (blkOk_by (N := ["self", "winds", "places", "links", "paths", "link", "path"]) (sc := defScope s_init) (by decide +kernel)) (fun _ _ _ _ _ => pg_name (i := 6) sc_init.nd rfl (Or.inl rfl)) (fun _ _ _ _ _ => pts_nil) (fun _ _ _ _ _ => (pe_call (G__as_path T) (hr.mono (by decide)) (by rfl) T.g__as_path T.k__as_path T.B__as_path .nil pass0 (pa_cons (pv 6) (pa_cons (show PE _ _ (tFld K (tVar 0) "places") from pe_fld (pv 0) rfl) pa_nil))))) pa_nil)) rfl)
      (pss_one (ps_expr (pe_call (G__check_single_paths T) (hr.mono (by decide)) (by rfl) T.g__check_single_paths T.k__check_single_paths T.B__check_single_paths .nil pass0 (pa_cons (pe_fld (pv 0) rfl) pa_nil))))))))))))))), ?_⟩
    refine ⟨_, rfl, _, wi, _, _, _, rfl, hW.ex e0, by rw [lw]; omega, by rw [lw]; omega, ?_⟩
    refine ⟨_, rfl, _, wi, D.ws, rfl, hW.ex e0, by omega, ok.gw, fun H1 e1 => ?_⟩
    have f1 : Ex H0 H1 := e0.trans e1
    refine ⟨_, rfl, _, pl, _, _, _, rfl, hP.ex f1, by rw [lp]; omega, by rw [lp]; omega, ?_⟩
    refine ⟨_, rfl, _, pl, D.ps, rfl, hP.ex f1, by omega, ok.gp, fun H2 e2 => ?_⟩
    have f2 : Ex H0 H2 := f1.trans e2
    have hx2 : H2 x = some (.ins a.C dx []) := e2 _ _ (e1 _ _ hx)
    refine ⟨_, rfl, _, li, _, _, _, rfl, hL.ex f2, by omega, by omega, ?_⟩
    refine ⟨_, rfl, _, pa, _, _, _, rfl, hA.ex f2, by omega, by omega, ?_⟩
    -- self.winds
    refine ⟨_, rfl, wi, _, rfl, hW.ex f2, fun u H3 e3 hu => ?_⟩
    have hx3 := e3 _ _ hx2
    refine ⟨_, rfl, x, a.C, dx, [], rfl, hx3, T.cl, T.nW, by show 0 < 1000; decide, ?_⟩
    have ins_t : ∀ {H : Hp} {fs gs : List (Str × V)}, H x = some (.ins a.C dx fs) → ExT H (upd H x (.ins a.C dx gs)) := fun {H fs gs} h b xs r => by
      rcases r with r | ⟨o, r⟩
      · exact .inl (by rw [upd_ne (ne_of r h (by intro z; cases z))]; exact r)
      · exact .inr ⟨o, by rw [upd_ne (ne_of r h (by intro z; cases z))]; exact r⟩
    have f4 : Ex H0 (upd H3 x (.ins a.C dx (putF "winds" (.ref u) []))) := (f2.trans e3).mut x0
    have hu4 := exT_t (ins_t (gs := putF "winds" (.ref u) []) hx3) hu
    have hx4 : (upd H3 x (.ins a.C dx (putF "winds" (.ref u) []))) x = some (.ins a.C dx (putF "winds" (.ref u) [])) := upd_same
    generalize upd H3 x (.ins a.C dx (putF "winds" (.ref u) [])) = H4 at f4 hu4 hx4
    -- self.places
    refine ⟨_, rfl, pl, _, rfl, hP.ex f4, fun q H5 e5 hq => ?_⟩
    have hx5 := e5 _ _ hx4
    refine ⟨_, rfl, x, a.C, dx, _, rfl, hx5, T.cl, T.nP, by show 1 < 1000; decide, ?_⟩
    have f6 : Ex H0 (upd H5 x (.ins a.C dx (putF "places" (.ref q) (putF "winds" (.ref u) [])))) := (f4.trans e5).mut x0
    have hu6 := exT_t (ins_t (gs := putF "places" (.ref q) (putF "winds" (.ref u) [])) hx5) (ex_t e5 hu4)
    have hq6 := exT_t (ins_t (gs := putF "places" (.ref q) (putF "winds" (.ref u) [])) hx5) hq
    have hx6 : (upd H5 x (.ins a.C dx (putF "places" (.ref q) (putF "winds" (.ref u) [])))) x = some (.ins a.C dx (putF "places" (.ref q) (putF "winds" (.ref u) []))) := upd_same
    generalize upd H5 x (.ins a.C dx (putF "places" (.ref q) (putF "winds" (.ref u) []))) = H6 at f6 hu6 hq6 hx6
    have lkW : (putF "places" (.ref q) (putF "winds" (.ref u) [])).lookup ("winds" : Str) = some (V.ref u) := by
      rw [lookup_putF, if_neg (by decide +kernel), lookup_putF, if_pos rfl]
    have lkP : (putF "places" (.ref q) (putF "winds" (.ref u) [])).lookup ("places" : Str) = some (V.ref q) := by
      rw [lookup_putF, if_pos rfl]
    -- self.links
    refine ⟨fun σ H' => σ = [some (.ref x), some (.ref wi), some (.ref pl), some (.ref li), some (.ref pa), none, none] ∧ ∃ v made, Ex H0 H' ∧ H' x = some (.ins a.C dx (putF "links" (.ref v) (putF "places" (.ref q) (putF "winds" (.ref u) [])))) ∧ SqT K H' u (D.ws.map V.str) ∧ SqT K H' q (D.ps.map V.str) ∧ SqT K H' v made ∧ DpAll K H' made (D.ls.map dLink), ?_, ?_⟩
    let Pv : Addr → Nat → Hp → Prop := fun D0 i H' => Ex H6 H' ∧ ∃ made, H' D0 = some (.lst made) ∧ made.length = i ∧ DpAll K H' made ((D.ls.take i).map dLink)
    have start : ∀ {D0 : Addr}, H6 D0 = none → Pv D0 0 (upd H6 D0 (.lst [])) := fun hD => ⟨Ex.new hD, [], upd_same, rfl, .nil⟩
    have turn : ∀ {D0 : Addr} (i : Nat) (y : V) (H' : Hp) (σ : L2.St), H6 D0 = none → rows[i]? = some y → Pv D0 i H' → σ[5]? = some (some y) → σ[0]? = some (some (.ref x)) →
        tCall (sp__as_link K) [] E0 (tCons (tVar 5) (tCons (tFld K (tVar 0) "winds") (tCons (tFld K (tVar 0) "places") tNil))) σ H' fun y H4 => ∃ acc, H4 D0 = some (.lst acc) ∧ acc.length < sizeLine ∧ Pv D0 (i + 1) (upd H4 D0 (.lst (acc ++ [y]))) := by
      rintro D0 i y H' σ hD hy ⟨e, made, hm, hl, hd⟩ s5 s0
      obtain ⟨k0, hk0, hin⟩ := hLs.at i hy
      have hil : i < rows.length := (List.getElem?_eq_some_iff.mp hy).1
      have hx' := e _ _ hx6
      refine ⟨y, s5, _, s0, x, a.C, dx, _, _, rfl, hx', T.cl, T.nW, lkW, _, s0, x, a.C, dx, _, _, rfl, hx', T.cl, T.nP, lkP, ?_⟩
      refine ⟨y, u, q, D.ws, D.ps, k0, rfl, hin.ex (f6.trans e), .inr (ex_t e hu6), .inr (ex_t e hq6), ok.lk k0 (List.mem_of_getElem? hk0), by omega, fun H8 t e8 ht hM => ⟨made, e8 _ _ hm, sz_lt (by omega), (e.trans e8).mut hD, _, upd_same, by rw [List.length_append, hl] <;> rfl, ?_⟩⟩
      rw [take_one hk0, List.map_append]
      exact dps_app (dps_exT (exT_mut (e8 _ _ hm)) (dps_ex e8 hd) (frozen_links _)) (dps_one (dp_exT (exT_mut (e8 _ _ hm)) hM (frozen_link _)))
    · have fin : ∀ {D0 : Addr} {H' : Hp}, Pv D0 rows.length H' → rTupK K [.ref D0] H' fun y H1 => tVar 0 [some (.ref x), some (.ref wi), some (.ref pl), some (.ref li), some (.ref pa), none, none] H1 fun x2 H2 => ∃ (b C2 d2 : Addr) (fs : List (Str × V)), x2 = .ref b ∧ H2 b = some (.ins C2 d2 fs) ∧ Cls K C2 ∧ NoAttr K C2 "links" ∧ fs.length < 1000 ∧
          ∃ v made, Ex H0 (upd H2 b (.ins C2 d2 (putF "links" y fs))) ∧ (upd H2 b (.ins C2 d2 (putF "links" y fs))) x = some (.ins a.C dx (putF "links" (.ref v) (putF "places" (.ref q) (putF "winds" (.ref u) [])))) ∧ SqT K (upd H2 b (.ins C2 d2 (putF "links" y fs))) u (D.ws.map V.str) ∧ SqT K (upd H2 b (.ins C2 d2 (putF "links" y fs))) q (D.ps.map V.str) ∧ SqT K (upd H2 b (.ins C2 d2 (putF "links" y fs))) v made ∧ DpAll K (upd H2 b (.ins C2 d2 (putF "links" y fs))) made (D.ls.map dLink) := by
        rintro D0 H' ⟨e, made, hm, hl, hd⟩
        rw [ll, List.take_length] at hd
        refine ⟨D0, made, rfl, .inl ⟨SqL.of hm, fun v hv => ?_⟩⟩
        have e2 : Ex H6 (upd H' v (.tup made)) := e.trans (Ex.new hv)
        have hx' := e2 _ _ hx6
        refine ⟨_, rfl, x, a.C, dx, _, rfl, hx', T.cl, T.nL, by show 2 < 1000; decide, v, made, (f6.trans e2).mut x0, upd_same, exT_t (ins_t hx') (ex_t e2 hu6), exT_t (ins_t hx') (ex_t e2 hq6), exT_t (ins_t hx') (st_of upd_same), dps_exT (ins_t hx') (dps_ex (Ex.new hv) hd) (frozen_links _)⟩
      rcases hL.ex f6 with hL6 | hL6
      · refine .inl ⟨_, rfl, li, rfl, ⟨_, hL6⟩, fun D0 hD => lcY_list (K := K) (a := li) (xs := rows) (Pv D0) (start hD) (fun i H' _ p => ex_l p.1 hL6) (fun i y H' hi p => ⟨rfl, turn i y H' _ hD hi p rfl rfl⟩) (fun H' p => ?_)⟩
        obtain ⟨p0, ys, y1, y2⟩ := fin p
        refine ⟨p0, ys, y1, ?_⟩
        rcases y2 with ⟨z1, z2⟩ | ⟨z1, z2⟩
        · refine .inl ⟨z1, fun l hl => ?_⟩
          obtain ⟨c1, c2, c3, c4, c5, c6, c7, c8, c9, c10, c11, c12⟩ := z2 l hl
          exact ⟨c1, c2, c3, c4, c5, c6, c7, c8, c9, c10, c11, rfl, c12⟩
        · obtain ⟨c1, c2, c3, c4, c5, c6, c7, c8, c9, c10, c11, c12⟩ := z2
          exact .inr ⟨z1, c1, c2, c3, c4, c5, c6, c7, c8, c9, c10, c11, rfl, c12⟩
      · refine .inr ⟨_, rfl, li, rfl, ⟨_, hL6⟩, fun D0 hD => lcY_tup (K := K) (a := li) (xs := rows) (Pv D0) (start hD) (fun i H' _ p => ex_t p.1 hL6) (fun i y H' hi p => ⟨rfl, turn i y H' _ hD hi p rfl rfl⟩) (fun H' p => ?_)⟩
        obtain ⟨p0, ys, y1, y2⟩ := fin p
        refine ⟨p0, ys, y1, ?_⟩
        rcases y2 with ⟨z1, z2⟩ | ⟨z1, z2⟩
        · refine .inl ⟨z1, fun l hl => ?_⟩
          obtain ⟨c1, c2, c3, c4, c5, c6, c7, c8, c9, c10, c11, c12⟩ := z2 l hl
          exact ⟨c1, c2, c3, c4, c5, c6, c7, c8, c9, c10, c11, rfl, c12⟩
        · obtain ⟨c1, c2, c3, c4, c5, c6, c7, c8, c9, c10, c11, c12⟩ := z2
          exact .inr ⟨z1, c1, c2, c3, c4, c5, c6, c7, c8, c9, c10, c11, rfl, c12⟩
    rintro σ H7 ⟨rfl, v, made, f7, hx7, hu7, hq7, hv7, hM7⟩
    have lkL : (putF "links" (.ref v) (putF "places" (.ref q) (putF "winds" (.ref u) []))).lookup ("links" : Str) = some (V.ref v) := by
      rw [lookup_putF, if_pos rfl]
    -- _check_names('links', self.link_names)
    refine ⟨_, rfl, x, dx, _, rfl, hx7, x, dx, _, v, made, D.ls, rfl, hx7, lkL, hv7, hM7, by omega, fun H8 t e8 ht hT => ?_⟩
    refine ⟨_, t, D.ls.map (·.n), rfl, .inr (st_of hT), by rw [List.length_map]; omega, ok.gl, fun H9 e9 => ?_⟩
    have f9 : Ex H0 H9 := (f7.trans e8).trans e9
    have hx9 := e9 _ _ (e8 _ _ hx7)
    have hu9 := ex_t e9 (ex_t e8 hu7)
    have hq9 := ex_t e9 (ex_t e8 hq7)
    have hv9 := ex_t e9 (ex_t e8 hv7)
    have hM9 := dps_ex e9 (dps_ex e8 hM7)
    -- self.paths
    refine ⟨fun σ H' => σ = [some (.ref x), some (.ref wi), some (.ref pl), some (.ref li), some (.ref pa), none, none] ∧ ∃ y prs', Ex H0 H' ∧ LandAt K a.C H' x D dx u q v y made prs', ?_, ?_⟩
    · let Pw : Addr → Nat → Hp → Prop := fun D0 i H' => Ex H9 H' ∧ ∃ got, H' D0 = some (.lst got) ∧ got.length = i ∧ DpAll K H' got ((D.pa.take i).map dPath)
      have start : ∀ {D0 : Addr}, H9 D0 = none → Pw D0 0 (upd H9 D0 (.lst [])) := fun hD => ⟨Ex.new hD, [], upd_same, rfl, .nil⟩
      have lkP9 : (putF "links" (.ref v) (putF "places" (.ref q) (putF "winds" (.ref u) []))).lookup ("places" : Str) = some (V.ref q) := by
        rw [lookup_putF, if_neg (by decide +kernel), lookup_putF, if_pos rfl]
      have turn : ∀ {D0 : Addr} (i : Nat) (y : V) (H' : Hp) (σ : L2.St), H9 D0 = none → prs[i]? = some y → Pw D0 i H' → σ[6]? = some (some y) → σ[0]? = some (some (.ref x)) →
          tCall (sp__as_path K) [] E0 (tCons (tVar 6) (tCons (tFld K (tVar 0) "places") tNil)) σ H' fun y H4 => ∃ acc, H4 D0 = some (.lst acc) ∧ acc.length < sizeLine ∧ Pw D0 (i + 1) (upd H4 D0 (.lst (acc ++ [y]))) := by
        rintro D0 i y H' σ hD hy ⟨e, got, hm, hl, hd⟩ s6 s0
        obtain ⟨d, hd1, hd2⟩ := dps_at hAs hy
        have hil : i < prs.length := (List.getElem?_eq_some_iff.mp hy).1
        obtain ⟨b, hb⟩ : ∃ b, D.pa[i]? = some b := ⟨D.pa[i]'(by omega), List.getElem?_eq_getElem (by omega)⟩
        rw [List.getElem?_map, hb] at hd1
        obtain rfl : dPath b = d := Option.some.inj hd1
        refine ⟨y, s6, _, s0, x, a.C, dx, _, _, rfl, e _ _ hx9, T.cl, T.nP, lkP9, ?_⟩
        refine ⟨y, q, D.ps, b, rfl, dp_ex (f9.trans e) hd2, .inr (ex_t e hq9), ok.pt b (List.mem_of_getElem? hb), fun H8 t e8 ht hM => ⟨got, e8 _ _ hm, sz_lt (by omega), (e.trans e8).mut hD, _, upd_same, by rw [List.length_append, hl] <;> rfl, ?_⟩⟩
        rw [take_one hb, List.map_append]
        exact dps_app (dps_exT (exT_mut (e8 _ _ hm)) (dps_ex e8 hd) (frozen_paths _)) (dps_one (dp_exT (exT_mut (e8 _ _ hm)) hM (frozen_path _)))
      have fin : ∀ {D0 : Addr} {H' : Hp}, Pw D0 prs.length H' → ∃ got, H' D0 = some (.lst got) ∧ ∀ y, H' y = none → (upd H' y (.tup got)) x = some (.ins a.C dx (putF "links" (.ref v) (putF "places" (.ref q) (putF "winds" (.ref u) [])))) ∧
          ∃ y2 prs', Ex H0 (upd (upd H' y (.tup got)) x (.ins a.C dx (landFs u q v y))) ∧ LandAt K a.C (upd (upd H' y (.tup got)) x (.ins a.C dx (landFs u q v y))) x D dx u q v y2 made prs' := by
        rintro D0 H' ⟨e, got, hm, hl, hd⟩
        rw [la, List.take_length] at hd
        refine ⟨got, hm, fun y hy => ?_⟩
        have e2 : Ex H9 (upd H' y (.tup got)) := e.trans (Ex.new hy)
        have hx' := e2 _ _ hx9
        exact ⟨hx', y, got, (f9.trans e2).mut x0, upd_same, exT_t (ins_t hx') (ex_t e2 hu9), exT_t (ins_t hx') (ex_t e2 hq9), exT_t (ins_t hx') (ex_t e2 hv9), dps_exT (ins_t hx') (dps_ex e2 hM9) (frozen_links _), exT_t (ins_t hx') (st_of upd_same), dps_exT (ins_t hx') (dps_ex (Ex.new hy) hd) (frozen_paths _)⟩
      rcases hA.ex f9 with hA9 | hA9
      · refine .inl ⟨_, rfl, pa, rfl, ⟨_, hA9⟩, fun D0 hD => lcY_list (K := K) (a := pa) (xs := prs) (Pw D0) (start hD) (fun i H' _ p => ex_l p.1 hA9) (fun i y H' hi p => ⟨rfl, turn i y H' _ hD hi p rfl rfl⟩) (fun H' p => ?_)⟩
        obtain ⟨got, hm, z⟩ := fin p
        refine ⟨D0, got, rfl, .inl ⟨SqL.of hm, fun y hy => ?_⟩⟩
        obtain ⟨hx', z2⟩ := z y hy
        exact ⟨_, rfl, x, a.C, dx, _, rfl, hx', T.cl, T.nA, by show 3 < 1000; decide, rfl, z2⟩
      · refine .inr ⟨_, rfl, pa, rfl, ⟨_, hA9⟩, fun D0 hD => lcY_tup (K := K) (a := pa) (xs := prs) (Pw D0) (start hD) (fun i H' _ p => ex_t p.1 hA9) (fun i y H' hi p => ⟨rfl, turn i y H' _ hD hi p rfl rfl⟩) (fun H' p => ?_)⟩
        obtain ⟨got, hm, z⟩ := fin p
        refine ⟨D0, got, rfl, .inl ⟨SqL.of hm, fun y hy => ?_⟩⟩
        obtain ⟨hx', z2⟩ := z y hy
        exact ⟨_, rfl, x, a.C, dx, _, rfl, hx', T.cl, T.nA, by show 3 < 1000; decide, rfl, z2⟩
    rintro σ H10 ⟨rfl, y, prs', f10, L⟩
    refine ⟨_, rfl, x, a.C, dx, _, _, rfl, L.ob, T.cl, T.nA, fs_paths u q v y, y, prs', D.pa, rfl, L.pa, L.ps, ok.a60, ok.ap, fun H11 e11 => ?_⟩
    exact k H11 (f10.trans e11) (IsLand.ex e11 ⟨dx, u, q, v, y, made, prs', L⟩)
/-- which of __init__'s parameters a call names -/
theorem kb_wplp (T : Txt K mg a) : ∃ mv : List Value, KBn K a.d_init ["self", "winds", "places", "links", "paths"] 1 ["winds", "places", "links", "paths"] (fun us ws => us ++ (ws ++ mv)) (fun vs zs => vs ++ (zs ++ [])) :=
  T.F_init.kbinds0 (ps := ["self", "winds", "places", "links", "paths"]) 1 ["winds", "places", "links", "paths"] [] (fun us mv ws => us ++ (ws ++ mv)) (by simp) (fun q hq => by cases hq) (fun r1 r2 r3 => r1.append (r3.append r2))
    (fun D doc pm an cdv ct us mv ws h1 h2 h3 => match us, mv, ws, h1, h2, h3 with
      | [_], [], [_, _, _, _], _, _, _ => rfl)
theorem vals_take : ∀ {vs : List V} {us : List Value} (n : Nat), Vals vs us → Vals (vs.take n) (us.take n)
  | _, _, 0, _ => .nil
  | _, _, _ + 1, .nil => .nil
  | _, _, n + 1, .cons h r => .cons h (vals_take n r)
def turned {α : Type} (l : List α) : List α := (l.drop 2).take 1 ++ (l.take 1 ++ (l.drop 3 ++ (l.drop 1).take 1))
theorem kb_ppwl (T : Txt K mg a) : ∃ mv : List Value, KBn K a.d_init ["self", "winds", "places", "links", "paths"] 1 ["places", "paths", "winds", "links"] (fun us ws => us ++ (turned ws ++ mv)) (fun vs zs => vs ++ (turned zs ++ [])) :=
  T.F_init.kbinds0 (ps := ["self", "winds", "places", "links", "paths"]) 1 ["places", "paths", "winds", "links"] [] (fun us mv ws => us ++ (turned ws ++ mv)) (by simp) (fun q hq => by cases hq)
    (fun r1 r2 r3 => r1.append (((vals_take 1 (r3.drop 2)).append ((vals_take 1 r3).append ((r3.drop 3).append (vals_take 1 (r3.drop 1))))).append r2))
    (fun D doc pm an cdv ct us mv ws h1 h2 h3 => match us, mv, ws, h1, h2, h3 with
      | [_], [], [_, _, _, _], _, _, _ => rfl)
theorem kb_wp (T : Txt K mg a) : ∃ mv : List Value, KBn K a.d_init ["self", "winds", "places", "links", "paths"] 1 ["winds", "places"] (fun us ws => us ++ (ws ++ mv)) (fun vs zs => vs ++ (zs ++ [.ref a.tl, .ref a.te])) :=
  T.F_init.kbinds0 (ps := ["self", "winds", "places", "links", "paths"]) 1 ["winds", "places"] [("links", .ref a.tl), ("paths", .ref a.te)] (fun us mv ws => us ++ (ws ++ mv)) (by simp) (fun q hq => by simpa using hq) (fun r1 r2 r3 => r1.append (r3.append r2))
    (fun D doc pm an cdv ct us mv ws h1 h2 h3 => match us, mv, ws, h1, h2, h3 with
      | [_], [_, _], [_, _], _, _, _ => ⟨_, _, _, _, _, _, rfl, rfl, _, _, _, _, _, _, rfl, rfl, rfl⟩)
end
end EV

set_option Elab.async false
set_option linter.all false
set_option maxRecDepth 100000
set_option maxHeartbeats 4000000
namespace EV
open PySem PySem.Spec PyProof.Rows L2 EvS Evl
theorem num_in {ks : List Int} {i : Int} (h0 : 0 ≤ i) (h : i < ks.length) : ∃ n, n ∈ ks ∧ atI (ks.map V.int) i = some (.int n) ∧ n = ks.getD i.toNat 0 := by
  have hl : i.toNat < ks.length := by omega
  have e : ks[i.toNat]? = some ks[i.toNat] := List.getElem?_eq_getElem hl
  have z : atI (ks.map V.int) ((i.toNat : Nat) : Int) = some (.int ks[i.toNat]) := atI_nat (by rw [List.getElem?_map, e] <;> rfl)
  rw [show ((i.toNat : Nat) : Int) = i by omega] at z
  exact ⟨ks[i.toNat], List.getElem_mem hl, z, by rw [List.getD_eq_getElem?_getD, e] <;> rfl⟩
theorem at3 {α : Type} {x y z : α} {i : Int} (h0 : 0 ≤ i) (h : i < 3) : ∃ v, atI [x, y, z] i = some v ∧ (v = x ∨ v = y ∨ v = z) := by
  have c : i = 0 ∨ i = 1 ∨ i = 2 := by omega
  rcases c with rfl | rfl | rfl
  · exact ⟨x, atI_nat (j := 0) rfl, .inl rfl⟩
  · exact ⟨y, atI_nat (j := 1) rfl, .inr (.inl rfl)⟩
  · exact ⟨z, atI_nat (j := 2) rfl, .inr (.inr rfl)⟩
theorem at4 {α : Type} {x y z u : α} {i : Int} (h0 : 0 ≤ i) (h : i < 4) : ∃ v, atI [x, y, z, u] i = some v ∧ (v = x ∨ v = y ∨ v = z ∨ v = u) := by
  have c : i = 0 ∨ i = 1 ∨ i = 2 ∨ i = 3 := by omega
  rcases c with rfl | rfl | rfl | rfl
  · exact ⟨x, atI_nat (j := 0) rfl, .inl rfl⟩
  · exact ⟨y, atI_nat (j := 1) rfl, .inr (.inl rfl)⟩
  · exact ⟨z, atI_nat (j := 2) rfl, .inr (.inr (.inl rfl))⟩
  · exact ⟨u, atI_nat (j := 3) rfl, .inr (.inr (.inr rfl))⟩
/-- the drawn numbers -/
structure Nums (K : PySem.W.Frag) (H : Hp) (p : Addr) (ks : List Int) : Prop where
  at_ : SqL K H p (ks.map V.int)
  sm : Small ks
  lo : 90 ≤ ks.length
  hi : ks.length ≤ 1000
theorem Nums.ex {K : PySem.W.Frag} {H H' : Hp} {p : Addr} {ks : List Int} (e : Ex H H') (h : Nums K H p ks) : Nums K H' p ks := ⟨ex_l e h.at_, h.sm, h.lo, h.hi⟩
def sp__law_pick (K : PySem.W.Frag) : Sp := fun vs H Q _ => ∃ (p : Addr) (ks : List Int) (k : Int), vs = [.ref p, .int k] ∧ Nums K H p ks ∧ 0 ≤ k ∧ ∀ v, 0 ≤ v → Q (.int v) H
def sp__law_count : Sp := fun vs H Q _ => ∃ n lo hi : Int, vs = [.int n, .int lo, .int hi] ∧ lo ≤ hi ∧ ∀ v, lo ≤ v → v ≤ hi → Q (.int v) H
def sp__law_times (K : PySem.W.Frag) : Sp := fun vs H Q _ => ∃ (p : Addr) (ks : List Int) (k m : Int), vs = [.ref p, .int k, .int m] ∧ Nums K H p ks ∧ 0 ≤ k ∧ 0 ≤ m ∧ m ≤ 1000 ∧
  ∀ H' u us (ts : List (Option (Int × Int))), Ex H H' → H u = none → H' u = some (.lst us) → DpAll K H' us (ts.map dTime) → (ts.length : Int) = m → (∀ b ∈ ts, TimeOk b) → Q (.ref u) H'
section
variable {P : Program} {w : World} {K : PySem.W.Frag} {mg : Str → Option Value} {base : Heap} {a : Ad}
end
end EV

set_option Elab.async false
set_option linter.all false
set_option maxRecDepth 100000
set_option maxHeartbeats 4000000
namespace EV
open PySem PySem.Spec PyProof.Rows L2 EvS Evl
/-! ### names as the law makes them -/
def CH : List Nat := ("abcdefghijklmnopqrstuvwxyz0123456789" : Str).cps.toList
def chAt (i : Int) : Nat := CH.getD i.toNat 0
theorem ch_len : CH.length = 36 := by decide +kernel
theorem ch_slen : ("abcdefghijklmnopqrstuvwxyz0123456789" : Str).length = 36 := by decide +kernel
theorem ch_get {i : Int} (h0 : 0 ≤ i) (h : i < 36) : atI CH i = some (chAt i) := by
  have hl : i.toNat < CH.length := by rw [ch_len]; omega
  have z := atI_nat (xs := CH) (j := i.toNat) (List.getElem?_eq_getElem hl)
  rw [show ((i.toNat : Nat) : Int) = i by omega] at z
  rw [z]
  unfold chAt
  rw [List.getD_eq_getElem?_getD, List.getElem?_eq_getElem hl]
  rfl
theorem ch_all : ∀ i, i < 36 → okSign (CH.getD i 0) = true := by decide +kernel
theorem ch_let : ∀ i, i < 26 → decide (CH.getD i 0 ∈ LETS) = true := by decide +kernel
theorem ch_inj : ∀ i, i < 36 → ∀ j, j < 36 → CH.getD i 0 = CH.getD j 0 → i = j := by decide +kernel
theorem chAt_ok {i : Int} (h0 : 0 ≤ i) (h : i < 36) : okSign (chAt i) = true := ch_all i.toNat (by omega)
theorem chAt_let {i : Int} (h0 : 0 ≤ i) (h : i < 26) : chAt i ∈ LETS := of_decide_eq_true (ch_let i.toNat (by omega))
theorem chAt_inj {i j : Int} (h0 : 0 ≤ i) (h : i < 36) (k0 : 0 ≤ j) (k : j < 36) (e : chAt i = chAt j) : i = j := by
  have := ch_inj i.toNat (by omega) j.toNat (by omega) e
  omega
theorem m36 (x : Int) : 0 ≤ x % 36 ∧ x % 36 < 36 := ⟨Int.emod_nonneg _ (by decide), Int.emod_lt_of_pos _ (by decide)⟩
def bas (ks : List Int) (at_ : Nat) : Nat := if ks.getD 1 0 % 5 = 1 then 2 else at_
def preN (ks : List Int) (b n : Nat) : List Nat := chAt (ks.getD b 0 % 26) :: (List.range n).map fun (k : Nat) => chAt ((ks.getD (b + 2) 0 + (k : Int) * ks.getD (b + 3) 0) % 36)
def pre (ks : List Int) (b : Nat) : List Nat := preN ks b (ks.getD (b + 1) 0 % 10).toNat
def plc (ks : List Int) (b : Nat) : Nat := (1 + (ks.getD (b + 4) 0).fmod (((pre ks b).length : Nat) : Int)).toNat
def tailN (k : Nat) : List Nat := if 36 ≤ k then [113] else []
def codes (ks : List Int) (b k : Nat) : List Nat := (pre ks b).take (plc ks b) ++ ([chAt ((ks.getD (b + 5) 0 + 5 * (k : Int)) % 36)] ++ (tailN k ++ (pre ks b).drop (plc ks b)))
def nameOf (ks : List Int) (at_ k : Nat) : Str := ⟨(codes ks (bas ks at_) k).toArray⟩
def names (ks : List Int) (at_ m : Nat) : List Str := (List.range m).map (nameOf ks at_)
theorem pre_len (ks : List Int) (b : Nat) : 1 ≤ (pre ks b).length ∧ (pre ks b).length ≤ 10 := by
  unfold pre preN
  rw [List.length_cons, List.length_map, List.length_range]
  have := Int.emod_nonneg (ks.getD (b + 1) 0) (show (10 : Int) ≠ 0 by decide)
  have := Int.emod_lt_of_pos (ks.getD (b + 1) 0) (show (0 : Int) < 10 by decide)
  omega
theorem plc_le (ks : List Int) (b : Nat) : 1 ≤ plc ks b ∧ plc ks b ≤ (pre ks b).length := by
  have h := pre_len ks b
  have p : (0 : Int) < (((pre ks b).length : Nat) : Int) := by omega
  have := Int.fmod_nonneg_of_pos (ks.getD (b + 4) 0) p
  have := Int.fmod_lt_of_pos (ks.getD (b + 4) 0) p
  unfold plc
  omega
theorem pre_ok (ks : List Int) (b : Nat) : ∀ c ∈ pre ks b, okSign c = true := by
  intro c hc
  unfold pre preN at hc
  rcases List.mem_cons.mp hc with e | hc
  · rw [e]
    have := Int.emod_lt_of_pos (ks.getD b 0) (show (0 : Int) < 26 by decide)
    exact chAt_ok (Int.emod_nonneg _ (by decide)) (by omega)
  · obtain ⟨k, _, rfl⟩ := List.mem_map.mp hc
    exact chAt_ok (m36 _).1 (m36 _).2
theorem tail_len (k : Nat) : (tailN k).length = if 36 ≤ k then 1 else 0 := by
  unfold tailN
  split <;> rfl
theorem codes_len (ks : List Int) (b k : Nat) : (codes ks b k).length = (pre ks b).length + 1 + if 36 ≤ k then 1 else 0 := by
  have h := plc_le ks b
  unfold codes
  rw [List.length_append, List.length_append, List.length_append, List.length_take, List.length_drop, tail_len, List.length_singleton]
  omega
theorem name_ok (ks : List Int) (at_ k : Nat) : isName (nameOf ks at_ k) = true := by
  have hl := codes_len ks (bas ks at_) k
  have hp := pre_len ks (bas ks at_)
  have hq := plc_le ks (bas ks at_)
  have len : (nameOf ks at_ k).length = (codes ks (bas ks at_) k).length := by
    show (codes ks (bas ks at_) k).toArray.size = _
    rw [List.size_toArray]
  have lst : (nameOf ks at_ k).cps.toList = codes ks (bas ks at_) k := rfl
  unfold isName
  rw [lst, len, Bool.and_eq_true, Bool.and_eq_true]
  refine ⟨⟨decide_eq_true ⟨by omega, by rw [hl]; split <;> omega⟩, ?_⟩, ?_⟩
  · obtain ⟨m, hm⟩ : ∃ m, plc ks (bas ks at_) = m + 1 := ⟨plc ks (bas ks at_) - 1, by omega⟩
    have e : (codes ks (bas ks at_) k).head? = some (chAt (ks.getD (bas ks at_) 0 % 26)) := by
      unfold codes
      rw [hm]
      unfold pre preN
      rfl
    rw [e]
    exact decide_eq_true (chAt_let (Int.emod_nonneg _ (by decide)) (Int.emod_lt_of_pos _ (by decide)))
  · rw [List.all_eq_true]
    intro c hc
    unfold codes at hc
    rcases List.mem_append.mp hc with z | z
    · exact pre_ok _ _ c (List.mem_of_mem_take z)
    rcases List.mem_append.mp z with z | z
    · rw [List.mem_singleton.mp z]
      exact chAt_ok (m36 _).1 (m36 _).2
    rcases List.mem_append.mp z with z | z
    · unfold tailN at z
      split at z
      · rw [List.mem_singleton.mp z]
        decide +kernel
      · cases z
    · exact pre_ok _ _ c (List.mem_of_mem_drop z)
theorem name_inj (ks : List Int) (at_ : Nat) {i j : Nat} (hi : i < 72) (hj : j < 72) (e : nameOf ks at_ i = nameOf ks at_ j) : i = j := by
  have ec : codes ks (bas ks at_) i = codes ks (bas ks at_) j := by
    have z := congrArg (fun s : Str => s.cps.toList) e
    exact z
  have hl := congrArg List.length ec
  rw [codes_len, codes_len] at hl
  have hb : (36 ≤ i) ↔ (36 ≤ j) := by
    constructor
    · intro h
      rw [if_pos h] at hl
      by_cases q : 36 ≤ j
      · exact q
      · rw [if_neg q] at hl
        omega
    · intro h
      rw [if_pos h] at hl
      by_cases q : 36 ≤ i
      · exact q
      · rw [if_neg q] at hl
        omega
  have ht := plc_le ks (bas ks at_)
  have lt : ((pre ks (bas ks at_)).take (plc ks (bas ks at_))).length = plc ks (bas ks at_) := by
    rw [List.length_take]
    omega
  have gi : ∀ k, (codes ks (bas ks at_) k)[plc ks (bas ks at_)]? = some (chAt ((ks.getD (bas ks at_ + 5) 0 + 5 * (k : Int)) % 36)) := fun k => by
    unfold codes
    rw [List.getElem?_append_right (by omega), lt, Nat.sub_self]
    rfl
  have z := gi i
  rw [ec, gi j] at z
  have y := chAt_inj (m36 _).1 (m36 _).2 (m36 _).1 (m36 _).2 (Option.some.inj z)
  omega
theorem names_good (ks : List Int) (at_ : Nat) {m : Nat} (h : m ≤ 72) : Good (names ks at_ m) := by
  refine ⟨fun n hn => ?_, ?_⟩
  · obtain ⟨k, _, rfl⟩ := List.mem_map.mp hn
    exact name_ok ks at_ k
  · unfold names
    refine List.pairwise_map.mpr (List.Pairwise.imp_of_mem (fun ha hb ne e => ?_) (List.nodup_range (n := m)))
    have h1 := List.mem_range.mp ha
    have h2 := List.mem_range.mp hb
    exact ne (name_inj ks at_ (by omega) (by omega) e)
theorem names_len (ks : List Int) (at_ m : Nat) : (names ks at_ m).length = m := by
  unfold names
  rw [List.length_map, List.length_range]
theorem names_more (ks : List Int) (at_ m : Nat) : names ks at_ (m + 1) = names ks at_ m ++ [nameOf ks at_ m] := by
  unfold names
  rw [List.range_succ, List.map_append]
  rfl
/-! texts by their codes -/
abbrev tx (l : List Nat) : Str := ⟨l.toArray⟩
theorem tx_add (l m : List Nat) : tx l ++ tx m = tx (l ++ m) := Str.ext' (by rw [Str.cps_append]; simp)
theorem tx_one (c : Nat) : (⟨#[c]⟩ : Str) = tx [c] := rfl
theorem tx_len (l : List Nat) : (tx l).length = l.length := by
  show l.toArray.size = _
  rw [List.size_toArray]
theorem tx_to (l : List Nat) (n : Nat) : cutS (tx l) none (some (n : Int)) = tx (l.take n) := by
  have e : (tx l).cps.toList = l := rfl
  unfold cutS
  rw [HT.sIx_nat, HT.sIx_none, e, tx_len, List.drop_zero, Nat.sub_zero]
  rcases Nat.le_total n l.length with h | h
  · rw [Nat.min_eq_left h]
  · rw [Nat.min_eq_right h, List.take_length, List.take_of_length_le h]
theorem tx_from (l : List Nat) (n : Nat) : cutS (tx l) (some (n : Int)) none = tx (l.drop n) := by
  have e : (tx l).cps.toList = l := rfl
  unfold cutS
  rw [HT.sIx_nat, HT.sIx_none, e, tx_len]
  rcases Nat.le_total n l.length with h | h
  · rw [Nat.min_eq_left h, List.take_of_length_le (by rw [List.length_drop]; exact Nat.le_refl _)]
  · rw [Nat.min_eq_right h, List.drop_length, List.drop_eq_nil_of_le h, List.take_nil]
theorem one_len (c : Nat) : (⟨#[c]⟩ : Str).length = 1 := rfl
def sp__law_names (K : PySem.W.Frag) : Sp := fun vs H Q _ => ∃ (p : Addr) (ks : List Int) (at_ m : Nat), vs = [.ref p, .int (at_ : Int), .int (m : Int)] ∧ Nums K H p ks ∧ 2 ≤ at_ ∧ at_ ≤ 100 ∧ m ≤ 72 ∧
  ∀ H' q, Ex H H' → H q = none → H' q = some (.lst ((names ks at_ m).map V.str)) → Q (.ref q) H'
section
variable {P : Program} {w : World} {K : PySem.W.Frag} {mg : Str → Option Value} {base : Heap} {a : Ad}
end
end EV

set_option Elab.async false
set_option linter.all false
set_option maxRecDepth 100000
set_option maxHeartbeats 4000000
namespace EV
open PySem PySem.Spec PyProof.Rows L2 EvS Evl
/-! ### a heap without one place -/
def del (H : Hp) (D : Addr) : Hp := fun a => if a = D then none else H a
theorem del_upd {H : Hp} {D : Addr} {o : HO} : del (upd H D o) D = del H D := by
  funext a
  unfold del
  by_cases h : a = D
  · rw [if_pos h, if_pos h]
  · rw [if_neg h, if_neg h, upd_ne h]
theorem del_ex {H : Hp} {D : Addr} : Ex (del H D) H := fun a o h => by
  unfold del at h
  split at h
  · cases h
  · exact h
theorem ex_del {H H' : Hp} {D : Addr} (e : Ex H H') : Ex (del H D) (del H' D) := fun a o h => by
  unfold del at h ⊢
  split at h
  · cases h
  · rename_i n
    rw [if_neg n]
    exact e _ _ h
theorem ex_to_del {H H' : Hp} {D : Addr} (e : Ex H H') (h : H D = none) : Ex H (del H' D) := fun a o q => by
  unfold del
  rw [if_neg (ne_of_none q h)]
  exact e _ _ q
theorem del_at {H : Hp} {D a : Addr} {o : HO} (n : a ≠ D) (h : H a = some o) : del H D a = some o := by
  unfold del
  rw [if_neg n]
  exact h
theorem dps_drop {K : PySem.W.Frag} {H : Hp} : ∀ {vs : List V} {ds : List PyData} (n : Nat), DpAll K H vs ds → DpAll K H (vs.drop n) (ds.drop n)
  | _, _, 0, h => h
  | _, _, _ + 1, .nil => .nil
  | _, _, n + 1, .cons _ r => dps_drop n r
theorem dps_take {K : PySem.W.Frag} {H : Hp} : ∀ {vs : List V} {ds : List PyData} (n : Nat), DpAll K H vs ds → DpAll K H (vs.take n) (ds.take n)
  | _, _, 0, _ => .nil
  | _, _, _ + 1, .nil => .nil
  | _, _, n + 1, .cons h r => .cons h (dps_take n r)
theorem cut_from (xs : List V) (n : Nat) : cutV xs (some (n : Int)) none = xs.drop n := by
  unfold cutV
  rw [HT.sIx_nat, HT.sIx_none]
  rcases Nat.le_total n xs.length with h | h
  · rw [Nat.min_eq_left h, List.take_of_length_le (by rw [List.length_drop]; exact Nat.le_refl _)]
  · rw [Nat.min_eq_right h, List.drop_length, List.drop_eq_nil_of_le h, List.take_nil]
theorem cut_to (xs : List V) (n : Nat) : cutV xs none (some (n : Int)) = xs.take n := by
  unfold cutV
  rw [HT.sIx_nat, HT.sIx_none, List.drop_zero, Nat.sub_zero]
  rcases Nat.le_total n xs.length with h | h
  · rw [Nat.min_eq_left h]
  · rw [Nat.min_eq_right h, List.take_length, List.take_of_length_le h]
/-! ### pairs of places, by their numbers -/
def dIdx (ps : List Str) (q : Nat × Nat) : PyData := .tuple [.str (ps.getD q.1 ""), .str (ps.getD q.2 "")]
theorem getD_in {ps : List Str} {i : Nat} (h : i < ps.length) : ps.getD i "" ∈ ps ∧ ps[i]? = some (ps.getD i "") := by
  rw [List.getD_eq_getElem?_getD, List.getElem?_eq_getElem h]
  exact ⟨List.getElem_mem h, rfl⟩
theorem getD_inj {ps : List Str} (nd : ps.Nodup) {i j : Nat} (hi : i < ps.length) (hj : j < ps.length) (e : ps.getD i "" = ps.getD j "") : i = j := by
  rw [List.getD_eq_getElem?_getD, List.getElem?_eq_getElem hi, List.getD_eq_getElem?_getD, List.getElem?_eq_getElem hj] at e
  rcases Nat.lt_trichotomy i j with h | h | h
  · exact absurd e (List.pairwise_iff_getElem.mp nd i j hi hj h)
  · exact h
  · exact absurd e.symm (List.pairwise_iff_getElem.mp nd j i hj hi h)
theorem idx_ne {ps : List Str} (nd : ps.Nodup) {q r : Nat × Nat} (hq : q.1 < q.2 ∧ q.2 < ps.length) (hr : r.1 < r.2 ∧ r.2 < ps.length) (ne : q ≠ r) : ¬ [ps.getD q.1 "", ps.getD q.2 ""].Perm [ps.getD r.1 "", ps.getD r.2 ""] := fun p => by
  have inj := fun {i j : Nat} (hi : i < ps.length) (hj : j < ps.length) e => getD_inj nd hi hj e
  have h1 : q.1 = r.1 ∨ q.1 = r.2 := by
    have z := p.mem_iff.mp (List.mem_cons_self : ps.getD q.1 "" ∈ _)
    rcases List.mem_cons.mp z with z | z
    · exact .inl (inj (by omega) (by omega) z)
    · exact .inr (inj (by omega) (by omega) (List.mem_singleton.mp z))
  have h2 : q.2 = r.1 ∨ q.2 = r.2 := by
    have z := p.mem_iff.mp (List.mem_cons_of_mem _ (List.mem_singleton.mpr rfl) : ps.getD q.2 "" ∈ [ps.getD q.1 "", ps.getD q.2 ""])
    rcases List.mem_cons.mp z with z | z
    · exact .inl (inj (by omega) (by omega) z)
    · exact .inr (inj (by omega) (by omega) (List.mem_singleton.mp z))
  refine ne (Prod.ext ?_ ?_) <;> omega
theorem idx_apart {ps : List Str} (nd : ps.Nodup) {I : List (Nat × Nat)} : ∀ {pa : List (Str × Str × Int)}, I.Nodup → (∀ q ∈ I, q.1 < q.2 ∧ q.2 < ps.length) → All2 (fun (x : Str × Str × Int) (q : Nat × Nat) => [x.1, x.2.1].Perm [ps.getD q.1 "", ps.getD q.2 ""] ∧ 1 ≤ x.2.2 ∧ x.2.2 ≤ 1000) pa I → (pa.map fun p => (p.1, p.2.1)).Pairwise Apart ∧ ∀ p ∈ pa, PathOk ps p := by
  induction I with
  | nil =>
    intro pa _ _ h
    cases h
    exact ⟨List.Pairwise.nil, fun p hp => by cases hp⟩
  | cons q I ih =>
    intro pa hn hI h
    cases h with
    | @cons x _ xs _ hx r =>
      rw [List.nodup_cons] at hn
      obtain ⟨h1, h2⟩ := ih hn.2 (fun q hq => hI q (List.mem_cons_of_mem _ hq)) r
      have hq := hI q List.mem_cons_self
      refine ⟨?_, fun p hp => ?_⟩
      · rw [List.map_cons, List.pairwise_cons]
        refine ⟨fun y hy pm => ?_, h1⟩
        obtain ⟨z, hz, rfl⟩ := List.mem_map.mp hy
        obtain ⟨i, hi, ei⟩ := List.getElem_of_mem hz
        obtain ⟨r2, hr2, p2⟩ := r.at i (show xs[i]? = some z by rw [List.getElem?_eq_getElem hi, ei])
        have hm := List.mem_of_getElem? hr2
        exact idx_ne nd hq (hI r2 (List.mem_cons_of_mem _ hm)) (fun e => hn.1 (e ▸ hm)) (hx.1.symm.trans (pm.trans p2.1))
      · rcases List.mem_cons.mp hp with rfl | hp
        · have g1 := (getD_in (ps := ps) (i := q.1) (by omega)).1
          have g2 := (getD_in (ps := ps) (i := q.2) (by omega)).1
          have m1 := hx.1.mem_iff.mp (List.mem_cons_self : p.1 ∈ _)
          have m2 := hx.1.mem_iff.mp (List.mem_cons_of_mem _ (List.mem_singleton.mpr rfl) : p.2.1 ∈ [p.1, p.2.1])
          refine ⟨?_, ?_, fun e => ?_, hx.2.1, hx.2.2⟩
          · rcases List.mem_cons.mp m1 with z | z
            · rw [z]; exact g1
            · rw [List.mem_singleton.mp z]; exact g2
          · rcases List.mem_cons.mp m2 with z | z
            · rw [z]; exact g1
            · rw [List.mem_singleton.mp z]; exact g2
          · have z1 := hx.1.symm.mem_iff.mp (List.mem_cons_self : ps.getD q.1 "" ∈ _)
            have z2 := hx.1.symm.mem_iff.mp (List.mem_cons_of_mem _ (List.mem_singleton.mpr rfl) : ps.getD q.2 "" ∈ [ps.getD q.1 "", ps.getD q.2 ""])
            rw [← e] at z1 z2
            have w1 : ps.getD q.1 "" = p.1 := by simpa using z1
            have w2 : ps.getD q.2 "" = p.1 := by simpa using z2
            have := getD_inj nd (by omega) (by omega) (w1.trans w2.symm)
            omega
        · exact h2 p hp
def sp__law_paths (K : PySem.W.Frag) : Sp := fun vs H Q _ => ∃ (p pl : Addr) (ks : List Int) (ps : List Str) (k m : Int), vs = [.ref p, .int k, .ref pl, .int m] ∧ Nums K H p ks ∧ SqL K H pl (ps.map V.str) ∧ Good ps ∧ ps.length ≤ 24 ∧ 0 ≤ k ∧ 0 ≤ m ∧ m ≤ 60 ∧
  ∀ H' q (pa : List (Str × Str × Int)), Ex H H' → H q = none → Dp K H' (.ref q) (.list (pa.map dPath)) → pa.length ≤ 60 → (∀ p ∈ pa, PathOk ps p) → (pa.map fun p => (p.1, p.2.1)).Pairwise Apart → Q (.ref q) H'
section
variable {P : Program} {w : World} {K : PySem.W.Frag} {mg : Str → Option Value} {base : Heap} {a : Ad}
end
end EV

set_option Elab.async false
set_option linter.all false
set_option maxRecDepth 100000
set_option maxHeartbeats 4000000
namespace EV
open PySem PySem.Spec PyProof.Rows L2 EvS Evl
theorem other_ne {o y L : Int} (o0 : 0 ≤ o) (oL : o < L) (y0 : 0 ≤ y) (yL : y < L - 1) : 0 ≤ (o + 1 + y).fmod L ∧ (o + 1 + y).fmod L < L ∧ (o + 1 + y).fmod L ≠ o := by
  rw [Int.fmod_eq_emod_of_nonneg _ (by omega)]
  rcases Int.lt_or_le (o + 1 + y) L with h | h
  · rw [Int.emod_eq_of_lt (by omega) h]
    omega
  · have e : o + 1 + y = (o + 1 + y - L) + L := by omega
    rw [e, Int.add_emod_right, Int.emod_eq_of_lt (by omega) (by omega)]
    omega
def sp__law_parts (K : PySem.W.Frag) : Sp := fun vs H Q _ => ∃ (p : Addr) (ks : List Int), vs = [.ref p] ∧ Nums K H p ks ∧ ∀ H' q D, Ex H H' → H q = none → Dp K H' (.ref q) (dParts D) → LandOk D → Q (.ref q) H'
section
variable {P : Program} {w : World} {K : PySem.W.Frag} {mg : Str → Option Value} {base : Heap} {a : Ad}
end
end EV

set_option Elab.async false
set_option linter.all false
set_option maxRecDepth 100000
set_option maxHeartbeats 4000000
namespace EV
open PySem PySem.Spec PyProof.Rows L2 EvS Evl
/-! ### data that may be compared -/
theorem sign_small : ∀ c ∈ LETS ++ DIGS, c < 1114112 := by decide +kernel
theorem name_strOk {z : Str} (h : isName z = true) : PyData.strOk z = true := by
  unfold isName at h
  rw [Bool.and_eq_true] at h
  unfold PyData.strOk
  rw [Array.all_eq_true_iff_forall_mem]
  intro c hc
  have q := List.all_eq_true.mp h.2 c (Array.mem_toList_iff.mpr hc)
  unfold okSign at q
  rw [Bool.or_eq_true] at q
  refine decide_eq_true (sign_small c ?_)
  rcases q with q | q
  · exact List.mem_append_left _ (of_decide_eq_true q)
  · exact List.mem_append_right _ (of_decide_eq_true q)
theorem lay_of : ∀ {ds : List PyData}, (∀ d ∈ ds, PyData.canLay0 d = true) → PyData.canLayAll0 ds = true
  | [], _ => by simp [PyData.canLayAll0]
  | d :: ds, h => by
    rw [PyData.canLayAll0, h d List.mem_cons_self, lay_of fun x hx => h x (List.mem_cons_of_mem _ hx)]
    rfl
theorem deep_of {n : Nat} : ∀ {ds : List PyData}, (∀ d ∈ ds, PyData.depth d ≤ n) → PyData.depthAll ds ≤ n
  | [], _ => by simp [PyData.depthAll]
  | d :: ds, h => by
    have h1 := h d List.mem_cons_self
    have h2 := deep_of (n := n) (ds := ds) fun x hx => h x (List.mem_cons_of_mem _ hx)
    simp only [PyData.depthAll]
    omega
/-- small data: fit to be laid, and not deep -/
def Sh (n : Nat) (d : PyData) : Prop := PyData.canLay0 d = true ∧ PyData.depth d ≤ n
theorem sh_str {z : Str} {n : Nat} (h : isName z = true) : Sh (n + 1) (.str z) := ⟨by simp only [PyData.canLay0]; exact name_strOk h, by simp only [PyData.depth]; omega⟩
theorem sh_tup {n : Nat} {ds : List PyData} (h : ∀ d ∈ ds, Sh n d) : Sh (n + 1) (.tuple ds) := by
  have := deep_of (n := n) fun d hd => (h d hd).2
  exact ⟨by simp only [PyData.canLay0]; exact lay_of fun d hd => (h d hd).1, by simp only [PyData.depth]; omega⟩
theorem sh_lst {n : Nat} {ds : List PyData} (h : ∀ d ∈ ds, Sh n d) : Sh (n + 1) (.list ds) := by
  have := deep_of (n := n) fun d hd => (h d hd).2
  exact ⟨by simp only [PyData.canLay0]; exact lay_of fun d hd => (h d hd).1, by simp only [PyData.depth]; omega⟩
theorem sh_int (i : Int) (n : Nat) : Sh (n + 1) (.int i) := ⟨by simp only [PyData.canLay0], by simp only [PyData.depth]; omega⟩
theorem sh_up {n m : Nat} {d : PyData} (h : n ≤ m) (q : Sh n d) : Sh m d := ⟨q.1, Nat.le_trans q.2 h⟩
theorem sh_shaped {n : Nat} {d : PyData} (h : Sh n d) (hn : n ≤ 64) : SeqAt.shaped d = true := by
  show (PyData.canLay0 d && decide (PyData.depth d ≤ 64)) = true
  rw [Bool.and_eq_true]
  exact ⟨h.1, decide_eq_true (Nat.le_trans h.2 hn)⟩
theorem sh_time (b : Option (Int × Int)) : Sh 3 (dTime b) := by
  cases b with
  | none => exact ⟨by simp [dTime, PyData.canLay0], by simp [dTime, PyData.depth]⟩
  | some b =>
    refine sh_tup (n := 2) fun d hd => ?_
    rcases List.mem_cons.mp hd with rfl | hd
    · exact sh_int _ _
    · rw [List.mem_singleton.mp hd]
      exact sh_int _ _
theorem sh_strs {ns : List Str} (h : ∀ n ∈ ns, isName n = true) : Sh 6 (.tuple (ns.map .str)) := sh_tup (n := 5) fun d hd => by
  obtain ⟨n, hn, rfl⟩ := List.mem_map.mp hd
  exact sh_str (h n hn)
theorem mem4 {α : Type} {x a b c d : α} (h : x ∈ [a, b, c, d]) : x = a ∨ x = b ∨ x = c ∨ x = d := by simpa using h
theorem sh_link {D : LandD} (ok : LandOk D) {k : Link} (hk : k ∈ D.ls) : Sh 5 (dLink k) := by
  have l := ok.lk k hk
  refine sh_tup (n := 4) fun d hd => ?_
  rcases mem4 hd with rfl | rfl | rfl | rfl
  · exact sh_str (ok.gl.1 _ (List.mem_map.mpr ⟨k, hk, rfl⟩))
  · exact sh_str (ok.gp.1 _ l.o)
  · exact sh_str (ok.gp.1 _ l.t)
  · refine sh_tup (n := 3) fun d hd => ?_
    obtain ⟨b, _, rfl⟩ := List.mem_map.mp hd
    exact sh_time b
theorem sh_path {D : LandD} (ok : LandOk D) {p : Str × Str × Int} (hp : p ∈ D.pa) : Sh 5 (dPath p) := by
  have l := ok.pt p hp
  refine sh_tup (n := 4) fun d hd => ?_
  have q : d = .str p.1 ∨ d = .str p.2.1 ∨ d = .int p.2.2 := by simpa using hd
  rcases q with rfl | rfl | rfl
  · exact sh_str (ok.gp.1 _ l.o)
  · exact sh_str (ok.gp.1 _ l.t)
  · exact sh_int _ _
theorem sh_land {D : LandD} (ok : LandOk D) : Sh 7 (dLand D) := by
  refine sh_tup (n := 6) fun d hd => ?_
  rcases mem4 hd with rfl | rfl | rfl | rfl
  · exact sh_strs ok.gw.1
  · exact sh_strs ok.gp.1
  · refine sh_tup (n := 5) fun d hd => ?_
    obtain ⟨b, hb, rfl⟩ := List.mem_map.mp hd
    exact sh_link ok hb
  · refine sh_tup (n := 5) fun d hd => ?_
    obtain ⟨b, hb, rfl⟩ := List.mem_map.mp hd
    exact sh_path ok hb
theorem shaped_land {D : LandD} (ok : LandOk D) : SeqAt.shaped (dLand D) = true := sh_shaped (sh_land ok) (by decide)
theorem eqv_self {d : PyData} (h : SeqAt.shaped d = true) : PyData.eqv d d = true := SeqAt.eqv_refl _ (SeqAt.canLay_of_shaped h)
/-! ### the parts of a list of parts -/
structure PartsAt (K : PySem.W.Frag) (H : Hp) (p : Addr) (D : LandD) (wi pl li pa : Addr) (rows prs : List V) : Prop where
  ob : SqL K H p [.ref wi, .ref pl, .ref li, .ref pa]
  wi : SqL K H wi (D.ws.map V.str)
  pl : SqL K H pl (D.ps.map V.str)
  li : SqL K H li rows
  ls : DpAll K H rows (D.ls.map dRaw)
  pa : SqL K H pa prs
  ps : DpAll K H prs (D.pa.map dPath)
theorem PartsAt.ex {K : PySem.W.Frag} {H H' : Hp} {p : Addr} {D : LandD} {wi pl li pa : Addr} {rows prs : List V} (e : Ex H H') (h : PartsAt K H p D wi pl li pa rows prs) : PartsAt K H' p D wi pl li pa rows prs :=
  ⟨ex_l e h.ob, ex_l e h.wi, ex_l e h.pl, ex_l e h.li, dps_ex e h.ls, ex_l e h.pa, dps_ex e h.ps⟩
theorem parts_in {K : PySem.W.Frag} {H : Hp} {p : Addr} {D : LandD} (h : Dp K H (.ref p) (dParts D)) : ∃ wi pl li pa rows prs, PartsAt K H p D wi pl li pa rows prs := by
  unfold dParts at h
  cases h with
  | lst hs hr =>
    cases hr with
    | cons a1 hr =>
      cases a1 with
      | lst s1 d1 =>
        cases hr with
        | cons a2 hr =>
          cases a2 with
          | lst s2 d2 =>
            cases hr with
            | cons a3 hr =>
              cases a3 with
              | lst s3 d3 =>
                cases hr with
                | cons a4 hr =>
                  cases a4 with
                  | lst s4 d4 =>
                    cases hr
                    rw [dps_strs d1] at s1
                    rw [dps_strs d2] at s2
                    exact ⟨_, _, _, _, _, _, hs, s1, s2, s3, d3, s4, d4⟩
def sp__law_made (K : PySem.W.Frag) (C : Addr) : Sp := fun vs H Q _ => ∃ (p : Addr) (D : LandD), vs = [.ref p] ∧ Dp K H (.ref p) (dParts D) ∧ LandOk D ∧ ∀ H' x, Ex H H' → H x = none → IsLand K C H' x D → Q (.ref x) H'
def sp__law_frozen (K : PySem.W.Frag) : Sp := fun vs H Q _ => ∃ (p : Addr) (D : LandD), vs = [.ref p] ∧ Dp K H (.ref p) (dParts D) ∧ LandOk D ∧ ∀ H' q, Ex H H' → H q = none → Dp K H' (.ref q) (dLand D) → Q (.ref q) H'
def sp__law_same (K : PySem.W.Frag) (C : Addr) : Sp := fun vs H Q _ => ∃ (x d : Addr) (D : LandD), vs = [.ref x, .ref d] ∧ IsLand K C H x D ∧ Dp K H (.ref d) (dLand D) ∧ LandOk D ∧ ∀ H', Ex H H' → Q (.bl true) H'
section
variable {P : Program} {w : World} {K : PySem.W.Frag} {mg : Str → Option Value} {base : Heap} {a : Ad}
end
end EV

set_option Elab.async false
set_option linter.all false
set_option maxRecDepth 100000
set_option maxHeartbeats 4000000
namespace EV
open PySem PySem.Spec PyProof.Rows L2 EvS Evl
/-! ### names as the law makes them from one number -/
def sizeN (n : Int) : Nat := (n % 11).toNat
def restTo (n : Int) (m : Nat) : List Nat := (List.range m).map fun (k : Nat) => chAt ((n + 7 * (k : Int) * (k : Int)) % 36)
def restN (n : Int) : List Nat := restTo n (sizeN n)
def ownN (n : Int) (k : Nat) : List Nat := if (n / 121 + (k : Int)) % 3 = 0 then (restN n).drop 1 else restN n
def plcN (n : Int) : Nat := ((n / 11).fmod ((sizeN n : Int) + 1)).toNat
def spotN (n : Int) (k : Nat) : Nat := min (plcN n) (ownN n k).length
def stpN (n : Int) : Int := if (n / 363) % 2 = 1 then 31 else 5
def codesN (n : Int) (k : Nat) : List Nat := chAt ((n + 3 * (k : Int)) % 26) :: ((ownN n k).take (spotN n k) ++ (chAt ((n + stpN n * (k : Int)) % 36) :: (ownN n k).drop (spotN n k)))
def nameN (n : Int) (k : Nat) : Str := tx (codesN n k)
def namesN (n : Int) (m : Nat) : List Str := (List.range m).map (nameN n)
theorem sizeN_le (n : Int) : sizeN n ≤ 10 := by
  have := Int.emod_lt_of_pos n (show (0 : Int) < 11 by decide)
  unfold sizeN
  omega
theorem restTo_len (n : Int) (m : Nat) : (restTo n m).length = m := by unfold restTo; rw [List.length_map, List.length_range]
theorem restN_len (n : Int) : (restN n).length = sizeN n := restTo_len _ _
theorem ownN_len (n : Int) (k : Nat) : (ownN n k).length ≤ 10 := by
  have := sizeN_le n
  unfold ownN
  split
  · rw [List.length_drop, restN_len]; omega
  · rw [restN_len]; omega
theorem ownN_ok (n : Int) (k : Nat) : ∀ c ∈ ownN n k, okSign c = true := by
  have r : ∀ c ∈ restN n, okSign c = true := fun c hc => by
    obtain ⟨j, _, rfl⟩ := List.mem_map.mp hc
    exact chAt_ok (m36 _).1 (m36 _).2
  intro c hc
  unfold ownN at hc
  split at hc
  · exact r c (List.mem_of_mem_drop hc)
  · exact r c hc
theorem codesN_len (n : Int) (k : Nat) : (codesN n k).length = (ownN n k).length + 2 := by
  have h : spotN n k ≤ (ownN n k).length := Nat.min_le_right _ _
  unfold codesN
  rw [List.length_cons, List.length_append, List.length_take, List.length_cons, List.length_drop]
  omega
theorem nameN_ok (n : Int) (k : Nat) : isName (nameN n k) = true := by
  have hl := codesN_len n k
  have ho := ownN_len n k
  have len : (nameN n k).length = (codesN n k).length := by
    show (codesN n k).toArray.size = _
    rw [List.size_toArray]
  have lst : (nameN n k).cps.toList = codesN n k := rfl
  unfold isName
  rw [lst, len, Bool.and_eq_true, Bool.and_eq_true]
  refine ⟨⟨decide_eq_true ⟨by omega, by omega⟩, ?_⟩, ?_⟩
  · have e : (codesN n k).head? = some (chAt ((n + 3 * (k : Int)) % 26)) := rfl
    rw [e]
    exact decide_eq_true (chAt_let (Int.emod_nonneg _ (by decide)) (Int.emod_lt_of_pos _ (by decide)))
  · rw [List.all_eq_true]
    intro c hc
    unfold codesN at hc
    rcases List.mem_cons.mp hc with z | z
    · rw [z]
      have := Int.emod_lt_of_pos (n + 3 * (k : Int)) (show (0 : Int) < 26 by decide)
      exact chAt_ok (Int.emod_nonneg _ (by decide)) (by omega)
    rcases List.mem_append.mp z with z | z
    · exact ownN_ok _ _ c (List.mem_of_mem_take z)
    rcases List.mem_cons.mp z with z | z
    · rw [z]
      exact chAt_ok (m36 _).1 (m36 _).2
    · exact ownN_ok _ _ c (List.mem_of_mem_drop z)
theorem nameN_inj (n : Int) {i j : Nat} (hi : i < 36) (hj : j < 36) (e : nameN n i = nameN n j) : i = j := by
  have ec : codesN n i = codesN n j := congrArg (fun s : Str => s.cps.toList) e
  have hl := congrArg List.length ec
  rw [codesN_len, codesN_len] at hl
  have eo : ownN n i = ownN n j := by
    have hs := restN_len n
    unfold ownN at hl ⊢
    split <;> split
    · rfl
    · rename_i h1 h2
      rw [if_pos h1, if_neg h2, List.length_drop] at hl
      have z : (restN n).length = 0 := by omega
      rw [List.length_eq_zero_iff] at z
      rw [z]
      rfl
    · rename_i h1 h2
      rw [if_neg h1, if_pos h2, List.length_drop] at hl
      have z : (restN n).length = 0 := by omega
      rw [List.length_eq_zero_iff] at z
      rw [z]
      rfl
    · rfl
  have es : spotN n i = spotN n j := by unfold spotN; rw [eo]
  have hle : spotN n j ≤ (ownN n j).length := Nat.min_le_right _ _
  unfold codesN at ec
  rw [eo, es] at ec
  have z := (List.cons.inj ec).2
  have z2 := List.append_cancel_left z
  have z3 := (List.cons.inj z2).1
  have y := chAt_inj (m36 _).1 (m36 _).2 (m36 _).1 (m36 _).2 z3
  unfold stpN at y
  split at y <;> omega
theorem namesN_good (n : Int) {m : Nat} (h : m ≤ 36) : Good (namesN n m) := by
  refine ⟨fun z hz => ?_, ?_⟩
  · obtain ⟨k, _, rfl⟩ := List.mem_map.mp hz
    exact nameN_ok n k
  · unfold namesN
    refine List.pairwise_map.mpr (List.Pairwise.imp_of_mem (fun ha hb ne e => ?_) (List.nodup_range (n := m)))
    have h1 := List.mem_range.mp ha
    have h2 := List.mem_range.mp hb
    exact ne (nameN_inj n (by omega) (by omega) e)
theorem namesN_len (n : Int) (m : Nat) : (namesN n m).length = m := by unfold namesN; rw [List.length_map, List.length_range]
theorem namesN_more (n : Int) (m : Nat) : namesN n (m + 1) = namesN n m ++ [nameN n m] := by
  unfold namesN
  rw [List.range_succ, List.map_append]
  rfl
theorem join_ones : ∀ l : List Nat, Txt.join "" (l.map fun c => tx [c]) = tx l := fun l => by
  rw [show Txt.join "" (l.map fun c => tx [c]) = Str.join "" (l.map fun c => tx [c]) from StrLaws.glued_eq_join _ _]
  induction l with
  | nil => rfl
  | cons c r ih =>
    cases r with
    | nil => rfl
    | cons d r =>
      show tx [c] ++ "" ++ Str.join "" ((d :: r).map fun c => tx [c]) = tx (c :: d :: r)
      rw [ih]
      have e : (tx [c] ++ ("" : Str)) = tx [c] := Str.ext' (by rw [Str.cps_append]; simp; rfl)
      rw [e, tx_add]
      rfl
theorem ones_sum : ∀ l : List Nat, ((l.map fun c => tx [c]).map (·.length)).sum = l.length
  | [] => rfl
  | c :: r => by
    have ih := ones_sum r
    rw [List.map_cons, List.map_cons, List.sum_cons, ih, List.length_cons]
    show 1 + r.length = _
    omega
def sp2__law_names : Sp := fun vs H Q _ => ∃ (n : Int) (m : Nat), vs = [.int n, .int (m : Int)] ∧ 0 ≤ n ∧ n < 1009 ∧ m ≤ 36 ∧
  ∀ H' q, Ex H H' → H q = none → H' q = some (.lst ((namesN n m).map V.str)) → Q (.ref q) H'
end EV

set_option Elab.async false
set_option linter.all false
set_option maxRecDepth 100000
set_option maxHeartbeats 4000000
namespace EV
open PySem PySem.Spec PyProof.Rows L2 EvS Evl
section
variable {P : Program} {w : World} {K : PySem.W.Frag} {mg : Str → Option Value} {base : Heap} {a : Ad}
theorem G__law_names (T : Txt K mg a) : FnOk P w K mg base CX0 1 a.f__law_names a.d__law_names ["number", "many"] sp2__law_names := by
  refine T.F__law_names.ok sc__law_names (fun vs H Q E h => ?_) (fun cdv A outer s H vs Q E hr h => ?_)
  · obtain ⟨n, m, rfl, _⟩ := h
    rfl
  · obtain ⟨n, m, rfl, n0, n1, m36', k⟩ := h
    refine ⟨_, (pss_cons (ps_set (i := 2) sc__law_names.nd rfl (Or.inr rfl) pe_str)
      (pss_cons (ps_set (i := 3) sc__law_names.nd rfl (Or.inl rfl) (pe_op op_mod (pe_callTy call_int1 (by rfl) T.z_int (by decide +kernel) (pa_cons (pv 0) pa_nil)) pe_int))
      (pss_cons (ps_set (i := 4) sc__law_names.nd rfl (Or.inl rfl) (pe_join pe_str (pe_lc (own := [("k", 7)]) (g := gName 7) (tt := tYes) rfl sc__law_names.nd (pi_range1 (by rfl) T.z_range (pa_cons (pv 3) pa_nil)) (blkOk_by (N := ["number", "many", "letters", "size", "rest", "place", "names", "k", "own", "spot", "step"]) (sc := defScope s__law_names) (by decide +kernel)) (fun _ _ _ _ _ => pg_name (i := 7) sc__law_names.nd rfl (Or.inl rfl)) (fun _ _ _ _ _ => pts_nil) (fun _ _ _ _ _ => (pe_ix ix_str (pv 2) (pe_op op_mod (pe_callTy call_int1 (by rfl) T.z_int (by decide +kernel) (pa_cons (pe_op op_add (pv 0) (pe_op op_mul (pe_op op_mul pe_int (pv 7)) (pv 7))) pa_nil)) pe_int) (fun _ _ => rfl))))))
      (pss_cons (ps_set (i := 5) sc__law_names.nd rfl (Or.inl rfl) (pe_op op_modN (pe_callTy call_int1 (by rfl) T.z_int (by decide +kernel) (pa_cons (pe_op op_fdiv (pv 0) pe_int) pa_nil)) (pe_op op_add (pv 3) pe_int)))
      (pss_cons (ps_set (i := 6) sc__law_names.nd rfl (Or.inl rfl) (pe_lst pa_nil))
      (pss_cons (ps_for PassesOwn.never rfl (pi_range1 (by rfl) T.z_range (pa_cons (pv 1) pa_nil)) (pg_name (i := 7) sc__law_names.nd rfl (Or.inl rfl)) (pss_cons (ps_set (i := 8) sc__law_names.nd rfl (Or.inl rfl) (pv 4))
        (pss_cut (ps_if (pt_cmpR op_eq (pe_op op_mod (pe_callTy call_int1 (by rfl) T.z_int (by decide +kernel) (pa_cons (pe_op op_add (pe_op op_fdiv (pv 0) pe_int) (pv 7)) pa_nil)) pe_int) pe_int (nomark _)) (pss_one (ps_set (i := 8) sc__law_names.nd rfl (Or.inl rfl) (pe_slice sl_str (pv 4) (po_some pe_int) po_none))) pss_nil)
        (pss_cons (ps_set (i := 9) sc__law_names.nd rfl (Or.inl rfl) (pe_callB (call_min2 rfl) (by rfl) T.z_min (by decide +kernel) (pa_cons (pv 5) (pa_cons (pe_callB call_len_str (by rfl) T.z_len PySem.boot_len (pa_cons (pv 8) pa_nil)) pa_nil))))
        (pss_cons (ps_set (i := 10) sc__law_names.nd rfl (Or.inl rfl) pe_int)
        (pss_cut (ps_if (pt_cmpR op_eq (pe_op op_mod (pe_callTy call_int1 (by rfl) T.z_int (by decide +kernel) (pa_cons (pe_op op_fdiv (pv 0) pe_int) pa_nil)) pe_int) pe_int (nomark _)) (pss_one (ps_set (i := 10) sc__law_names.nd rfl (Or.inl rfl) pe_int)) pss_nil)
        (pss_one (ps_expr (pe_bm PySem.F.plainAttrs_list PySem.F.slot_list_append PySem.F.type_list_append mt_append (pv 6) (pa_cons (pe_op op_add_str (pe_op op_add_str (pe_op op_add_str (pe_ix ix_str (pv 2) (pe_op op_mod (pe_callTy call_int1 (by rfl) T.z_int (by decide +kernel) (pa_cons (pe_op op_add (pv 0) (pe_op op_mul pe_int (pv 7))) pa_nil)) pe_int) (fun _ _ => rfl)) (pe_slice sl_str (pv 8) po_none (po_some (pv 9)))) (pe_ix ix_str (pv 2) (pe_op op_mod (pe_callTy call_int1 (by rfl) T.z_int (by decide +kernel) (pa_cons (pe_op op_add (pv 0) (pe_op op_mul (pv 10) (pv 7))) pa_nil)) pe_int) (fun _ _ => rfl))) (pe_slice sl_str (pv 8) (po_some (pv 9)) po_none)) pa_nil))))))))))
      (pss_one (ps_ret (pv 6))))))))), ?_⟩
    have s36 : ("abcdefghijklmnopqrstuvwxyz0123456789" : Str).length ≤ sizeLine := by decide +kernel
    have z0 := Int.emod_nonneg n (show (11 : Int) ≠ 0 by decide)
    have z1 := Int.emod_lt_of_pos n (show (0 : Int) < 11 by decide)
    have es : n % 11 = ((sizeN n : Nat) : Int) := by unfold sizeN; omega
    have sl := sizeN_le n
    refine ⟨_, rfl, .inl ⟨_, rfl, _, _, rfl, rfl, (by show (0 : Int) < 11; decide), ?_⟩⟩
    -- rest
    refine ⟨⟨_, rfl⟩, _, rfl, _, rfl, by omega, by omega, fun D hD => lc_range (lo := 0) (n := (n % 11).toNat) (fun i H' => Ex H H' ∧ H' D = some (.lst (((restTo n i).map fun c => tx [c]).map V.str))) ⟨Ex.new hD, upd_same⟩ ?_ ?_⟩
    · rintro i H' hi ⟨e, hL⟩
      refine ⟨rfl, _, rfl, _, rfl, _, rfl, _, _, rfl, rfl, .inl ⟨by decide, by decide⟩, _, rfl, _, _, rfl, rfl, .inl ⟨by omega, by omega⟩, _, _, rfl, rfl, .inl ⟨_, rfl, _, _, rfl, rfl, (by show (0 : Int) < 36; decide), _, _, _, rfl, rfl, s36, ch_get (m36 _).1 (m36 _).2, _, hL, sz_lt ?_, e.mut hD, ?_⟩⟩
      · rw [List.length_map, List.length_map, restTo_len]; omega
      · rw [upd_same]
        have st : restTo n (i + 1) = restTo n i ++ [chAt ((n + 7 * (0 + (i : Int)) * (0 + (i : Int))) % 36)] := by
          unfold restTo
          rw [List.range_succ, List.map_append, Int.zero_add]
          rfl
        rw [st, List.map_append, List.map_append]
        rfl
    rintro H1 ⟨e1, hL1⟩
    refine ⟨_, D, _, rfl, rfl, .inl (SqL.of hL1), ?_, ?_⟩
    · rw [ones_sum, List.length_map, restTo_len]
      show _ + _ * 0 ≤ _
      omega
    have ej : Txt.join "" ((restTo n (n % 11).toNat).map fun c => tx [c]) = tx (restN n) := by rw [join_ones]; rfl
    clear hL1
    have er : restTo n (sizeN n) = restN n := rfl
    have rl := restN_len n
    -- place
    have pd : (0 : Int) < ((sizeN n : Nat) : Int) + 1 := by omega
    have pq := Int.fmod_nonneg_of_pos (n / 11) pd
    have ep : (n / 11).fmod (((sizeN n : Nat) : Int) + 1) = ((plcN n : Nat) : Int) := by unfold plcN; omega
    have pl : plcN n ≤ sizeN n := by
      have := Int.fmod_lt_of_pos (n / 11) pd
      omega
    refine ⟨_, rfl, _, _, rfl, rfl, ⟨by decide, by decide⟩, .inl ⟨_, rfl, _, rfl, _, _, rfl, rfl, _, _, rfl, rfl, by omega, ?_⟩⟩
    have ep' : (n / 11).fmod (n % 11 + 1) = ((plcN n : Nat) : Int) := by rw [es]; exact ep
    -- names
    refine ⟨Nat.zero_le _, fun q hq => ?_⟩
    have e2 : Ex H (upd H1 q (.lst [])) := e1.trans (Ex.new hq)
    have hqH := fresh_back e1 hq
    refine ⟨_, rfl, _, rfl, by omega, by omega, for_range (n := ((m : Nat) : Int).toNat) (fun i σ H' => ∃ v7 v8 v9 v10, σ = [some (.int n), some (.int (m : Int)), some (.str "abcdefghijklmnopqrstuvwxyz0123456789"), some (.int ((sizeN n : Nat) : Int)), some (.str (tx (restN n))), some (.int ((plcN n : Nat) : Int)), some (.ref q), v7, v8, v9, v10] ∧ Ex H H' ∧ H' q = some (.lst ((namesN n i).map V.str))) ?_ ?_ ?_⟩
    · refine ⟨none, none, none, none, ?_, e2, upd_same⟩
      show [some (V.int n), some (.int (m : Int)), some (.str "abcdefghijklmnopqrstuvwxyz0123456789"), some (.int (n % 11)), some (.str (Txt.join "" ((restTo n (n % 11).toNat).map fun c => tx [c]))), some (.int ((n / 11).fmod (n % 11 + 1))), some (.ref q), none, none, none, none] = _
      rw [ep', ej, es]
    · rintro i σ H' hi ⟨v7, v8, v9, v10, rfl, e, hL⟩
      have rls : (tx (restN n)).length ≤ sizeLine := sz_of (by rw [tx_len]; omega)
      -- own
      refine ⟨_, rfl, ?_⟩
      refine ⟨fun σ H2 => σ = [some (.int n), some (.int (m : Int)), some (.str "abcdefghijklmnopqrstuvwxyz0123456789"), some (.int ((sizeN n : Nat) : Int)), some (.str (tx (restN n))), some (.int ((plcN n : Nat) : Int)), some (.ref q), some (.int (0 + (i : Int))), some (.str (tx (ownN n i))), v9, v10] ∧ H2 = H', ?_, ?_⟩
      · refine ⟨_, rfl, _, _, rfl, rfl, ⟨by decide, by decide⟩, _, rfl, _, _, rfl, rfl, .inl ⟨_, rfl, _, _, rfl, rfl, (by show (0 : Int) < 3; decide), rfl, _, rfl, ?_⟩⟩
        refine ite2 (fun h => ?_) (fun h => ?_)
        · have h' : (n / 121 + (i : Int)) % 3 = 0 := by have := V.int.inj (of_decide_eq_true h); rwa [Int.zero_add] at this
          refine ⟨_, rfl, _, rfl, _, rfl, rls, ?_⟩
          refine ⟨?_, rfl⟩
          have eo : ownN n i = (restN n).drop 1 := by unfold ownN; rw [if_pos h']
          rw [show cutS (tx (restN n)) (some 1) none = tx ((restN n).drop 1) from tx_from _ 1, eo]
          rfl
        · have h' : ¬ (n / 121 + (i : Int)) % 3 = 0 := fun z => h (decide_eq_true (congrArg V.int (by rw [Int.zero_add]; exact z)))
          refine ⟨?_, rfl⟩
          have eo : ownN n i = restN n := by unfold ownN; rw [if_neg h']
          rw [eo]
          rfl
      rintro σ H2 ⟨rfl, hH⟩
      rw [hH]
      clear hH H2
      have ol := ownN_len n i
      have ols : (tx (ownN n i)).length ≤ sizeLine := sz_of (by rw [tx_len]; omega)
      -- spot
      refine ⟨_, rfl, _, rfl, _, rfl, ols, _, _, rfl, ?_⟩
      have esp : (if (((tx (ownN n i)).length : Nat) : Int) < ((plcN n : Nat) : Int) then (((tx (ownN n i)).length : Nat) : Int) else ((plcN n : Nat) : Int)) = ((spotN n i : Nat) : Int) := by
        rw [tx_len]
        unfold spotN
        split <;> omega
      have spl : spotN n i ≤ (ownN n i).length := Nat.min_le_right _ _
      -- step
      refine ⟨fun σ H2 => σ = [some (.int n), some (.int (m : Int)), some (.str "abcdefghijklmnopqrstuvwxyz0123456789"), some (.int ((sizeN n : Nat) : Int)), some (.str (tx (restN n))), some (.int ((plcN n : Nat) : Int)), some (.ref q), some (.int (0 + (i : Int))), some (.str (tx (ownN n i))), some (.int ((spotN n i : Nat) : Int)), some (.int (stpN n))] ∧ H2 = H', ?_, ?_⟩
      · refine ⟨_, rfl, _, _, rfl, rfl, ⟨by decide, by decide⟩, .inl ⟨_, rfl, _, _, rfl, rfl, (by show (0 : Int) < 2; decide), rfl, _, rfl, ?_⟩⟩
        refine ite2 (fun h => ?_) (fun h => ?_)
        · have h' : (n / 363) % 2 = 1 := V.int.inj (of_decide_eq_true h)
          refine ⟨?_, rfl⟩
          unfold stpN
          rw [if_pos h', ← esp]
          rfl
        · have h' : ¬ (n / 363) % 2 = 1 := fun z => h (decide_eq_true (congrArg V.int z))
          refine ⟨?_, rfl⟩
          unfold stpN
          rw [if_neg h', ← esp]
          rfl
      rintro σ H2 ⟨rfl, hH⟩
      rw [hH]
      clear hH H2
      have f0 := Int.emod_nonneg (n + 3 * (0 + (i : Int))) (show (26 : Int) ≠ 0 by decide)
      have f1 := Int.emod_lt_of_pos (n + 3 * (0 + (i : Int))) (show (0 : Int) < 26 by decide)
      have st0 : 0 ≤ stpN n ∧ stpN n ≤ 31 := by unfold stpN; split <;> omega
      refine ⟨_, rfl, .inl ⟨rfl, _, SqL.of hL⟩, _, rfl, _, rfl, _, rfl, _, _, rfl, rfl, .inl ⟨by decide, by decide⟩, _, _, rfl, rfl, .inl ⟨_, rfl, _, _, rfl, rfl, (by show (0 : Int) < 26; decide), _, _, _, rfl, rfl, s36, ch_get f0 (by omega), _, rfl, _, rfl, _, rfl, _, rfl, ols, _, _, rfl, rfl, sz_of ?_, ?_⟩⟩
      · rw [tx_to, tx_len, List.length_singleton, tx_len, List.length_take]; omega
      refine ⟨_, rfl, _, rfl, _, rfl, _, rfl, _, _, rfl, rfl, .inl ⟨by omega, by omega⟩, _, _, rfl, rfl, .inl ⟨_, rfl, _, _, rfl, rfl, (by show (0 : Int) < 36; decide), _, _, _, rfl, rfl, s36, ch_get (m36 _).1 (m36 _).2, _, _, rfl, rfl, sz_of ?_, _, rfl, _, rfl, _, rfl, _, rfl, ols, _, _, rfl, rfl, sz_of ?_, q, _, _, rfl, rfl, hL, sz_lt (by rw [List.length_map, namesN_len]; omega), ?_⟩⟩
      · rw [tx_to, Str.length_append, tx_len, List.length_singleton, tx_len, one_len, List.length_take]; omega
      · rw [tx_to, tx_from, Str.length_append, Str.length_append, tx_len, List.length_singleton, tx_len, one_len, tx_len, List.length_take, List.length_drop]; omega
      · refine ⟨_, _, _, _, rfl, e.mut hqH, ?_⟩
        rw [upd_same, namesN_more, List.map_append, tx_to, tx_from, tx_one, tx_one, tx_add, tx_add, tx_add]
        show some (HO.lst (_ ++ [V.str (tx _)])) = some (HO.lst (_ ++ [V.str (tx (codesN n i))]))
        unfold codesN
        rw [Int.zero_add, List.append_assoc, List.append_assoc]
        rfl
    · rintro σ H' ⟨v7, v8, v9, v10, rfl, e, hL⟩
      exact ⟨_, rfl, k H' q e hqH hL⟩
end
end EV

set_option Elab.async false
set_option linter.all false
set_option maxRecDepth 100000
set_option maxHeartbeats 4000000
namespace EV
open PySem PySem.Spec PyProof.Rows L2 EvS Evl
/-! ### the parts of a drawn land without paths -/
structure Parts3 (K : PySem.W.Frag) (H : Hp) (p : Addr) (D : LandD) (wi pl li : Addr) (rows : List V) : Prop where
  ob : SqL K H p [.ref wi, .ref pl, .ref li]
  wi : SqT K H wi (D.ws.map V.str)
  pl : SqT K H pl (D.ps.map V.str)
  li : SqT K H li rows
  ls : DpAll K H rows (D.ls.map dLink)
  nopa : D.pa = []
theorem Parts3.ex {K : PySem.W.Frag} {H H' : Hp} {p : Addr} {D : LandD} {wi pl li : Addr} {rows : List V} (e : Ex H H') (h : Parts3 K H p D wi pl li rows) : Parts3 K H' p D wi pl li rows :=
  ⟨ex_l e h.ob, ex_t e h.wi, ex_t e h.pl, ex_t e h.li, dps_ex e h.ls, h.nopa⟩
structure Small3 (D : LandD) : Prop where
  w3 : D.ws.length ≤ 3
  p2 : 2 ≤ D.ps.length
  p6 : D.ps.length ≤ 6
  l10 : D.ls.length ≤ 10
def sp3__law_parts (K : PySem.W.Frag) : Sp := fun vs H Q _ => ∃ (p : Addr) (ks : List Int), vs = [.ref p, .int 0] ∧ Nums K H p ks ∧
  ∀ H' q D wi pl li rows, Ex H H' → H q = none → H' q = some (.lst [.ref wi, .ref pl, .ref li]) → Parts3 K H' q D wi pl li rows → LandOk D → Small3 D → Q (.ref q) H'
end EV

set_option Elab.async false
set_option linter.all false
set_option maxRecDepth 100000
set_option maxHeartbeats 4000000
namespace EV
open PySem PySem.Spec PyProof.Rows L2 EvS Evl
section
variable {P : Program} {w : World} {K : PySem.W.Frag} {mg : Str → Option Value} {base : Heap} {a : Ad}
theorem G__law_parts (T : Txt K mg a) : FnOk P w K mg base CX0 2 a.f__law_parts a.d__law_parts ["numbers", "at"] (sp3__law_parts K) := by
  refine T.F__law_parts.ok sc__law_parts (fun vs H Q E h => ?_) (fun cdv A outer s H vs Q E hr h => ?_)
  · obtain ⟨p, ks, rfl, _⟩ := h
    rfl
  · obtain ⟨p, ks, rfl, N, k⟩ := h
    have lo := N.lo
    have sm := N.sm
    refine ⟨_, (pss_cons (ps_set (i := 2) sc__law_parts.nd rfl (Or.inl rfl) (pe_call (G__law_names T) (hr.mono (by decide)) (by rfl) T.g__law_names T.k__law_names T.B__law_names .nil pass0 (pa_cons (pe_ix ix_list (pv 0) (pv 1) (fun _ _ => rfl)) (pa_cons (pe_op op_add pe_int (pe_op op_mod (pe_callTy call_int1 (by rfl) T.z_int (by decide +kernel) (pa_cons (pe_ix ix_list (pv 0) (pe_op op_add (pv 1) pe_int) (fun _ _ => rfl)) pa_nil)) pe_int)) pa_nil))))
      (pss_cons (ps_set (i := 3) sc__law_parts.nd rfl (Or.inl rfl) (pe_call (G__law_names T) (hr.mono (by decide)) (by rfl) T.g__law_names T.k__law_names T.B__law_names .nil pass0 (pa_cons (pe_ix ix_list (pv 0) (pe_op op_add (pv 1) pe_int) (fun _ _ => rfl)) (pa_cons (pe_op op_add pe_int (pe_op op_mod (pe_callTy call_int1 (by rfl) T.z_int (by decide +kernel) (pa_cons (pe_ix ix_list (pv 0) (pe_op op_add (pv 1) pe_int) (fun _ _ => rfl)) pa_nil)) pe_int)) pa_nil))))
      (pss_cons (ps_set (i := 4) sc__law_parts.nd rfl (Or.inl rfl) (pe_call (G__law_names T) (hr.mono (by decide)) (by rfl) T.g__law_names T.k__law_names T.B__law_names .nil pass0 (pa_cons (pe_ix ix_list (pv 0) (pe_op op_add (pv 1) pe_int) (fun _ _ => rfl)) (pa_cons pe_int pa_nil))))
      (pss_cons (ps_set (i := 5) sc__law_parts.nd rfl (Or.inl rfl) (pe_lst pa_nil))
      (pss_cons (ps_for PassesOwn.never rfl (pi_range1 (by rfl) T.z_range (pa_cons (pe_op op_add (pe_op op_mod (pe_callTy call_int1 (by rfl) T.z_int (by decide +kernel) (pa_cons (pe_ix ix_list (pv 0) (pe_op op_add (pv 1) pe_int) (fun _ _ => rfl)) pa_nil)) pe_int) (pe_op op_mod (pe_callTy call_int1 (by rfl) T.z_int (by decide +kernel) (pa_cons (pe_op op_fdiv (pe_ix ix_list (pv 0) (pe_op op_add (pv 1) pe_int) (fun _ _ => rfl)) pe_int) pa_nil)) pe_int)) pa_nil)) (pg_name (i := 6) sc__law_parts.nd rfl (Or.inl rfl)) (pss_cons (ps_set (i := 7) sc__law_parts.nd rfl (Or.inl rfl) (pe_op op_add (pe_op op_add (pv 1) pe_int) (pe_op op_mul pe_int (pv 6))))
        (pss_cons (ps_set (i := 8) sc__law_parts.nd rfl (Or.inl rfl) (pe_op op_modN (pe_callTy call_int1 (by rfl) T.z_int (by decide +kernel) (pa_cons (pe_ix ix_list (pv 0) (pv 7) (fun _ _ => rfl)) pa_nil)) (pe_callB call_len_seq (by rfl) T.z_len PySem.boot_len (pa_cons (pv 3) pa_nil))))
        (pss_cons (ps_set (i := 9) sc__law_parts.nd rfl (Or.inl rfl) (pe_op op_modN (pe_callTy call_int1 (by rfl) T.z_int (by decide +kernel) (pa_cons (pe_op op_add (pe_op op_add (pv 8) pe_int) (pe_op op_modN (pe_callTy call_int1 (by rfl) T.z_int (by decide +kernel) (pa_cons (pe_op op_fdiv (pe_ix ix_list (pv 0) (pv 7) (fun _ _ => rfl)) pe_int) pa_nil)) (pe_op op_sub (pe_callB call_len_seq (by rfl) T.z_len PySem.boot_len (pa_cons (pv 3) pa_nil)) pe_int))) pa_nil)) (pe_callB call_len_seq (by rfl) T.z_len PySem.boot_len (pa_cons (pv 3) pa_nil))))
        (pss_cons (ps_set (i := 10) sc__law_parts.nd rfl (Or.inl rfl) (pe_lst pa_nil))
        (pss_cons (ps_for PassesOwn.never rfl (pi_range1 (by rfl) T.z_range (pa_cons (pe_callB call_len_seq (by rfl) T.z_len PySem.boot_len (pa_cons (pv 2) pa_nil)) pa_nil)) (pg_name (i := 11) sc__law_parts.nd rfl (Or.inl rfl)) (pss_cons (ps_set (i := 12) sc__law_parts.nd rfl (Or.inl rfl) (pe_ix ix_list (pv 0) (pe_op op_add (pe_op op_add (pv 7) pe_int) (pv 11)) (fun _ _ => rfl)))
          (pss_cons (ps_set (i := 13) sc__law_parts.nd rfl (Or.inl rfl) (pe_op op_add pe_int (pe_op op_mod (pe_callTy call_int1 (by rfl) T.z_int (by decide +kernel) (pa_cons (pe_op op_fdiv (pv 12) pe_int) pa_nil)) pe_int)))
          (pss_cut (ps_if (pt_cmpR op_eq (pe_op op_mod (pe_callTy call_int1 (by rfl) T.z_int (by decide +kernel) (pa_cons (pv 12) pa_nil)) pe_int) pe_int (nomark _)) (pss_cons (ps_set (i := 13) sc__law_parts.nd rfl (Or.inl rfl) (pe_op op_add pe_int (pe_callTy call_int1 (by rfl) T.z_int (by decide +kernel) (pa_cons (pv 12) pa_nil))))
            (pss_one (ps_set (i := 13) sc__law_parts.nd rfl (Or.inl rfl) (pe_callB (call_min2 rfl) (by rfl) T.z_min (by decide +kernel) (pa_cons pe_int (pa_cons (pv 13) pa_nil)))))) pss_nil)
          (pss_one (ps_if (pt_cmpR op_eq (pe_op op_mod (pe_callTy call_int1 (by rfl) T.z_int (by decide +kernel) (pa_cons (pv 12) pa_nil)) pe_int) pe_int (nomark _)) (pss_one (ps_expr (pe_bm PySem.F.plainAttrs_list PySem.F.slot_list_append PySem.F.type_list_append mt_append (pv 10) (pa_cons pe_non pa_nil)))) (pss_one (ps_expr (pe_bm PySem.F.plainAttrs_list PySem.F.slot_list_append PySem.F.type_list_append mt_append (pv 10) (pa_cons (pe_tup (pa_cons (pv 13) (pa_cons (pe_op op_add (pv 13) (pe_op op_mod (pe_callTy call_int1 (by rfl) T.z_int (by decide +kernel) (pa_cons (pe_op op_fdivN (pe_ix ix_list (pv 0) (pe_op op_add (pv 7) pe_int) (fun _ _ => rfl)) (pe_op op_add pe_int (pv 11))) pa_nil)) pe_int)) pa_nil))) pa_nil))))))))))
        (pss_one (ps_expr (pe_bm PySem.F.plainAttrs_list PySem.F.slot_list_append PySem.F.type_list_append mt_append (pv 5) (pa_cons (pe_tup (pa_cons (pe_ix ix_list (pv 4) (pv 6) (fun _ _ => rfl)) (pa_cons (pe_ix ix_list (pv 3) (pv 8) (fun _ _ => rfl)) (pa_cons (pe_ix ix_list (pv 3) (pv 9) (fun _ _ => rfl)) (pa_cons (pe_callTy call_tupK (by rfl) T.z_tuple (by decide +kernel) (pa_cons (pv 10) pa_nil)) pa_nil))))) pa_nil))))))))))
      (pss_one (ps_ret (pe_lst (pa_cons (pe_callTy call_tupK (by rfl) T.z_tuple (by decide +kernel) (pa_cons (pv 2) pa_nil)) (pa_cons (pe_callTy call_tupK (by rfl) T.z_tuple (by decide +kernel) (pa_cons (pv 3) pa_nil)) (pa_cons (pe_callTy call_tupK (by rfl) T.z_tuple (by decide +kernel) (pa_cons (pv 5) pa_nil)) pa_nil))))))))))), ?_⟩
    have get : ∀ {H' : Hp} {i : Int}, 0 ≤ i → i < 90 → ∃ n, 0 ≤ n ∧ n < 1009 ∧ atI (ks.map V.int) i = some (.int n) := fun {H' i} h0 h1 => by
      obtain ⟨n, hn, hat, _⟩ := num_in (ks := ks) (i := i) h0 (by omega)
      exact ⟨n, (sm n hn).1, (sm n hn).2, hat⟩
    -- winds
    obtain ⟨n0, l0, u0, g0⟩ := get (H' := H) (i := 0) (by decide) (by decide)
    obtain ⟨n1, l1, u1, g1⟩ := get (H' := H) (i := 0 + 1) (by decide) (by decide)
    obtain ⟨n2, l2, u2, g2⟩ := get (H' := H) (i := 0 + 2) (by decide) (by decide)
    obtain ⟨n3, l3, u3, g3⟩ := get (H' := H) (i := 0 + 3) (by decide) (by decide)
    obtain ⟨n4, l4, u4, g4⟩ := get (H' := H) (i := 0 + 4) (by decide) (by decide)
    obtain ⟨n5, l5, u5, g5⟩ := get (H' := H) (i := 0 + 5) (by decide) (by decide)
    have a0 := Int.emod_nonneg n1 (show (3 : Int) ≠ 0 by decide)
    have a1 := Int.emod_lt_of_pos n1 (show (0 : Int) < 3 by decide)
    obtain ⟨m1, em1⟩ : ∃ m1 : Nat, 1 + n1 % 3 = (m1 : Int) := ⟨_, (Int.toNat_of_nonneg (by omega)).symm⟩
    refine ⟨_, rfl, _, rfl, p, _, _, _, rfl, rfl, N.at_, g0, _, rfl, _, rfl, _, _, rfl, rfl, p, _, _, _, rfl, rfl, N.at_, g1, .inl ⟨_, rfl, _, _, rfl, rfl, (by show (0 : Int) < 3; decide), _, _, rfl, rfl, ?_⟩⟩
    refine ⟨n0, m1, congrArg (fun x : Int => [V.int n0, .int x]) em1, l0, u0, by omega, fun H1 q1 e1 f1 h1 => ?_⟩
    -- places
    have b0 := Int.emod_nonneg n3 (show (5 : Int) ≠ 0 by decide)
    have b1 := Int.emod_lt_of_pos n3 (show (0 : Int) < 5 by decide)
    obtain ⟨m2, em2⟩ : ∃ m2 : Nat, 2 + n3 % 5 = (m2 : Int) := ⟨_, (Int.toNat_of_nonneg (by omega)).symm⟩
    refine ⟨_, rfl, _, rfl, _, _, rfl, rfl, p, _, _, _, rfl, rfl, (N.ex e1).at_, g2, _, rfl, _, rfl, _, _, rfl, rfl, p, _, _, _, rfl, rfl, (N.ex e1).at_, g3, .inl ⟨_, rfl, _, _, rfl, rfl, (by show (0 : Int) < 5; decide), _, _, rfl, rfl, ?_⟩⟩
    refine ⟨n2, m2, congrArg (fun x : Int => [V.int n2, .int x]) em2, l2, u2, by omega, fun H2 q2 e2 f2 h2 => ?_⟩
    have g12 := e1.trans e2
    -- names
    refine ⟨_, rfl, _, rfl, _, _, rfl, rfl, p, _, _, _, rfl, rfl, (N.ex g12).at_, g4, n4, 10, rfl, l4, u4, by decide, fun H3 q3 e3 f3 h3 => ?_⟩
    have g13 := g12.trans e3
    have N3 := N.ex g13
    have h13 := e3 _ _ (e2 _ _ h1)
    have h23 := e3 _ _ h2
    have gw := namesN_good n0 (m := m1) (by omega)
    have gp := namesN_good n2 (m := m2) (by omega)
    have gn := namesN_good n4 (m := 10) (by omega)
    have lw := namesN_len n0 m1
    have lp := namesN_len n2 m2
    have ln := namesN_len n4 10
    generalize namesN n0 m1 = ws at h1 h13 gw lw
    generalize namesN n2 m2 = ps at h2 h23 gp lp
    generalize namesN n4 10 = ns at h3 gn ln
    have L1 : (ws.map V.str).length = m1 := by rw [List.length_map, lw]
    have L2 : (ps.map V.str).length = m2 := by rw [List.length_map, lp]
    have pat : ∀ {xs : List Str} {i : Nat} {j : Int}, i < xs.length → j = (i : Int) → atI (xs.map V.str) j = some (.str (xs.getD i "")) := fun {xs i j} hi ej => by
      rw [ej]
      exact atI_nat (by rw [List.getElem?_map, (getD_in hi).2] <;> rfl)
    clear e1 e2 e3 g12 f1 f2 f3 g0 g1 g2 g3 g4
    -- links
    have c0 := Int.emod_nonneg n5 (show (10 : Int) ≠ 0 by decide)
    have c1 := Int.emod_lt_of_pos n5 (show (0 : Int) < 10 by decide)
    have c2 := Int.emod_nonneg (n5 / 10) (show (2 : Int) ≠ 0 by decide)
    have c3 := Int.emod_lt_of_pos (n5 / 10) (show (0 : Int) < 2 by decide)
    refine ⟨Nat.zero_le _, fun D hD => ?_⟩
    have start : Ex H3 (upd H3 D (.lst [])) := Ex.new hD
    refine ⟨_, rfl, _, rfl, _, _, rfl, rfl, p, _, _, _, rfl, rfl, (N3.ex start).at_, g5, .inl ⟨_, rfl, _, _, rfl, rfl, (by show (0 : Int) < 10; decide), _, rfl, _, rfl, _, _, rfl, rfl, p, _, _, _, rfl, rfl, (N3.ex start).at_, g5, _, _, rfl, rfl, ⟨by decide, by decide⟩, .inl ⟨_, rfl, _, _, rfl, rfl, (by show (0 : Int) < 2; decide), _, _, rfl, rfl, _, rfl, by omega, by omega, for_range (n := (n5 % 10 + n5 / 10 % 2).toNat) (fun i σ H' => ∃ (rows : List V) (ls : List Link) (v6 v7 v8 v9 v10 v11 v12 v13 : Option V), σ = [some (.ref p), some (.int 0), some (.ref q1), some (.ref q2), some (.ref q3), some (.ref D), v6, v7, v8, v9, v10, v11, v12, v13] ∧ Ex H3 H' ∧ H' D = some (.lst rows) ∧ DpAll K H' rows (ls.map dLink) ∧ ls.map (·.n) = ns.take i ∧ (∀ k ∈ ls, LinkOk ws ps k)) ?_ ?_ ?_⟩⟩⟩
    · exact ⟨[], [], none, none, none, none, none, none, none, none, rfl, start, upd_same, .nil, rfl, (fun k hk => by cases hk)⟩
    · rintro i σ H4 hi ⟨rows, ls, v6, v7, v8, v9, v10, v11, v12, v13, rfl, e4, hR, hd, hn, hok⟩
      have hi3 : i < ns.length := by omega
      have N4 := N3.ex e4
      have sq2 := SqL.of (K := K) (e4 _ _ h23)
      have rl : rows.length = i := by
        have z := congrArg List.length hn
        rw [List.length_map, List.length_take] at z
        rw [dps_len hd, List.length_map, z]
        omega
      obtain ⟨x1, x10, x11, gx1⟩ := get (H' := H4) (i := 0 + 6 + 5 * (0 + (i : Int))) (by omega) (by omega)
      obtain ⟨x4, x40, x41, gx4⟩ := get (H' := H4) (i := 0 + 6 + 5 * (0 + (i : Int)) + 4) (by omega) (by omega)
      refine ⟨_, rfl, _, _, rfl, rfl, _, rfl, _, _, rfl, rfl, .inl ⟨by decide, by decide⟩, _, _, rfl, rfl, ?_⟩
      refine ⟨_, rfl, _, rfl, p, _, _, _, rfl, rfl, N4.at_, gx1, .inl ⟨_, rfl, _, rfl, q2, _, rfl, .inl sq2, _, _, rfl, rfl, by rw [L2]; omega, ?_⟩⟩
      refine ⟨_, rfl, _, _, rfl, rfl, _, rfl, _, rfl, p, _, _, _, rfl, rfl, N4.at_, gx1, _, _, rfl, rfl, ⟨by decide, by decide⟩, .inl ⟨_, rfl, _, rfl, q2, _, rfl, .inl sq2, _, _, rfl, rfl, _, _, rfl, rfl, by rw [L2]; omega, _, _, rfl, rfl, .inl ⟨_, rfl, _, rfl, q2, _, rfl, .inl sq2, _, _, rfl, rfl, by rw [L2]; omega, ?_⟩⟩⟩
      have o0 := Int.fmod_nonneg_of_pos x1 (b := (((ps.map V.str).length : Nat) : Int)) (by rw [L2]; omega)
      have o1 := Int.fmod_lt_of_pos x1 (b := (((ps.map V.str).length : Nat) : Int)) (by rw [L2]; omega)
      have y0 := Int.fmod_nonneg_of_pos (x1 / 7) (b := (((ps.map V.str).length : Nat) : Int) - 1) (by rw [L2]; omega)
      have y1 := Int.fmod_lt_of_pos (x1 / 7) (b := (((ps.map V.str).length : Nat) : Int) - 1) (by rw [L2]; omega)
      obtain ⟨t0, t1, tn⟩ := other_ne o0 o1 y0 y1
      obtain ⟨ia, ea⟩ : ∃ ia : Nat, x1.fmod (((ps.map V.str).length : Nat) : Int) = (ia : Int) := ⟨_, (Int.toNat_of_nonneg o0).symm⟩
      obtain ⟨ib, eb⟩ : ∃ ib : Nat, (x1.fmod (((ps.map V.str).length : Nat) : Int) + 1 + (x1 / 7).fmod ((((ps.map V.str).length : Nat) : Int) - 1)).fmod (((ps.map V.str).length : Nat) : Int) = (ib : Int) := ⟨_, (Int.toNat_of_nonneg t0).symm⟩
      have ha : ia < ps.length := by omega
      have hb : ib < ps.length := by omega
      have hab : ia ≠ ib := by omega
      -- times
      refine ⟨Nat.zero_le _, fun l hl => ?_⟩
      have e5 : Ex H4 (upd H4 l (.lst [])) := Ex.new hl
      refine ⟨_, rfl, q1, _, rfl, .inl (SqL.of (e5 _ _ (e4 _ _ h13))), _, rfl, by omega, by omega, for_range (n := (((ws.map V.str).length : Nat) : Int).toNat) (fun j σ H' => ∃ (us : List V) (ts : List (Option (Int × Int))) (v11 v12 v13 : Option V), σ = [some (.ref p), some (.int 0), some (.ref q1), some (.ref q2), some (.ref q3), some (.ref D), some (.int (0 + (i : Int))), some (.int (0 + 6 + 5 * (0 + (i : Int)))), some (.int (x1.fmod (((ps.map V.str).length : Nat) : Int))), some (.int ((x1.fmod (((ps.map V.str).length : Nat) : Int) + 1 + (x1 / 7).fmod ((((ps.map V.str).length : Nat) : Int) - 1)).fmod (((ps.map V.str).length : Nat) : Int))), some (.ref l), v11, v12, v13] ∧ Ex H4 H' ∧ H' l = some (.lst us) ∧ DpAll K H' us (ts.map dTime) ∧ ts.length = j ∧ (∀ b ∈ ts, TimeOk b)) ?_ ?_ ?_⟩
      · exact ⟨[], [], v11, v12, v13, rfl, e5, upd_same, .nil, rfl, (fun b hb => by cases hb)⟩
      · rintro j σ H6 hj ⟨us, ts, v11, v12, v13, rfl, e6, hU, hdu, hlu, hku⟩
        have hj3 : j < 3 := by omega
        have N6 := N4.ex e6
        have ul : us.length = j := by rw [dps_len hdu, List.length_map, hlu]
        obtain ⟨y, y10, y11, gy1⟩ := get (H' := H6) (i := 0 + 6 + 5 * (0 + (i : Int)) + 1 + (0 + (j : Int))) (by omega) (by omega)
        have z0 := Int.emod_nonneg (y / 4) (show (9 : Int) ≠ 0 by decide)
        have z1 := Int.emod_lt_of_pos (y / 4) (show (0 : Int) < 9 by decide)
        refine ⟨_, rfl, _, rfl, _, _, rfl, rfl, _, rfl, _, _, rfl, rfl, p, _, _, _, rfl, rfl, N6.at_, gy1, ?_⟩
        refine ⟨_, rfl, _, _, rfl, rfl, ⟨by decide, by decide⟩, .inl ⟨_, rfl, _, _, rfl, rfl, (by show (0 : Int) < 9; decide), _, _, rfl, rfl, ?_⟩⟩
        refine ⟨fun σ H' => ∃ L : Int, 1 ≤ L ∧ L ≤ 900 ∧ σ = [some (.ref p), some (.int 0), some (.ref q1), some (.ref q2), some (.ref q3), some (.ref D), some (.int (0 + (i : Int))), some (.int (0 + 6 + 5 * (0 + (i : Int)))), some (.int (x1.fmod (((ps.map V.str).length : Nat) : Int))), some (.int ((x1.fmod (((ps.map V.str).length : Nat) : Int) + 1 + (x1 / 7).fmod ((((ps.map V.str).length : Nat) : Int) - 1)).fmod (((ps.map V.str).length : Nat) : Int))), some (.ref l), some (.int (0 + (j : Int))), some (.int y), some (.int L)] ∧ H' = H6, ?_, ?_⟩
        · refine ⟨_, rfl, .inl ⟨_, rfl, _, _, rfl, rfl, (by show (0 : Int) < 97; decide), rfl, _, rfl, ?_⟩⟩
          refine ite2 (fun _ => ?_) (fun _ => ⟨1 + y / 4 % 9, by omega, by omega, rfl, rfl⟩)
          refine ⟨_, rfl, .inl ⟨_, rfl, _, _, rfl, rfl, ?_⟩⟩
          refine ⟨_, rfl, _, _, rfl, ?_⟩
          exact ⟨if 200 + y < 900 then 200 + y else 900, by split <;> omega, by split <;> omega, rfl, rfl⟩
        rintro σ H7 ⟨L, L1', L9, rfl, hH⟩
        rw [hH]
        clear hH H7
        refine ⟨_, rfl, .inl ⟨_, rfl, _, _, rfl, rfl, (by show (0 : Int) < 4; decide), rfl, _, rfl, ?_⟩⟩
        refine ite2 (fun _ => ?_) (fun _ => ?_)
        · refine ⟨_, rfl, .inl ⟨rfl, _, SqL.of hU⟩, l, us, _, rfl, rfl, hU, sz_lt (by omega), us ++ [.non], ts ++ [none], _, _, _, rfl, e6.mut hl, upd_same, ?_, by rw [List.length_append, hlu] <;> rfl, fun b hb => ?_⟩
          · rw [List.map_append]
            exact dps_app (dps_exT (exT_mut hU) hdu (frozen_times _)) (dps_one .non)
          · rcases List.mem_append.mp hb with z | z
            · exact hku b z
            · rw [List.mem_singleton.mp z]; trivial
        · have w0 := Int.emod_nonneg (x4.fdiv (1 + (0 + (j : Int)))) (show (8 : Int) ≠ 0 by decide)
          have w1 := Int.emod_lt_of_pos (x4.fdiv (1 + (0 + (j : Int)))) (show (0 : Int) < 8 by decide)
          refine ⟨_, rfl, .inl ⟨rfl, _, SqL.of hU⟩, _, rfl, _, rfl, _, rfl, _, rfl, _, _, rfl, rfl, p, _, _, _, rfl, rfl, N6.at_, gx4, _, rfl, _, _, rfl, rfl, _, _, rfl, rfl, ⟨by omega, by omega⟩, .inl ⟨_, rfl, _, _, rfl, rfl, (by show (0 : Int) < 8; decide), _, _, rfl, rfl, by show 2 ≤ sizeLine; decide, fun t ht => ?_⟩⟩
          have e7 : Ex H6 (upd H6 t (.tup [.int L, .int (L + x4.fdiv (1 + (0 + (j : Int))) % 8)])) := Ex.new ht
          refine ⟨l, us, _, rfl, rfl, e7 _ _ hU, sz_lt (by omega), us ++ [.ref t], ts ++ [some (L, L + x4.fdiv (1 + (0 + (j : Int))) % 8)], _, _, _, rfl, (e6.trans e7).mut hl, upd_same, ?_, by rw [List.length_append, hlu] <;> rfl, fun b hb => ?_⟩
          · rw [List.map_append]
            exact dps_app (dps_exT (exT_mut (e7 _ _ hU)) (dps_ex e7 hdu) (frozen_times _)) (dps_one (dp_exT (exT_mut (e7 _ _ hU)) (.tup (st_of upd_same) (.cons (.int _) (.cons (.int _) .nil))) (frozen_time (some (L, L + x4.fdiv (1 + (0 + (j : Int))) % 8)))))
          · rcases List.mem_append.mp hb with z | z
            · exact hku b z
            · rw [List.mem_singleton.mp z]
              exact ⟨L1', by show L ≤ L + x4.fdiv (1 + (0 + (j : Int))) % 8; omega, by show L + x4.fdiv (1 + (0 + (j : Int))) % 8 ≤ 1000; omega⟩
      rintro σ H6 ⟨us, ts, v11, v12, v13, rfl, e6, hU, hdu, hlu, hku⟩
      have g46 := e4.trans e6
      refine ⟨_, rfl, .inl ⟨rfl, _, SqL.of (e6 _ _ hR)⟩, _, rfl, _, rfl, q3, _, _, _, rfl, rfl, SqL.of (g46 _ _ h3), pat hi3 (Int.zero_add _), _, rfl, _, rfl, q2, _, _, _, rfl, rfl, SqL.of (g46 _ _ h23), pat ha ea, _, rfl, _, rfl, q2, _, _, _, rfl, rfl, SqL.of (g46 _ _ h23), pat hb eb, _, rfl, l, _, rfl, .inl ⟨SqL.of hU, fun u hu => ⟨by show 4 ≤ sizeLine; decide, fun t ht => ?_⟩⟩⟩
      have e8 : Ex H6 (upd (upd H6 u (.tup us)) t (.tup [.str (ns.getD i ""), .str (ps.getD ia ""), .str (ps.getD ib ""), .ref u])) := (Ex.new hu).trans (Ex.new ht)
      have hRR := e8 _ _ (e6 _ _ hR)
      refine ⟨D, rows, _, rfl, rfl, hRR, sz_lt (by omega), rows ++ [.ref t], ls ++ [⟨ns.getD i "", ps.getD ia "", ps.getD ib "", ts⟩], _, _, _, _, _, _, _, _, rfl, (g46.trans e8).mut hD, upd_same, ?_, ?_, fun k0 hk => ?_⟩
      · rw [List.map_append]
        refine dps_exT (exT_mut hRR) (dps_app (dps_ex (e6.trans e8) hd) (dps_one (.tup (st_of upd_same) (.cons (.str _) (.cons (.str _) (.cons (.str _) (.cons (.tup (st_of (Ex.new ht _ _ upd_same)) (dps_ex e8 hdu)) .nil))))))) ?_
        rw [← List.map_append]
        exact frozen_links _
      · rw [List.map_append, hn, take_one (getD_in hi3).2]
        rfl
      · rcases List.mem_append.mp hk with z | z
        · exact hok k0 z
        · rw [List.mem_singleton.mp z]
          refine ⟨(getD_in ha).1, (getD_in hb).1, fun q => hab (getD_inj gp.2 ha hb q), ?_, hku⟩
          show ts.length = ws.length
          omega
    rintro σ H4 ⟨rows, ls, v6, v7, v8, v9, v10, v11, v12, v13, rfl, e4, hR, hd, hn, hok⟩
    have ll : ls.length ≤ 10 := by
      have z := congrArg List.length hn
      rw [List.length_map, List.length_take] at z
      omega
    have gl : Good (ls.map (·.n)) := by
      rw [hn]
      exact ⟨fun z hz => gn.1 z (List.mem_of_mem_take hz), List.Nodup.sublist (List.take_sublist _ _) gn.2⟩
    refine ⟨_, rfl, q1, _, rfl, .inl ⟨SqL.of (e4 _ _ h13), fun s1 z1 => ?_⟩⟩
    refine ⟨_, rfl, q2, _, rfl, .inl ⟨SqL.of (Ex.new z1 _ _ (e4 _ _ h23)), fun s2 z2 => ?_⟩⟩
    have k2 := (Ex.new (o := .tup (ws.map V.str)) z1).trans (Ex.new (o := .tup (ps.map V.str)) z2)
    refine ⟨_, rfl, D, _, rfl, .inl ⟨SqL.of (k2 _ _ hR), fun s3 z3 => ?_⟩⟩
    refine ⟨by show 3 ≤ sizeLine; decide, fun r hr => ?_⟩
    have f4 := (Ex.new (o := .tup rows) z3).trans (Ex.new (o := .lst [.ref s1, .ref s2, .ref s3]) hr)
    have k5 := k2.trans f4
    have g05 := g13.trans (e4.trans k5)
    refine k _ r ⟨ws, ps, ls, []⟩ s1 s2 s3 rows g05 (fresh_back (g13.trans (e4.trans (k2.trans (Ex.new z3)))) hr) upd_same ⟨SqL.of upd_same, ?_, ?_, ?_, ?_, rfl⟩ ?_ ?_
    · exact st_of (f4 _ _ (Ex.new z2 _ _ upd_same))
    · exact st_of (f4 _ _ upd_same)
    · exact st_of (Ex.new hr _ _ upd_same)
    · exact dps_ex k5 hd
    · exact ⟨by show 1 ≤ ws.length; omega, by show ws.length ≤ 4; omega, by show 1 ≤ ps.length; omega, by show ps.length ≤ 24; omega, by show ls.length ≤ 60; omega, Nat.zero_le _, gw, gp, gl, hok, (fun p hp => by cases hp), List.Pairwise.nil⟩
    · exact ⟨by show ws.length ≤ 3; omega, by show 2 ≤ ps.length; omega, by show ps.length ≤ 6; omega, ll⟩
end
end EV

set_option Elab.async false
set_option linter.all false
set_option maxRecDepth 100000
set_option maxHeartbeats 4000000
namespace EV
open PySem PySem.Spec PyProof.Rows L2 EvS Evl
/-! ### weathers -/
def dRow (r : Int × Str) : PyData := .tuple [.int r.1, .str r.2]
/-- the names of winds that a land does not have -/
def strange (D : LandD) (ws : List (Int × Str)) : Option Str := (ws.map (·.2)).find? fun z => !decide (z ∈ D.ws)
def RowsOk (ms : List Int) : Prop := 1 ≤ ms.length ∧ ms.length ≤ 40 ∧ ms.getD 0 0 = 0 ∧ (∀ i, i + 1 < ms.length → ms.getD i 0 < ms.getD (i + 1) 0) ∧ ms.getD (ms.length - 1) 0 ≤ 100000
def Tame (ws : List (Int × Str)) : Prop := ws.length ≤ 1000 ∧ ∀ r ∈ ws, r.1.natAbs ≤ 1000000 ∧ r.2.length ≤ 1000
def windTo (ws : List (Int × Str)) (m : Int) (i : Nat) : Str := (ws.take i).foldl (fun z r => if r.1 ≤ m then r.2 else z) (ws.headD (0, "")).2
def sp_check_wind (K : PySem.W.Frag) (C U : Addr) : Sp := fun vs H Q E => ∃ (x : Addr) (D : LandD) (z : Str), vs = [.ref x, .str z] ∧ IsLand K C H x D ∧ z.length ≤ 1000 ∧ (z ∈ D.ws → ∀ H', Ex H H' → Q .non H') ∧ (z ∉ D.ws → ∀ d H', H d = none → Ex H H' → H' d = some (.xd [("name", .str z)]) → E (.ref U) (some d) H')
def sp_check_winds (K : PySem.W.Frag) (C U : Addr) : Sp := fun vs H Q E => ∃ (x l : Addr) (D : LandD) (rs : List V) (ws : List (Int × Str)), vs = [.ref x, .ref l] ∧ IsLand K C H x D ∧ SqL K H l rs ∧ DpAll K H rs (ws.map dRow) ∧ Tame ws ∧
  (strange D ws = none → ∀ H', Ex H H' → Q .non H') ∧ (∀ z, strange D ws = some z → ∀ d H', H d = none → Ex H H' → H' d = some (.xd [("name", .str z)]) → E (.ref U) (some d) H')
def sp_check_rows (K : PySem.W.Frag) (I : Addr) : Sp := fun vs H Q E => ∃ (l : Addr) (rs : List V) (ws : List (Int × Str)), vs = [.ref l] ∧ SqL K H l rs ∧ DpAll K H rs (ws.map dRow) ∧ Tame ws ∧
  (RowsOk (ws.map (·.1)) → ∀ H', Ex H H' → Q .non H') ∧ (¬ RowsOk (ws.map (·.1)) → ∀ H', Ex H H' → E (.ref I) none H')
/-- what both checks say of a weather -/
def Says (U I : Addr) (D : LandD) (ws : List (Int × Str)) (H : Hp) (Q : Hp → Prop) (E : XK) : Prop :=
  (∀ z, strange D ws = some z → ∀ d H', H d = none → Ex H H' → H' d = some (.xd [("name", .str z)]) → E (.ref U) (some d) H') ∧
  (strange D ws = none → ¬ RowsOk (ws.map (·.1)) → ∀ H', Ex H H' → E (.ref I) none H') ∧ (strange D ws = none → RowsOk (ws.map (·.1)) → ∀ H', Ex H H' → Q H')
def sp_check_weather (K : PySem.W.Frag) (C U I : Addr) : Sp := fun vs H Q E => ∃ (x l : Addr) (D : LandD) (rs : List V) (ws : List (Int × Str)), vs = [.ref x, .ref l] ∧ IsLand K C H x D ∧ SqL K H l rs ∧ DpAll K H rs (ws.map dRow) ∧ Tame ws ∧ Says U I D ws H (Q .non) E
def sp_wind_at (K : PySem.W.Frag) (C U I : Addr) : Sp := fun vs H Q E => ∃ (x l : Addr) (D : LandD) (rs : List V) (ws : List (Int × Str)) (m : Int), vs = [.ref x, .ref l, .int m] ∧ IsLand K C H x D ∧ SqL K H l rs ∧ DpAll K H rs (ws.map dRow) ∧ Tame ws ∧ Says U I D ws H (Q (.str (windTo ws m ws.length))) E
theorem row_at {K : PySem.W.Frag} {H : Hp} {rs : List V} {ws : List (Int × Str)} {i : Nat} {y : V} (h : DpAll K H rs (ws.map dRow)) (hy : rs[i]? = some y) : ∃ t r, y = .ref t ∧ SqT K H t [.int r.1, .str r.2] ∧ ws[i]? = some r ∧ r ∈ ws := by
  obtain ⟨d, hd, dp⟩ := dps_at h hy
  rw [List.getElem?_map] at hd
  obtain ⟨r, hr, rfl⟩ := Option.map_eq_some_iff.mp hd
  unfold dRow at dp
  cases dp with
  | tup st al =>
    cases al with
    | cons d1 al =>
      cases al with
      | cons d2 al =>
        cases al
        cases d1
        cases d2
        exact ⟨_, r, rfl, st, hr, List.mem_of_getElem? hr⟩
theorem it_len {i : Int} (h : i.natAbs.log2 < 1920) : (Str.ofString (toString i)).length ≤ 1921 := by
  rw [PySem.ofString_length]
  exact int_text_length_le (by decide) h
theorem it_small {i : Int} (h : i.natAbs ≤ 1000000) : i.natAbs.log2 < 1920 := by
  by_cases z : i.natAbs = 0
  · rw [z]; decide
  · exact Nat.lt_of_lt_of_le ((Nat.log2_lt z).mpr (Nat.lt_of_le_of_lt h (show 1000000 < 2 ^ 20 by decide))) (by decide)
theorem fs_check_wind (wi pl li pa : Addr) : (landFs wi pl li pa).lookup ("check_wind" : Str) = none := by
  unfold landFs
  rw [lookup_putF, if_neg (by decide +kernel), lookup_putF, if_neg (by decide +kernel), lookup_putF, if_neg (by decide +kernel), lookup_putF, if_neg (by decide +kernel)]
  rfl
theorem inV_str_not {z : Str} {ys : List Str} (h : z ∉ ys) : inV (.str z) (ys.map V.str) = false := by
  unfold inV
  rw [List.any_map, List.any_eq_false]
  intro x hx
  show ¬ (x == z) = true
  intro e
  exact h (eq_of_beq e ▸ hx)
theorem inV_str_dec (z : Str) (ys : List Str) : inV (.str z) (ys.map V.str) = decide (z ∈ ys) := by
  by_cases h : z ∈ ys
  · rw [inV_str h, decide_eq_true h]
  · rw [inV_str_not h, decide_eq_false h]
theorem strange_more {D : LandD} {ws : List (Int × Str)} {i : Nat} {r : Int × Str} (h : ws[i]? = some r) (hs : strange D (ws.take i) = none) : (r.2 ∈ D.ws → strange D (ws.take (i + 1)) = none) ∧ (r.2 ∉ D.ws → strange D ws = some r.2) := by
  unfold strange at hs ⊢
  refine ⟨fun c => ?_, fun c => ?_⟩
  · rw [take_one h, List.map_append, List.find?_append, hs]
    simp [c]
  · have e : ws = ws.take i ++ r :: ws.drop (i + 1) := by
      have hi := (List.getElem?_eq_some_iff.mp h)
      obtain ⟨hi, rfl⟩ := hi
      rw [List.getElem_cons_drop, List.take_append_drop]
    rw [e, List.map_append, List.find?_append, hs]
    simp [c]
theorem sz_unk {y : Str} (h : y.length ≤ 100000) : ((Str.empty ++ ("unknown name: " : Str)) ++ y).length ≤ sizeLine := by
  rw [Str.length_append, sizeLine_eq]
  have : (Str.empty ++ ("unknown name: " : Str)).length = 14 := by decide +kernel
  omega
section
variable {P : Program} {w : World} {K : PySem.W.Frag} {mg : Str → Option Value} {base : Heap} {a : Ad}
theorem G_UnknownName (T : Txt K mg a) (hP : PF P) : FnOk P w K mg base CX0 1 a.f_UnknownName a.d_UnknownName ["self", "name"] (SupX.spKeep a.X_UnknownName "name") := by
  refine SupX.sup_ok (T.S_UnknownName hP) (fun vs H Q E h => ?_) (fun A outer s H vs Q E hr h => ?_) (fun _ => rfl) (fun _ => ⟨_, rfl⟩)
  · obtain ⟨x, y, rfl, _⟩ := h
    rfl
  · obtain ⟨x, y, rfl, hy, hx, k⟩ := h
    refine ⟨x, y, _, _, rfl, hx, pa_cons (pe_joined (PJ.cons pe_str (PJ.cons (pe_fmt (pv 1)) PJ.nil))) pa_nil, ps_ost (pv 0) (pv 1) rfl, ?_⟩
    have fin : x = x → (1 : Nat) ≤ 1000 ∧ H x = some (exo x a.X_UnknownName none) ∧ tOst K "name" (tVar 0) (tVar 1) { nx := fun _ H' => Q V.non H', rt := Q } (NdefX.startF ["self", "name", "__class__"] [V.ref x, y] [none]) H := fun _ =>
      ⟨by decide, hx, _, rfl, _, rfl, x, a.X_UnknownName, rfl, T.o_UnknownName, T.nf_UnknownName, .inl ⟨hx, fun dx h1 h2 => k dx h1 h2⟩⟩
    have fin := fin rfl
    rcases hy with ⟨z, ⟨rfl, lz⟩ | ⟨i, rfl, li⟩⟩
    · exact ⟨_, rfl, by rw [sizeLine_eq]; decide +kernel, _, rfl, .inl ⟨z, rfl, by rw [sizeLine_eq]; omega, _, rfl, sz_unk (by omega), fin⟩⟩
    · exact ⟨_, rfl, by rw [sizeLine_eq]; decide +kernel, _, rfl, .inr ⟨i, rfl, li, _, rfl, sz_unk (by have := it_len li; omega), fin⟩⟩
theorem G_check_wind (T : Txt K mg a) (hP : PF P) : FnOk P w K mg base (CX P w) 3 a.f_check_wind a.d_check_wind ["self", "wind"] (sp_check_wind K a.C a.X_UnknownName) := by
  refine T.F_check_wind.okX sc_check_wind (fun vs H Q E h => ?_) (fun cdv A outer s H vs Q E hr h => ?_)
  · obtain ⟨x, D, z, rfl, _⟩ := h
    rfl
  · obtain ⟨x, D, z, rfl, hx, lz, k1, k2⟩ := h
    refine ⟨_, (pss_one (ps_if (pt_cmpR op_notIn_seq (pv 1) (pe_fld (pv 0) rfl) (by rfl)) (pss_one (ps_raise rfl (takes_of rfl rfl rfl rfl) (SupX.pmk_keep T.o_UnknownName T.i_UnknownName T.ti_UnknownName (G_UnknownName T hP) (hr.mono (by decide)) T.B_UnknownName (by rfl) T.g_UnknownName (pa_cons (pv 1) pa_nil)))) pss_nil)), ?_⟩
    obtain ⟨dx, wi, pl, li, pa, rows, prs, L⟩ := hx
    refine ⟨_, rfl, _, rfl, x, a.C, dx, _, _, rfl, L.ob, T.cl, T.nW, fs_winds .., wi, _, rfl, .inr L.wi, rfl, flat_str _, _, rfl, ?_⟩
    rw [inV_str_dec]
    by_cases c : z ∈ D.ws
    · rw [decide_eq_true c]
      exact iteF (k1 c H (Ex.refl _))
    · rw [decide_eq_false c]
      refine iteT ?_
      exact ⟨_, rfl, SupX.keep_post ⟨z, .inl ⟨rfl, by omega⟩⟩ fun d H' hd e h => k2 c d H' hd e h⟩
theorem G_check_winds (T : Txt K mg a) (hP : PF P) : FnOk P w K mg base (CX P w) 4 a.f_check_winds a.d_check_winds ["land", "weather"] (sp_check_winds K a.C a.X_UnknownName) := by
  refine T.F_check_winds.okX sc_check_winds (fun vs H Q E h => ?_) (fun cdv A outer s H vs Q E hr h => ?_)
  · obtain ⟨x, l, D, rs, ws, rfl, _⟩ := h
    rfl
  · obtain ⟨x, l, D, rs, ws, rfl, hx, hl, hd, tm, k1, k2⟩ := h
    have len : rs.length = ws.length := by rw [dps_len hd, List.length_map]
    refine ⟨_, (pss_one (ps_for (passes_of rfl) rfl (pi_list (pv 1)) (pg_tup (by rfl) (pgs_cons (pg_name (i := 2) sc_check_winds.nd rfl (Or.inl rfl)) (pgs_cons (pg_name (i := 3) sc_check_winds.nd rfl (Or.inl rfl)) pgs_nil))) (pss_one (ps_expr (pe_meth (pv 0) T.cl T.m_check_wind (G_check_wind T hP) (hr.mono (by decide)) T.B_check_wind .nil (passes_call (W := fun cls d _ H => E cls d H) (takes_of rfl rfl rfl rfl) (fun _ _ _ _ z => z)) (pa_cons (pv 3) pa_nil)))))), ?_⟩
    refine ⟨_, rfl, l, rfl, ⟨_, hl⟩, for_list (K := K) (a := l) (xs := rs) (fun i σ H' => ∃ v2 v3, σ = [some (.ref x), some (.ref l), v2, v3] ∧ Ex H H' ∧ strange D (ws.take i) = none) ⟨_, _, rfl, Ex.refl _, rfl⟩ (fun i σ H' _ z => by obtain ⟨_, _, rfl, e, _⟩ := z; exact ex_l e hl) ?_ ?_⟩
    · rintro i y σ H1 hy ⟨v2, v3, rfl, e1, hs⟩
      obtain ⟨t, r, rfl, ht, hr, rin⟩ := row_at hd hy
      refine ⟨t, _, rfl, ex_t e1 ht, rfl, ?_⟩
      have hx' := hx.ex e1
      obtain ⟨dx, wi, pl, li, pa, rows, prs, L⟩ := hx'
      refine ⟨_, _, rfl, _, _, rfl, rfl, _, rfl, x, dx, _, rfl, L.ob, fs_check_wind .., _, rfl, ?_⟩
      refine ⟨x, D, r.2, rfl, hx.ex e1, (tm.2 r rin).2, fun c H2 e2 => ⟨_, _, rfl, e1.trans e2, (strange_more hr hs).1 c⟩, fun c d H2 hd2 e2 h2 => k2 _ ((strange_more hr hs).2 c) d H2 (fresh_back e1 hd2) (e1.trans e2) h2⟩
    · rintro σ H1 ⟨v2, v3, rfl, e1, hs⟩
      rw [len, List.take_length] at hs
      exact k1 hs H1 e1
end
end EV

set_option Elab.async false
set_option linter.all false
set_option maxRecDepth 100000
set_option maxHeartbeats 4000000
namespace EV
open PySem PySem.Spec PyProof.Rows L2 EvS Evl
theorem js1 {x : Str} (hx : x.length ≤ 100) : (Str.empty ++ x).length ≤ sizeLine := by
  rw [Str.length_append, sizeLine_eq, show Str.empty.length = 0 from rfl]; omega
theorem js2 {x y : Str} (hx : x.length ≤ 100) (hy : y.length ≤ 2000) : ((Str.empty ++ x) ++ y).length ≤ sizeLine := by
  rw [Str.length_append, Str.length_append, sizeLine_eq, show Str.empty.length = 0 from rfl]; omega
theorem js3 {x y z : Str} (hx : x.length ≤ 100) (hy : y.length ≤ 2000) (hz : z.length ≤ 100) : (((Str.empty ++ x) ++ y) ++ z).length ≤ sizeLine := by
  rw [Str.length_append, Str.length_append, Str.length_append, sizeLine_eq, show Str.empty.length = 0 from rfl]; omega
theorem js4 {x y z u : Str} (hx : x.length ≤ 100) (hy : y.length ≤ 2000) (hz : z.length ≤ 100) (hu : u.length ≤ 2000) : ((((Str.empty ++ x) ++ y) ++ z) ++ u).length ≤ sizeLine := by
  rw [Str.length_append, Str.length_append, Str.length_append, Str.length_append, sizeLine_eq, show Str.empty.length = 0 from rfl]; omega
theorem it_le {i : Int} (h : i.natAbs ≤ 1000000) : (Str.ofString (toString i)).length ≤ 2000 := Nat.le_trans (it_len (it_small h)) (by decide)
/-- zip of two lists, the second no longer than the first -/
theorem zip_short {K : PySem.W.Frag} {a b : Addr} {xs ys : List V} {g : TG} {tb : TS} {D : Ends} {σ : L2.St} {H : Hp} (Pv : Nat → L2.St → Hp → Prop) (hl : ys.length ≤ xs.length) (h0 : Pv 0 σ H) (held : ∀ i σ H, Pv i σ H → SqL K H a xs ∧ SqL K H b ys)
    (step : ∀ (i : Nat) (x y : V) (t : Addr) (σ : L2.St) (H : Hp), xs[i]? = some x → ys[i]? = some y → Pv i σ H → H t = none → g (.ref t) σ (upd H t (.tup [x, y])) fun σ2 H2 => tb { D with nx := Pv (i + 1), ct := Pv (i + 1), bk := D.nx } σ2 H2) (last : ∀ σ H, Pv ys.length σ H → D.nx σ H) :
    ∃ W : Nat → Nat → L2.St → Hp → Prop, (∃ m, W 0 m σ H) ∧ ∀ i m σ H, W i m σ H →
      ((Itz K a b).stop i H ∧ D.nx σ H) ∨ ((Itz K a b).go i H ∧ ∃ N : L2.St → Hp → Prop, (∀ σ' H', N σ' H' → ∃ m', m' < m ∧ W (i + 1) m' σ' H') ∧ ∀ v H', (Itz K a b).yld i H v H' → g v σ H' fun σ2 H2 => tb { D with nx := N, ct := N, bk := D.nx } σ2 H2) := by
  refine ⟨fun i m σ H => (m + i = ys.length) ∧ Pv i σ H, ⟨ys.length, rfl, h0⟩, fun i m σ H w => ?_⟩
  have sq := held _ _ _ w.2
  cases m with
  | zero =>
    have e : i = ys.length := by have := w.1; omega
    exact .inl ⟨⟨xs, ys, sq.1, sq.2, .inr (by omega)⟩, last _ _ (e ▸ w.2)⟩
  | succ m =>
    have li : i < ys.length := by have := w.1; omega
    obtain ⟨x, hx⟩ : ∃ x, xs[i]? = some x := ⟨_, List.getElem?_eq_getElem (Nat.lt_of_lt_of_le li hl)⟩
    obtain ⟨y, hy⟩ : ∃ y, ys[i]? = some y := ⟨_, List.getElem?_eq_getElem li⟩
    refine .inr ⟨⟨xs, ys, x, y, sq.1, sq.2, hx, hy⟩, Pv (i + 1), fun σ' H' p => ⟨m, Nat.lt_succ_self m, by have := w.1; omega, p⟩, fun v H' z => ?_⟩
    obtain ⟨t, x', y', rfl, ht, rfl, f1, f2⟩ := z
    exact step i x' y' t σ H (f1 xs sq.1) (f2 ys sq.2) w.2 ht
section
variable {P : Program} {w : World} {K : PySem.W.Frag} {mg : Str → Option Value} {base : Heap} {a : Ad}
theorem G_check_rows (T : Txt K mg a) (hP : PF P) : FnOk P w K mg base (CX P w) 1 a.f_check_rows a.d_check_rows ["weather"] (sp_check_rows K a.X_InvalidWeather) := by
  refine T.F_check_rows.okX sc_check_rows (fun vs H Q E h => ?_) (fun cdv A outer s H vs Q E hr h => ?_)
  · obtain ⟨l, rs, ws, rfl, _⟩ := h
    rfl
  · obtain ⟨l, rs, ws, rfl, hl, hd, tm, k1, k2⟩ := h
    have len : rs.length = ws.length := by rw [dps_len hd, List.length_map]
    have l40 : (40 : Int).natAbs ≤ 1000000 := by decide
    have lws : ((rs.length : Nat) : Int).natAbs ≤ 1000000 := by rw [len]; have := tm.1; omega
    refine ⟨_, (pss_cons (ps_if (pt_not (pt_chain op_le op_le pe_int (pe_callB call_len_seq (by rfl) T.z_len PySem.boot_len (pa_cons (pv 0) pa_nil)) (pe_gI rfl T.c_MOST_ROWS))) (pss_one (ps_raise rfl (takes_of rfl rfl rfl rfl) (SkE.pmk_own1 PySem.F.excBase_ValueError T.x_InvalidWeather T.g_InvalidWeather T.k_InvalidWeather (raises_own T.b_InvalidWeather T.t_InvalidWeather) (by exact rfl) (pe_joined (PJ.cons pe_str (PJ.cons (pe_fmt (pe_gI rfl T.c_MOST_ROWS)) (PJ.cons pe_str (PJ.cons (pe_fmt (pe_callB call_len_seq (by rfl) T.z_len PySem.boot_len (pa_cons (pv 0) pa_nil))) PJ.nil)))))))) pss_nil)
      (pss_cons (ps_setLc (i := 1) (own := [("minute", 4), ("_", 5)]) (g := gTup K 2 (gCons (gName 4) (gCons (gName 5) gNil))) (tt := tYes) rfl sc_check_rows.nd rfl rfl (sw_true rfl rfl rfl (by decide +kernel)) (pi_list (pv 0)) (blkOk_by (N := ["weather", "minutes", "before", "behind", "minute", "_"]) (sc := defScope s_check_rows) (by decide +kernel)) (fun _ _ _ _ _ => (pg_tup (by rfl) (pgs_cons (pg_name (i := 4) sc_check_rows.nd rfl (Or.inl rfl)) (pgs_cons (pg_name (i := 5) sc_check_rows.nd rfl (Or.inl rfl)) pgs_nil)))) (fun _ _ _ _ _ => pts_nil) (fun _ _ _ _ _ => (pv 4)))
      (pss_cons (ps_if (pt_cmpR op_ne (pe_ix ix_list (pv 1) pe_int (fun _ _ => rfl)) pe_int (nomark _)) (pss_one (ps_raise rfl (takes_of rfl rfl rfl rfl) (SkE.pmk_own1 PySem.F.excBase_ValueError T.x_InvalidWeather T.g_InvalidWeather T.k_InvalidWeather (raises_own T.b_InvalidWeather T.t_InvalidWeather) (by exact rfl) (pe_joined (PJ.cons pe_str (PJ.cons (pe_fmt (pe_ix ix_list (pv 1) pe_int (fun _ _ => rfl))) PJ.nil)))))) pss_nil)
      (pss_cons (ps_for (passes_of rfl) rfl (pi_zip (by rfl) T.z_zip (pa_cons (pv 1) (pa_cons (pe_slice sl_list (pv 1) (po_some pe_int) po_none) pa_nil))) (pg_tup (by rfl) (pgs_cons (pg_name (i := 2) sc_check_rows.nd rfl (Or.inl rfl)) (pgs_cons (pg_name (i := 3) sc_check_rows.nd rfl (Or.inl rfl)) pgs_nil))) (pss_one (ps_if (pt_cmpR op_le (pv 3) (pv 2) (nomark _)) (pss_one (ps_raise rfl (takes_of rfl rfl rfl rfl) (SkE.pmk_own1 PySem.F.excBase_ValueError T.x_InvalidWeather T.g_InvalidWeather T.k_InvalidWeather (raises_own T.b_InvalidWeather T.t_InvalidWeather) (by exact rfl) (pe_joined (PJ.cons pe_str (PJ.cons (pe_fmt (pv 3)) (PJ.cons pe_str (PJ.cons (pe_fmt (pv 2)) PJ.nil)))))))) pss_nil)))
      (pss_one (ps_if (pt_cmpR op_gt (pe_ix ix_list (pv 1) (pe_un un_neg pe_int) (fun _ _ => rfl)) (pe_gI rfl T.c_LAST_CHANGE) (nomark _)) (pss_one (ps_raise rfl (takes_of rfl rfl rfl rfl) (SkE.pmk_own1 PySem.F.excBase_ValueError T.x_InvalidWeather T.g_InvalidWeather T.k_InvalidWeather (raises_own T.b_InvalidWeather T.t_InvalidWeather) (by exact rfl) (pe_joined (PJ.cons pe_str (PJ.cons (pe_fmt (pe_gI rfl T.c_LAST_CHANGE)) (PJ.cons pe_str (PJ.cons (pe_fmt (pe_ix ix_list (pv 1) (pe_un un_neg pe_int) (fun _ _ => rfl))) PJ.nil)))))))) pss_nil)))))), ?_⟩
    refine ⟨_, rfl, l, _, rfl, .inl hl, _, _, rfl, rfl, _, rfl, ?_⟩
    refine ite2 (fun c1 => ?_) (fun c1 => ?_)
    · refine ⟨_, _, rfl, rfl, _, rfl, ?_⟩
      refine ite2 (fun c2 => ?_) (fun c2 => ?_)
      · have c2 : ¬ (rs.length : Int) ≤ 40 := fun z => by rw [decide_eq_true z] at c2; cases c2
        refine ⟨_, rfl, js1 (by decide +kernel), .inr ⟨40, rfl, it_small l40, _, rfl, js2 (by decide +kernel) (it_le l40), _, rfl, js3 (by decide +kernel) (it_le l40) (by decide +kernel), _, rfl, l, _, rfl, .inl hl, .inr ⟨_, rfl, it_small lws, _, rfl, js4 (by decide +kernel) (it_le l40) (by decide +kernel) (it_le lws), ?_⟩⟩⟩
        exact k2 (fun z => c2 (by have := z.2.1; rw [List.length_map] at this; omega)) H (Ex.refl _)
      have c1 : (1 : Int) ≤ (rs.length : Int) := of_decide_eq_true c1
      have c2 : (rs.length : Int) ≤ 40 := by
        by_cases z : (rs.length : Int) ≤ 40
        · exact z
        · rw [decide_eq_false z] at c2; exact absurd rfl c2
      refine ⟨_, rfl, l, rfl, ⟨_, hl⟩, fun D0 hD => lc_list (K := K) (a := l) (xs := rs) (fun i H' => Ex H H' ∧ H' D0 = some (.lst (((ws.map (·.1)).take i).map V.int))) ⟨Ex.new hD, upd_same⟩ (fun i H' _ z => ex_l z.1 hl) ?_ ?_⟩
      · rintro i y H1 hy ⟨e1, hg⟩
        obtain ⟨t, r, rfl, ht, hr, rin⟩ := row_at hd hy
        refine ⟨t, _, rfl, ex_t e1 ht, rfl, _, _, rfl, _, _, rfl, rfl, ?_⟩
        refine ⟨rfl, _, rfl, _, hg, sz_lt ?_, e1.mut hD, ?_⟩
        · rw [List.length_map, List.length_take, List.length_map]; omega
        · rw [upd_same, take_one (by rw [List.getElem?_map, hr] <;> rfl), List.map_append]
          rfl
      rintro H1 ⟨e1, hg⟩
      rw [len, ← List.length_map (f := fun r : Int × Str => r.1), List.take_length] at hg
      have tm' : ∀ m ∈ ws.map (·.1), m.natAbs ≤ 1000000 := fun m hm => by
        obtain ⟨r, hr, rfl⟩ := List.mem_map.mp hm
        exact (tm.2 r hr).1
      have lm : (ws.map (·.1)).length = ws.length := List.length_map ..
      have len1 : 1 ≤ (ws.map (·.1)).length := by omega
      have len40 : (ws.map (·.1)).length ≤ 40 := by omega
      clear tm hd c1 c2 lws len lm
      generalize ws.map (·.1) = ms at *
      have lV : (ms.map V.int).length = ms.length := List.length_map ..
      have at_ : ∀ i, i < ms.length → (ms.map V.int)[i]? = some (.int (ms.getD i 0)) ∧ (ms.getD i 0).natAbs ≤ 1000000 := fun i hi => by
        have g : ms.getD i 0 = ms[i] := by rw [List.getD_eq_getElem?_getD, List.getElem?_eq_getElem hi]; rfl
        exact ⟨by rw [List.getElem?_map, List.getElem?_eq_getElem hi, g]; rfl, by rw [g]; exact tm' _ (List.getElem_mem hi)⟩
      obtain ⟨a0, b0⟩ := at_ 0 len1
      refine ⟨_, rfl, D0, _, _, _, rfl, rfl, SqL.of hg, atI_nat (j := 0) a0, rfl, _, rfl, ?_⟩
      refine ite2 (fun c => ?_) (fun c => ?_)
      · refine ⟨_, rfl, js1 (by decide +kernel), _, rfl, D0, _, _, _, rfl, rfl, SqL.of hg, atI_nat (j := 0) a0, .inr ⟨_, rfl, it_small b0, _, rfl, js2 (by decide +kernel) (it_le b0), ?_⟩⟩
        refine k2 (fun z => ?_) H1 e1
        rw [z.2.2.1] at c
        cases c
      have z0 : ms.getD 0 0 = 0 := by
        by_cases z : ms.getD 0 0 = 0
        · exact z
        · rw [show decide (V.int (ms.getD 0 0) = V.int 0) = false from decide_eq_false fun h => z (by injection h)] at c
          exact absurd rfl c
      refine ⟨_, rfl, _, rfl, _, rfl, D0, _, rfl, SqL.of hg, fun p hp => ?_⟩
      have e2 : Ex H1 (upd H1 p (.lst (cutV (ms.map V.int) (some 1) none))) := Ex.new hp
      have hs : (upd H1 p (.lst (cutV (ms.map V.int) (some 1) none))) p = some (.lst ((ms.drop 1).map V.int)) := by
        rw [upd_same, show cutV (ms.map V.int) (some 1) none = (ms.map V.int).drop 1 from cut_from _ 1, List.map_drop]
      generalize upd H1 p (.lst (cutV (ms.map V.int) (some 1) none)) = H2 at e2 hs
      refine ⟨D0, p, _, _, rfl, SqL.of (e2 _ _ hg), SqL.of hs, zip_short (K := K) (a := D0) (b := p) (xs := ms.map V.int) (ys := (ms.drop 1).map V.int) (fun i σ H' => ∃ v2 v3, σ = [some (.ref l), some (.ref D0), v2, v3, none, none] ∧ Ex H2 H' ∧ ∀ j, j < i → ms.getD j 0 < ms.getD (j + 1) 0) ?_ ⟨_, _, rfl, Ex.refl _, fun j hj => absurd hj (Nat.not_lt_zero _)⟩ (fun i σ H' z => ?_) ?_ ?_⟩
      · rw [List.length_map, List.length_map, List.length_drop]; omega
      · obtain ⟨_, _, rfl, e, _⟩ := z
        exact ⟨SqL.of (e _ _ (e2 _ _ hg)), SqL.of (e _ _ hs)⟩
      · rintro i x y t σ H3 hx hy ⟨v2, v3, rfl, e3, hj⟩ ht
        have hi : i + 1 < ms.length := by
          have := (List.getElem?_eq_some_iff.mp hy).1
          rw [List.length_map, List.length_drop] at this; omega
        obtain ⟨gx, bx⟩ := at_ i (by omega)
        obtain ⟨gy, by_⟩ := at_ (i + 1) hi
        rw [gx] at hx
        rw [List.map_drop, List.getElem?_drop, Nat.add_comm 1 i, gy] at hy
        obtain rfl := Option.some.inj hx
        obtain rfl := Option.some.inj hy
        have e4 : Ex H3 (upd H3 t (.tup [V.int (ms.getD i 0), V.int (ms.getD (i + 1) 0)])) := Ex.new ht
        refine ⟨t, _, rfl, st_of upd_same, rfl, _, _, rfl, _, _, rfl, rfl, ?_⟩
        refine ⟨_, rfl, _, rfl, _, _, rfl, rfl, _, rfl, ?_⟩
        refine ite2 (fun c => ?_) (fun c => ?_)
        · have c := of_decide_eq_true c
          refine ⟨_, rfl, js1 (by decide +kernel), _, rfl, .inr ⟨_, rfl, it_small by_, _, rfl, js2 (by decide +kernel) (it_le by_), _, rfl, js3 (by decide +kernel) (it_le by_) (by decide +kernel), _, rfl, .inr ⟨_, rfl, it_small bx, _, rfl, js4 (by decide +kernel) (it_le by_) (by decide +kernel) (it_le bx), ?_⟩⟩⟩
          exact k2 (fun z => by have := z.2.2.2.1 i hi; omega) _ (e1.trans (e2.trans (e3.trans e4)))
        · have c : ¬ ms.getD (i + 1) 0 ≤ ms.getD i 0 := fun z => c (decide_eq_true z)
          refine ⟨_, _, rfl, e3.trans e4, fun j hj2 => ?_⟩
          by_cases z : j = i
          · rw [z]; omega
          · exact hj j (by omega)
      · rintro σ H3 ⟨v2, v3, rfl, e3, hj⟩
        rw [List.length_map, List.length_drop] at hj
        obtain ⟨gl, bl⟩ := at_ (ms.length - 1) (by omega)
        have last : atI (ms.map V.int) (-1) = some (.int (ms.getD (ms.length - 1) 0)) := by
          unfold atI ixN
          rw [if_neg (by decide), if_pos (by omega), lV]
          show (ms.map V.int)[(-1 + (ms.length : Int)).toNat]? = _
          rw [show (-1 + (ms.length : Int)).toNat = ms.length - 1 by omega, gl]
        have gD := SqL.of (K := K) (e3 _ _ (e2 _ _ hg))
        refine ⟨_, rfl, _, rfl, D0, _, _, _, rfl, rfl, gD, last, _, _, rfl, rfl, _, rfl, ?_⟩
        have l5 : (100000 : Int).natAbs ≤ 1000000 := by decide
        refine ite2 (fun c => ?_) (fun c => ?_)
        · have c := of_decide_eq_true c
          refine ⟨_, rfl, js1 (by decide +kernel), .inr ⟨100000, rfl, it_small l5, _, rfl, js2 (by decide +kernel) (it_le l5), _, rfl, js3 (by decide +kernel) (it_le l5) (by decide +kernel), _, rfl, _, rfl, D0, _, _, _, rfl, rfl, gD, last, .inr ⟨_, rfl, it_small bl, _, rfl, js4 (by decide +kernel) (it_le l5) (by decide +kernel) (it_le bl), ?_⟩⟩⟩
          exact k2 (fun z => by have := z.2.2.2.2; omega) _ (e1.trans (e2.trans e3))
        · have c : ¬ 100000 < ms.getD (ms.length - 1) 0 := fun z => c (decide_eq_true z)
          exact k1 ⟨len1, len40, z0, fun i hi => hj i (by omega), by omega⟩ _ (e1.trans (e2.trans e3))
    · have c1 : ¬ (1 : Int) ≤ (rs.length : Int) := fun z => c1 (decide_eq_true z)
      refine ⟨_, rfl, _, rfl, js1 (by decide +kernel), .inr ⟨40, rfl, it_small l40, _, rfl, js2 (by decide +kernel) (it_le l40), _, rfl, js3 (by decide +kernel) (it_le l40) (by decide +kernel), _, rfl, l, _, rfl, .inl hl, .inr ⟨_, rfl, it_small lws, _, rfl, js4 (by decide +kernel) (it_le l40) (by decide +kernel) (it_le lws), ?_⟩⟩⟩
      exact k2 (fun z => c1 (by have := z.1; rw [List.length_map] at this; omega)) H (Ex.refl _)
theorem G_check_weather (T : Txt K mg a) (hP : PF P) : FnOk P w K mg base (CX P w) 5 a.f_check_weather a.d_check_weather ["land", "weather"] (sp_check_weather K a.C a.X_UnknownName a.X_InvalidWeather) := by
  refine T.F_check_weather.okX sc_check_weather (fun vs H Q E h => ?_) (fun cdv A outer s H vs Q E hr h => ?_)
  · obtain ⟨x, l, D, rs, ws, rfl, _⟩ := h
    rfl
  · obtain ⟨x, l, D, rs, ws, rfl, hx, hl, hd, tm, k1, k2, k3⟩ := h
    refine ⟨_, (pss_cons (ps_expr (pe_call (G_check_winds T hP) (hr.mono (by decide)) (by rfl) T.g_check_winds T.k_check_winds T.B_check_winds .nil (passes_call (W := fun cls d _ H => E cls d H) (takes_of rfl rfl rfl rfl) (fun _ _ _ _ z => z)) (pa_cons (pv 0) (pa_cons (pv 1) pa_nil))))
      (pss_one (ps_expr (pe_call (G_check_rows T hP) (hr.mono (by decide)) (by rfl) T.g_check_rows T.k_check_rows T.B_check_rows .nil (passes_call (W := fun cls d _ H => E cls d H) (takes_of rfl rfl rfl rfl) (fun _ _ _ _ z => z)) (pa_cons (pv 1) pa_nil))))), ?_⟩
    refine ⟨_, rfl, _, rfl, x, l, D, rs, ws, rfl, hx, hl, hd, tm, fun hs H1 e1 => ?_, k1⟩
    exact ⟨_, rfl, l, rs, ws, rfl, ex_l e1 hl, dps_ex e1 hd, tm, fun ok H2 e2 => k3 hs ok H2 (e1.trans e2), fun bad H2 e2 => k2 hs bad H2 (e1.trans e2)⟩
theorem windTo_more {ws : List (Int × Str)} {m : Int} {i : Nat} {r : Int × Str} (h : ws[i]? = some r) : windTo ws m (i + 1) = if r.1 ≤ m then r.2 else windTo ws m i := by
  unfold windTo
  rw [take_one h, List.foldl_append]
  rfl
theorem G_wind_at (T : Txt K mg a) (hP : PF P) : FnOk P w K mg base (CX P w) 6 a.f_wind_at a.d_wind_at ["land", "weather", "minute"] (sp_wind_at K a.C a.X_UnknownName a.X_InvalidWeather) := by
  refine T.F_wind_at.okX sc_wind_at (fun vs H Q E h => ?_) (fun cdv A outer s H vs Q E hr h => ?_)
  · obtain ⟨x, l, D, rs, ws, m, rfl, _⟩ := h
    rfl
  · obtain ⟨x, l, D, rs, ws, m, rfl, hx, hl, hd, tm, k1, k2, k3⟩ := h
    refine ⟨_, (pss_cons (ps_expr (pe_call (G_check_weather T hP) (hr.mono (by decide)) (by rfl) T.g_check_weather T.k_check_weather T.B_check_weather .nil (passes_call (W := fun cls d _ H => E cls d H) (takes_of rfl rfl rfl rfl) (fun _ _ _ _ z => z)) (pa_cons (pv 0) (pa_cons (pv 1) pa_nil))))
      (pss_cons (ps_set (i := 3) sc_wind_at.nd rfl (Or.inl rfl) (pe_ix ix_tup (pe_ix ix_list (pv 1) pe_int (fun _ _ => rfl)) pe_int (fun _ _ => rfl)))
      (pss_cons (ps_for (passes_of rfl) rfl (pi_list (pv 1)) (pg_tup (by rfl) (pgs_cons (pg_name (i := 4) sc_wind_at.nd rfl (Or.inl rfl)) (pgs_cons (pg_name (i := 5) sc_wind_at.nd rfl (Or.inl rfl)) pgs_nil))) (pss_one (ps_if (pt_cmpR op_le (pv 4) (pv 2) (nomark _)) (pss_one (ps_set (i := 3) sc_wind_at.nd rfl (Or.inl rfl) (pv 5))) pss_nil)))
      (pss_one (ps_ret (pv 3)))))), ?_⟩
    refine ⟨_, rfl, _, rfl, x, l, D, rs, ws, rfl, hx, hl, hd, tm, k1, k2, fun hs ok H1 e1 => ?_⟩
    have hl1 := ex_l e1 hl
    have hd1 := dps_ex e1 hd
    have len : rs.length = ws.length := by rw [dps_len hd, List.length_map]
    have pos : 0 < ws.length := by have := ok.1; rw [List.length_map] at this; omega
    obtain ⟨y, hy⟩ : ∃ y, rs[0]? = some y := ⟨_, List.getElem?_eq_getElem (by omega)⟩
    obtain ⟨t, r, rfl, ht, hr0, rin⟩ := row_at hd1 hy
    have w0 : r.2 = windTo ws m 0 := by
      unfold windTo
      rw [List.headD_eq_head?_getD, List.head?_eq_getElem?, hr0]
      rfl
    refine ⟨_, rfl, l, _, _, _, rfl, rfl, hl1, atI_nat (j := 0) hy, t, _, _, _, rfl, rfl, ht, atI_nat (j := 1) rfl, ?_⟩
    refine ⟨_, rfl, l, rfl, ⟨_, hl1⟩, for_list (K := K) (a := l) (xs := rs) (fun i σ H' => ∃ v4 v5, σ = [some (.ref x), some (.ref l), some (.int m), some (.str (windTo ws m i)), v4, v5] ∧ Ex H1 H') ⟨_, _, by rw [← w0]; rfl, Ex.refl _⟩ (fun i σ H' _ z => by obtain ⟨_, _, rfl, e⟩ := z; exact ex_l e hl1) ?_ ?_⟩
    · rintro i y2 σ H2 hy2 ⟨v4, v5, rfl, e2⟩
      obtain ⟨t2, r2, rfl, ht2, hr2, rin2⟩ := row_at hd1 hy2
      refine ⟨t2, _, rfl, ex_t e2 ht2, rfl, _, _, rfl, _, _, rfl, rfl, _, rfl, _, rfl, _, _, rfl, rfl, _, rfl, ?_⟩
      refine ite2 (fun c => ?_) (fun c => ?_)
      · have c := of_decide_eq_true c
        refine ⟨_, rfl, some (.int r2.1), some (.str r2.2), ?_, e2⟩
        rw [windTo_more hr2, if_pos c]
        rfl
      · have c : ¬ r2.1 ≤ m := fun z => c (decide_eq_true z)
        refine ⟨some (.int r2.1), some (.str r2.2), ?_, e2⟩
        rw [windTo_more hr2, if_neg c]
        rfl
    · rintro σ H2 ⟨v4, v5, rfl, e2⟩
      rw [len]
      exact ⟨_, rfl, k3 hs ok H2 (e1.trans e2)⟩
end
end EV

set_option Elab.async false
set_option linter.all false
set_option maxRecDepth 100000
set_option maxHeartbeats 4000000
namespace EV
open PySem PySem.Spec PyProof.Rows L2 EvS Evl
theorem frozen_rows (ws : List (Int × Str)) : frozenAll (ws.map dRow) = true := frozenAll_of fun d hd => by
  obtain ⟨b, _, rfl⟩ := List.mem_map.mp hd
  simp [dRow, frozen, frozenAll]
/-- a weather that keeps the rules -/
structure WG (D : LandD) (ws : List (Int × Str)) : Prop where
  rows : RowsOk (ws.map (·.1))
  win : ∀ r ∈ ws, r.2 ∈ D.ws
  lo : ∀ r ∈ ws, 0 ≤ r.1 ∧ r.1 ≤ 100000
theorem WG.len {D : LandD} {ws : List (Int × Str)} (h : WG D ws) : 1 ≤ ws.length ∧ ws.length ≤ 40 := by
  have := h.rows.1
  have := h.rows.2.1
  rw [List.length_map] at *
  omega
theorem WG.tame {D : LandD} {ws : List (Int × Str)} (ok : LandOk D) (h : WG D ws) : Tame ws := by
  refine ⟨by have := h.len; omega, fun r hr => ?_⟩
  have := h.lo r hr
  have := name_len (ok.gw.1 _ (h.win r hr))
  omega
theorem strange_none {D : LandD} {ws : List (Int × Str)} (h : ∀ r ∈ ws, r.2 ∈ D.ws) : strange D ws = none := by
  unfold strange
  rw [List.find?_eq_none]
  intro z hz
  obtain ⟨r, hr, rfl⟩ := List.mem_map.mp hz
  simp [h r hr]
theorem rows_add {ms : List Int} {m : Int} (h : RowsOk ms) (l : ms.length < 40) (lt : ms.getD (ms.length - 1) 0 < m) (le : m ≤ 100000) : RowsOk (ms ++ [m]) := by
  obtain ⟨h1, h2, h3, h4, h5⟩ := h
  have old : ∀ i, i < ms.length → (ms ++ [m]).getD i 0 = ms.getD i 0 := fun i hi => by
    rw [List.getD_eq_getElem?_getD, List.getD_eq_getElem?_getD, List.getElem?_append_left hi]
  have new : (ms ++ [m]).getD ms.length 0 = m := by
    rw [List.getD_eq_getElem?_getD, List.getElem?_append_right (Nat.le_refl _), Nat.sub_self]
    rfl
  have len : (ms ++ [m]).length = ms.length + 1 := by simp
  refine ⟨by omega, by omega, by rw [old 0 (by omega)]; exact h3, fun i hi => ?_, by rw [len, Nat.add_sub_cancel, new]; exact le⟩
  by_cases z : i + 1 < ms.length
  · rw [old i (by omega), old (i + 1) z]
    exact h4 i z
  · obtain rfl : i = ms.length - 1 := by omega
    rw [show ms.length - 1 + 1 = ms.length by omega, new, old _ (by omega)]
    exact lt
theorem one_row : RowsOk [0] := ⟨by decide, by decide, rfl, fun i hi => absurd hi (by simp), by decide⟩
theorem row_last {ws : List (Int × Str)} (h : 1 ≤ ws.length) : ∃ r, ws[ws.length - 1]? = some r ∧ r ∈ ws ∧ (ws.map (·.1)).getD ((ws.map (·.1)).length - 1) 0 = r.1 := by
  obtain ⟨r, hr⟩ : ∃ r, ws[ws.length - 1]? = some r := ⟨_, List.getElem?_eq_getElem (by omega)⟩
  refine ⟨r, hr, List.mem_of_getElem? hr, ?_⟩
  rw [List.length_map, List.getD_eq_getElem?_getD, List.getElem?_map, hr]
  rfl
/-- the last item -/
theorem at_last {xs : List V} {v : V} (h : xs[xs.length - 1]? = some v) : atI xs (-1) = some v := by
  have := (List.getElem?_eq_some_iff.mp h).1
  unfold atI ixN
  rw [if_neg (by decide), if_pos (by omega)]
  show xs[(-1 + (xs.length : Int)).toNat]? = _
  rw [show (-1 + (xs.length : Int)).toNat = xs.length - 1 by omega, h]
theorem wind_pick {D : LandD} (ok : LandOk D) (x : Int) : ((D.ws.map V.str).length : Int) ≠ 0 ∧ ∃ z, z ∈ D.ws ∧ atI (D.ws.map V.str) (x.fmod ((D.ws.map V.str).length : Int)) = some (.str z) := by
  have w1 := ok.w1
  have L : (D.ws.map V.str).length = D.ws.length := List.length_map ..
  have o0 := Int.fmod_nonneg_of_pos x (b := (((D.ws.map V.str).length : Nat) : Int)) (by omega)
  have o1 := Int.fmod_lt_of_pos x (b := (((D.ws.map V.str).length : Nat) : Int)) (by omega)
  obtain ⟨i, ei⟩ : ∃ i : Nat, x.fmod (((D.ws.map V.str).length : Nat) : Int) = (i : Int) := ⟨_, (Int.toNat_of_nonneg o0).symm⟩
  have hi : i < D.ws.length := by omega
  refine ⟨by omega, D.ws.getD i "", (getD_in hi).1, ?_⟩
  rw [ei]
  exact atI_nat (by rw [List.getElem?_map, (getD_in hi).2] <;> rfl)
theorem first_at {z : Str} : ∀ {l : List Str}, z ∈ l → ∃ j : Nat, l[j]? = some z ∧ ∀ (i : Nat) (y : Str), i < j → l[i]? = some y → y ≠ z
  | x :: t, h => by
    by_cases e : x = z
    · exact ⟨0, by rw [e]; rfl, fun i _ hi => absurd hi (Nat.not_lt_zero i)⟩
    · obtain ⟨j, hj, hb⟩ := first_at ((List.mem_cons.mp h).resolve_left fun q => e q.symm)
      refine ⟨j + 1, hj, fun i y hi hy => ?_⟩
      cases i with
      | zero => rw [← Option.some.inj hy]; exact e
      | succ i => exact hb i y (by omega) hy
theorem eq_str {x y : Str} : eqV (.str x) (.str y) = true ↔ x = y := ⟨fun e => eq_of_beq (show (x == y) = true from e), fun e => by rw [e]; exact beq_self_eq_true y⟩
theorem ne_str {x y : Str} (h : x ≠ y) : eqV (.str x) (.str y) = false := by
  cases e : eqV (.str x) (.str y) with
  | true => exact absurd (eq_str.mp e) h
  | false => rfl
def sp3__law_made (K : PySem.W.Frag) (C : Addr) : Sp := fun vs H Q _ => ∃ (p : Addr) (D : LandD) (wi pl li : Addr) (rows : List V), vs = [.ref p] ∧ Parts3 K H p D wi pl li rows ∧ LandOk D ∧ ∀ H' x, Ex H H' → H x = none → IsLand K C H' x D → Q (.ref x) H'
def sp__law_weather (K : PySem.W.Frag) : Sp := fun vs H Q _ => ∃ (p q : Addr) (D : LandD) (wi pl li : Addr) (rows : List V) (ks : List Int), vs = [.ref p, .ref q, .int 60] ∧ Parts3 K H p D wi pl li rows ∧ LandOk D ∧ Nums K H q ks ∧
  ∀ H' l rs ws, Ex H H' → H l = none → H' l = some (.lst rs) → DpAll K H' rs (ws.map dRow) → WG D ws → ws.length ≤ 5 → Q (.ref l) H'
def sp__law_wind (K : PySem.W.Frag) : Sp := fun vs H Q _ => ∃ (p l : Addr) (D : LandD) (wi pl li : Addr) (rows rs : List V) (ws : List (Int × Str)) (m : Int), vs = [.ref p, .ref l, .int m] ∧ Parts3 K H p D wi pl li rows ∧ SqL K H l rs ∧ DpAll K H rs (ws.map dRow) ∧ WG D ws ∧
  ∀ H' (j : Nat), Ex H H' → atI (D.ws.map V.str) (j : Int) = some (.str (windTo ws m ws.length)) → Q (.int (j : Int)) H'
section
variable {P : Program} {w : World} {K : PySem.W.Frag} {mg : Str → Option Value} {base : Heap} {a : Ad}
theorem kb_wpl (T : Txt K mg a) : ∃ mv : List Value, KBn K a.d_init ["self", "winds", "places", "links", "paths"] 1 ["winds", "places", "links"] (fun us ws => us ++ (ws ++ mv)) (fun vs zs => vs ++ (zs ++ [.ref a.te])) :=
  T.F_init.kbinds0 (ps := ["self", "winds", "places", "links", "paths"]) 1 ["winds", "places", "links"] [("paths", .ref a.te)] (fun us mv ws => us ++ (ws ++ mv)) (by simp) (fun q hq => by rw [List.mem_singleton] at hq; rw [hq]; simp) (fun r1 r2 r3 => r1.append (r3.append r2))
    (fun D doc pm an cdv ct us mv ws h1 h2 h3 => match us, mv, ws, h1, h2, h3 with
      | [_], [_], [_, _, _], _, _, _ => ⟨_, _, _, _, _, _, rfl, rfl, rfl⟩)
theorem G__law_made (T : Txt K mg a) : FnOk P w K mg base CX0 5 a.f__law_made a.d__law_made ["parts"] (sp3__law_made K a.C) := by
  obtain ⟨mv, kb_Land_wpl⟩ := kb_wpl T
  refine T.F__law_made.ok sc__law_made (fun vs H Q E h => ?_) (fun cdv A outer s H vs Q E hr h => ?_)
  · obtain ⟨p, D, wi, pl, li, rows, rfl, _⟩ := h
    rfl
  · obtain ⟨p, D, wi, pl, li, rows, rfl, S, ok, k⟩ := h
    refine ⟨_, (pss_one (ps_ret (pe_makeK0 T.mk_Land (G_init T) (hr.mono (by decide)) (by rfl) T.g_Land kb_Land_wpl pass0 (pk_cons (pe_callTy call_lstK (by rfl) T.z_list (by decide +kernel) (pa_cons (pe_ix ix_list (pv 0) pe_int (fun _ _ => rfl)) pa_nil)) (pk_cons (pe_callTy call_lstK (by rfl) T.z_list (by decide +kernel) (pa_cons (pe_ix ix_list (pv 0) pe_int (fun _ _ => rfl)) pa_nil)) (pk_cons (pe_callTy call_lstK (by rfl) T.z_list (by decide +kernel) (pa_cons (pe_ix ix_list (pv 0) pe_int (fun _ _ => rfl)) pa_nil)) pk_nil)))))), ?_⟩
    refine ⟨_, rfl, p, _, _, _, rfl, rfl, S.ob, atI_nat (j := 0) rfl, wi, _, rfl, .inr S.wi, fun l1 h1 => ?_⟩
    have S1 := S.ex (Ex.new (o := .lst (D.ws.map V.str)) h1)
    refine ⟨_, rfl, p, _, _, _, rfl, rfl, S1.ob, atI_nat (j := 1) rfl, pl, _, rfl, .inr S1.pl, fun l2 h2 => ?_⟩
    have S2 := S1.ex (Ex.new (o := .lst (D.ps.map V.str)) h2)
    refine ⟨_, rfl, p, _, _, _, rfl, rfl, S2.ob, atI_nat (j := 2) rfl, li, _, rfl, .inr S2.li, fun l3 h3 => ?_⟩
    have S3 := S2.ex (Ex.new (o := .lst rows) h3)
    have b1 := upd_same (H := H) (a := l1) (o := .lst (D.ws.map V.str))
    have b2 := upd_same (H := upd H l1 (.lst (D.ws.map V.str))) (a := l2) (o := .lst (D.ps.map V.str))
    have e0 : Ex H (upd (upd (upd H l1 (.lst (D.ws.map V.str))) l2 (.lst (D.ps.map V.str))) l3 (.lst rows)) := ((Ex.new h1).trans (Ex.new h2)).trans (Ex.new h3)
    have c1 := Ex.new h3 (o := .lst rows) _ _ (Ex.new h2 (o := .lst (D.ps.map V.str)) _ _ b1)
    have c2 := Ex.new h3 (o := .lst rows) _ _ b2
    have c3 : (upd (upd (upd H l1 (.lst (D.ws.map V.str))) l2 (.lst (D.ps.map V.str))) l3 (.lst rows)) l3 = some (.lst rows) := upd_same
    refine ⟨rfl, rfl, fun x dx nx ndx ne => ?_⟩
    exact ⟨_, x, dx, l1, l2, l3, a.te, D, rows, [], rfl, (Ex.new ndx).mut nx, nx, upd_same, .inl (SqL.of c1), .inl (SqL.of c2), .inl (SqL.of c3), all2_dps (f := dLink) (R := LinkIn K _) (fun v b h => made_in h) S3.ls, .inr (T.teT _), by rw [S.nopa]; exact .nil, ok, fun H' e hl => ⟨rfl, k H' x (e0.trans e) (fresh_back e0 nx) hl⟩⟩
theorem G__law_weather (T : Txt K mg a) : FnOk P w K mg base CX0 1 a.f__law_weather a.d__law_weather ["parts", "numbers", "at"] (sp__law_weather K) := by
  refine T.F__law_weather.ok sc__law_weather (fun vs H Q E h => ?_) (fun cdv A outer s H vs Q E hr h => ?_)
  · obtain ⟨p, q, D, wi, pl, li, rows, ks, rfl, _⟩ := h
    rfl
  · obtain ⟨p, q, D, wi, pl, li, rows, ks, rfl, S, ok, N, k⟩ := h
    have lo := N.lo
    refine ⟨_, (pss_cons (ps_set (i := 3) sc__law_weather.nd rfl (Or.inl rfl) (pe_lst (pa_cons (pe_tup (pa_cons pe_int (pa_cons (pe_ix ix_tup (pe_ix ix_list (pv 0) pe_int (fun _ _ => rfl)) (pe_op op_modN (pe_callTy call_int1 (by rfl) T.z_int (by decide +kernel) (pa_cons (pe_ix ix_list (pv 1) (pv 2) (fun _ _ => rfl)) pa_nil)) (pe_callB call_len_seq (by rfl) T.z_len PySem.boot_len (pa_cons (pe_ix ix_list (pv 0) pe_int (fun _ _ => rfl)) pa_nil))) (fun _ _ => rfl)) pa_nil))) pa_nil)))
      (pss_cons (ps_for PassesOwn.never rfl (pi_range1 (by rfl) T.z_range (pa_cons (pe_op op_mod (pe_callTy call_int1 (by rfl) T.z_int (by decide +kernel) (pa_cons (pe_ix ix_list (pv 1) (pe_op op_add (pv 2) pe_int) (fun _ _ => rfl)) pa_nil)) pe_int) pa_nil)) (pg_name (i := 4) sc__law_weather.nd rfl (Or.inl rfl)) (pss_cons (ps_set (i := 5) sc__law_weather.nd rfl (Or.inl rfl) (pe_op op_add (pe_op op_add (pe_ix ix_tup (pe_ix ix_list (pv 3) (pe_un un_neg pe_int) (fun _ _ => rfl)) pe_int (fun _ _ => rfl)) pe_int) (pe_op op_mod (pe_callTy call_int1 (by rfl) T.z_int (by decide +kernel) (pa_cons (pe_ix ix_list (pv 1) (pe_op op_add (pe_op op_add (pv 2) pe_int) (pv 4)) (fun _ _ => rfl)) pa_nil)) pe_int)))
        (pss_one (ps_expr (pe_bm PySem.F.plainAttrs_list PySem.F.slot_list_append PySem.F.type_list_append mt_append (pv 3) (pa_cons (pe_tup (pa_cons (pv 5) (pa_cons (pe_ix ix_tup (pe_ix ix_list (pv 0) pe_int (fun _ _ => rfl)) (pe_op op_modN (pe_callTy call_int1 (by rfl) T.z_int (by decide +kernel) (pa_cons (pe_op op_fdiv (pe_ix ix_list (pv 1) (pe_op op_add (pe_op op_add (pv 2) pe_int) (pv 4)) (fun _ _ => rfl)) pe_int) pa_nil)) (pe_callB call_len_seq (by rfl) T.z_len PySem.boot_len (pa_cons (pe_ix ix_list (pv 0) pe_int (fun _ _ => rfl)) pa_nil))) (fun _ _ => rfl)) pa_nil))) pa_nil))))))
      (pss_one (ps_ret (pv 3))))), ?_⟩
    have get : ∀ {i : Int}, 0 ≤ i → i < 90 → ∃ n, 0 ≤ n ∧ n < 1009 ∧ atI (ks.map V.int) i = some (.int n) := fun {i} h0 h1 => by
      obtain ⟨n, hn, hat, _⟩ := num_in (ks := ks) (i := i) h0 (by omega)
      exact ⟨n, (N.sm n hn).1, (N.sm n hn).2, hat⟩
    obtain ⟨n0, l0, u0, g0⟩ := get (i := 60) (by decide) (by decide)
    obtain ⟨n1, l1, u1, g1⟩ := get (i := 60 + 1) (by decide) (by decide)
    obtain ⟨nz, z, zin, hz⟩ := wind_pick ok n0
    refine ⟨_, rfl, p, _, _, _, rfl, rfl, S.ob, atI_nat (j := 0) rfl, _, rfl, _, rfl, q, _, _, _, rfl, rfl, N.at_, g0, .inl ⟨_, rfl, _, rfl, p, _, _, _, rfl, rfl, S.ob, atI_nat (j := 0) rfl, wi, _, rfl, .inr S.wi, _, _, rfl, rfl, nz, wi, _, _, _, rfl, rfl, S.wi, hz, by show 2 ≤ sizeLine; decide, fun t ht => ⟨by show 1 ≤ sizeLine; decide, fun L hL => ?_⟩⟩⟩
    have L0 := fresh_back (Ex.new ht) hL
    have e0 : Ex H (upd (upd H t (.tup [.int 0, .str z])) L (.lst [.ref t])) := (Ex.new ht).trans (Ex.new hL)
    have d0 : Dp K (upd (upd H t (.tup [.int 0, .str z])) L (.lst [.ref t])) (.ref t) (dRow (0, z)) := .tup (st_of (Ex.new hL _ _ upd_same)) (.cons (.int _) (.cons (.str _) .nil))
    have h0 : (upd (upd H t (.tup [.int 0, .str z])) L (.lst [.ref t])) L = some (.lst [.ref t]) := upd_same
    generalize upd (upd H t (.tup [.int 0, .str z])) L (.lst [.ref t]) = H0 at e0 d0 h0
    refine ⟨_, rfl, _, rfl, _, _, rfl, rfl, q, _, _, _, rfl, rfl, (N.ex e0).at_, g1, .inl ⟨_, rfl, _, _, rfl, rfl, (by show (0 : Int) < 5; decide), _, rfl, by omega, by omega, for_range (n := (n1 % 5).toNat) (fun i σ H' => ∃ (rs : List V) (ws : List (Int × Str)) (v4 v5 : Option V), σ = [some (.ref p), some (.ref q), some (.int 60), some (.ref L), v4, v5] ∧ Ex H H' ∧ H' L = some (.lst rs) ∧ DpAll K H' rs (ws.map dRow) ∧ WG D ws ∧ ws.length = i + 1 ∧ ∀ r ∈ ws, r.1 ≤ 11 * (i : Int)) ?_ ?_ ?_⟩⟩
    · exact ⟨[.ref t], [(0, z)], none, none, rfl, e0, h0, dps_one d0, ⟨one_row, fun r hr => by rw [List.mem_singleton.mp hr]; exact zin, fun r hr => by rw [List.mem_singleton.mp hr]; exact ⟨Int.le_refl 0, by show (0 : Int) ≤ 100000; decide⟩⟩, rfl, fun r hr => by rw [List.mem_singleton.mp hr]; show (0 : Int) ≤ 11 * ((0 : Nat) : Int); decide⟩
    · rintro i σ H1 hi ⟨rs, ws, v4, v5, rfl, e1, hg, hd, W, lw, top⟩
      have i4 : i < 4 := by omega
      have lrs : rs.length = ws.length := by rw [dps_len hd, List.length_map]
      obtain ⟨r, hr, rin, hlast⟩ := row_last (ws := ws) (by omega)
      obtain ⟨y, hy⟩ : ∃ y, rs[rs.length - 1]? = some y := ⟨_, List.getElem?_eq_getElem (by omega)⟩
      obtain ⟨t1, r1, rfl, ht1, hr1, _⟩ := row_at hd hy
      rw [lrs, hr] at hr1
      obtain rfl := Option.some.inj hr1
      have N1 := N.ex e1
      have S1 := S.ex e1
      obtain ⟨n, ln, un, gn⟩ := get (i := 60 + 2 + (0 + (i : Int))) (by omega) (by omega)
      obtain ⟨nz2, z2, zin2, hz2⟩ := wind_pick ok (n / 11)
      have m0 := Int.emod_nonneg n (show (11 : Int) ≠ 0 by decide)
      have m1 := Int.emod_lt_of_pos n (show (0 : Int) < 11 by decide)
      have rlo := W.lo r rin
      have rtop := top r rin
      refine ⟨_, rfl, _, rfl, L, _, _, _, rfl, rfl, SqL.of hg, at_last hy, t1, _, _, _, rfl, rfl, ht1, atI_nat (j := 0) rfl, _, _, rfl, rfl, _, rfl, _, rfl, _, _, rfl, rfl, _, rfl, _, _, rfl, rfl, q, _, _, _, rfl, rfl, N1.at_, gn, .inl ⟨_, rfl, _, _, rfl, rfl, (by show (0 : Int) < 11; decide), _, _, rfl, rfl, ?_⟩⟩
      refine ⟨_, rfl, .inl ⟨rfl, _, SqL.of hg⟩, _, rfl, _, rfl, p, _, _, _, rfl, rfl, S1.ob, atI_nat (j := 0) rfl, _, rfl, _, rfl, _, _, rfl, rfl, _, rfl, _, _, rfl, rfl, q, _, _, _, rfl, rfl, N1.at_, gn, _, _, rfl, rfl, ⟨by decide, by decide⟩, .inl ⟨_, rfl, _, rfl, p, _, _, _, rfl, rfl, S1.ob, atI_nat (j := 0) rfl, wi, _, rfl, .inr S1.wi, _, _, rfl, rfl, nz2, wi, _, _, _, rfl, rfl, S1.wi, hz2, by show 2 ≤ sizeLine; decide, fun t2 ht2 => ?_⟩⟩
      have e2 : Ex H1 (upd H1 t2 (.tup [.int (r.1 + 1 + n % 11), .str z2])) := Ex.new ht2
      have nw : Dp K (upd H1 t2 (.tup [.int (r.1 + 1 + n % 11), .str z2])) (.ref t2) (dRow (r.1 + 1 + n % 11, z2)) := .tup (st_of upd_same) (.cons (.int _) (.cons (.str _) .nil))
      refine ⟨L, rs, _, rfl, rfl, e2 _ _ hg, sz_lt (by omega), rs ++ [.ref t2], ws ++ [(r.1 + 1 + n % 11, z2)], _, _, rfl, (e1.trans e2).mut L0, upd_same, ?_, ⟨?_, ?_, ?_⟩, by rw [List.length_append, List.length_singleton]; omega, ?_⟩
      · rw [List.map_append]
        refine dps_exT (exT_mut (e2 _ _ hg)) (dps_app (dps_ex e2 hd) (dps_one nw)) ?_
        rw [← List.map_append (f := dRow) (l₂ := [(r.1 + 1 + n % 11, z2)])]
        exact frozen_rows _
      · rw [List.map_append]
        exact rows_add W.rows (by rw [List.length_map]; omega) (by rw [hlast]; show r.1 < r.1 + 1 + n % 11; omega) (by show r.1 + 1 + n % 11 ≤ 100000; omega)
      · intro x hx
        rcases List.mem_append.mp hx with h | h
        · exact W.win x h
        · rw [List.mem_singleton.mp h]; exact zin2
      · intro x hx
        rcases List.mem_append.mp hx with h | h
        · exact W.lo x h
        · rw [List.mem_singleton.mp h]
          exact ⟨by show 0 ≤ r.1 + 1 + n % 11; omega, by show r.1 + 1 + n % 11 ≤ 100000; omega⟩
      · intro x hx
        rcases List.mem_append.mp hx with h | h
        · have := top x h; push_cast; omega
        · rw [List.mem_singleton.mp h]
          show r.1 + 1 + n % 11 ≤ 11 * ((i + 1 : Nat) : Int)
          push_cast
          omega
    · rintro σ H1 ⟨rs, ws, v4, v5, rfl, e1, hg, hd, W, lw, top⟩
      exact ⟨_, rfl, k H1 L rs ws e1 L0 hg hd W (by omega)⟩
theorem G__law_wind (T : Txt K mg a) : FnOk P w K mg base CX0 1 a.f__law_wind a.d__law_wind ["parts", "weather", "minute"] (sp__law_wind K) := by
  refine T.F__law_wind.ok sc__law_wind (fun vs H Q E h => ?_) (fun cdv A outer s H vs Q E hr h => ?_)
  · obtain ⟨p, l, D, wi, pl, li, rows, rs, ws, m, rfl, _⟩ := h
    rfl
  · obtain ⟨p, l, D, wi, pl, li, rows, rs, ws, m, rfl, S, hl, hd, W, k⟩ := h
    refine ⟨_, (pss_cons (ps_set (i := 3) sc__law_wind.nd rfl (Or.inl rfl) (pe_ix ix_tup (pe_ix ix_list (pv 1) pe_int (fun _ _ => rfl)) pe_int (fun _ _ => rfl)))
      (pss_cons (ps_for PassesOwn.never rfl (pi_list (pv 1)) (pg_tup (by rfl) (pgs_cons (pg_name (i := 4) sc__law_wind.nd rfl (Or.inl rfl)) (pgs_cons (pg_name (i := 5) sc__law_wind.nd rfl (Or.inl rfl)) pgs_nil))) (pss_one (ps_if (pt_cmpR op_le (pv 4) (pv 2) (nomark _)) (pss_one (ps_set (i := 3) sc__law_wind.nd rfl (Or.inl rfl) (pv 5))) pss_nil)))
      (pss_one (ps_ret (pe_bm PySem.F.plainAttrs_list PySem.F.slot_list_index PySem.F.type_list_index mt_index (pe_callTy call_lstK (by rfl) T.z_list (by decide +kernel) (pa_cons (pe_ix ix_list (pv 0) pe_int (fun _ _ => rfl)) pa_nil)) (pa_cons (pv 3) pa_nil)))))), ?_⟩
    have len : rs.length = ws.length := by rw [dps_len hd, List.length_map]
    have pos : 0 < ws.length := W.len.1
    obtain ⟨y, hy⟩ : ∃ y, rs[0]? = some y := ⟨_, List.getElem?_eq_getElem (by omega)⟩
    obtain ⟨t, r, rfl, ht, hr0, rin⟩ := row_at hd hy
    have w0 : r.2 = windTo ws m 0 := by
      unfold windTo
      rw [List.headD_eq_head?_getD, List.head?_eq_getElem?, hr0]
      rfl
    refine ⟨_, rfl, l, _, _, _, rfl, rfl, hl, atI_nat (j := 0) hy, t, _, _, _, rfl, rfl, ht, atI_nat (j := 1) rfl, ?_⟩
    refine ⟨_, rfl, l, rfl, ⟨_, hl⟩, for_list (K := K) (a := l) (xs := rs) (fun i σ H' => ∃ v4 v5, σ = [some (.ref p), some (.ref l), some (.int m), some (.str (windTo ws m i)), v4, v5] ∧ Ex H H' ∧ windTo ws m i ∈ D.ws) ⟨_, _, by rw [← w0]; rfl, Ex.refl _, by rw [← w0]; exact W.win r rin⟩ (fun i σ H' _ z => by obtain ⟨_, _, rfl, e, _⟩ := z; exact ex_l e hl) ?_ ?_⟩
    · rintro i y2 σ H2 hy2 ⟨v4, v5, rfl, e2, hw⟩
      obtain ⟨t2, r2, rfl, ht2, hr2, rin2⟩ := row_at hd hy2
      refine ⟨t2, _, rfl, ex_t e2 ht2, rfl, _, _, rfl, _, _, rfl, rfl, _, rfl, _, rfl, _, _, rfl, rfl, _, rfl, ?_⟩
      refine ite2 (fun c => ?_) (fun c => ?_)
      · have c := of_decide_eq_true c
        refine ⟨_, rfl, some (.int r2.1), some (.str r2.2), ?_, e2, ?_⟩
        · rw [windTo_more hr2, if_pos c]
          rfl
        · rw [windTo_more hr2, if_pos c]
          exact W.win r2 rin2
      · have c : ¬ r2.1 ≤ m := fun z => c (decide_eq_true z)
        refine ⟨some (.int r2.1), some (.str r2.2), ?_, e2, ?_⟩
        · rw [windTo_more hr2, if_neg c]
          rfl
        · rw [windTo_more hr2, if_neg c]
          exact hw
    · rintro σ H2 ⟨v4, v5, rfl, e2, hw⟩
      rw [len] at hw ⊢
      obtain ⟨j, hj, hbef⟩ := first_at hw
      have S2 := S.ex e2
      refine ⟨_, rfl, p, _, _, _, rfl, rfl, S2.ob, atI_nat (j := 0) rfl, wi, _, rfl, .inr S2.wi, fun l2 h2 => ?_⟩
      refine ⟨.inl ⟨rfl, _, SqL.of upd_same⟩, _, rfl, l2, _, _, j, .str (windTo ws m ws.length), rfl, rfl, SqL.of upd_same, rfl, flat_str _, by rw [List.getElem?_map, hj] <;> rfl, eq_str.mpr rfl, fun i z hi hz => ?_, ?_⟩
      · rw [List.getElem?_map] at hz
        obtain ⟨y3, hy3, rfl⟩ := Option.map_eq_some_iff.mp hz
        exact ne_str (hbef i y3 hi hy3)
      · exact k _ j (e2.trans (Ex.new h2)) (atI_nat (by rw [List.getElem?_map, hj] <;> rfl))
end
end EV

set_option Elab.async false
set_option linter.all false
set_option maxRecDepth 100000
set_option maxHeartbeats 4000000
namespace EV
open PySem PySem.Spec PyProof.Rows L2 EvS Evl
/-- what is told of a weather -/
def Told (D : LandD) (ws : List (Int × Str)) (wh : Int) (ds : List PyData) : Prop :=
  (∀ z, strange D ws = some z → ds = [.str "name", .str z]) ∧ (strange D ws = none → ¬ RowsOk (ws.map (·.1)) → ds = [.str "weather", .str ""]) ∧
  (strange D ws = none → RowsOk (ws.map (·.1)) → ds = [.str "told", if wh = 0 then .none else .str (windTo ws 3 ws.length)])
def sp__law_told (K : PySem.W.Frag) (C : Addr) : Sp := fun vs H Q _ => ∃ (x l : Addr) (D : LandD) (rs : List V) (ws : List (Int × Str)) (wh : Int) (ds : List PyData), vs = [.int wh, .ref x, .ref l] ∧ (wh = 0 ∨ wh = 1) ∧ IsLand K C H x D ∧ SqL K H l rs ∧ DpAll K H rs (ws.map dRow) ∧ Tame ws ∧ Told D ws wh ds ∧
  ∀ H' t, Ex H H' → Dp K H' (.ref t) (.tuple ds) → Q (.ref t) H'
section
variable {P : Program} {w : World} {K : PySem.W.Frag} {mg : Str → Option Value} {base : Heap} {a : Ad}
theorem G__law_told (T : Txt K mg a) (hP : PF P) : FnOk P w K mg base CX0 8 a.f__law_told a.d__law_told ["which", "land", "weather"] (sp__law_told K a.C) := by
  refine T.F__law_told.ok sc__law_told (fun vs H Q E h => ?_) (fun cdv A outer s H vs Q E hr h => ?_)
  · obtain ⟨x, l, D, rs, ws, wh, ds, rfl, _⟩ := h
    rfl
  · obtain ⟨x, l, D, rs, ws, wh, ds, rfl, w01, hx, hl, hd, tm, td, k⟩ := h
    refine ⟨_, (pss_one (ps_try_as (i := 3) rfl rfl sc__law_told.nd rfl rfl ⟨rfl, by decide, .inl T.g_EveryfireError⟩ takes0 (fun W pn xe tk _ => (pss_cons (ps_if (pt_cmpR op_eq (pv 0) pe_int (nomark _)) (pss_one (ps_ret (pe_tup (pa_cons pe_str (pa_cons (by exact (pe_callS (G_check_weather T hP) (hr.mono (by decide)) (by rfl) T.g_check_weather T.k_check_weather T.B_check_weather (fun σ => passAt tk σ) (by exact (pa_cons (pv 1) (pa_cons (pv 2) pa_nil))))) pa_nil))))) pss_nil)
          (pss_one (ps_ret (pe_tup (pa_cons pe_str (pa_cons (by exact (pe_callS (G_wind_at T hP) (hr.mono (by decide)) (by rfl) T.g_wind_at T.k_wind_at T.B_wind_at (fun σ => passAt tk σ) (by exact (pa_cons (pv 1) (pa_cons (pv 2) (pa_cons pe_int pa_nil)))))) pa_nil))))))) (fun ex oe cls dd pn hz hf => (pss_cons (ps_if (pt_not (pt_val (pe_callB (SupX.call_isX hz hf) (by rfl) T.z_isinstance (by decide +kernel) (pa_cons (pv 3) (pa_cons (pe_bltn (v := .ty "ValueError") (u := .type "ValueError") (by rfl) T.z_ValueError (by decide +kernel) rfl) pa_nil))))) (pss_one (ps_ret (pe_tup (pa_cons pe_str (pa_cons pe_str pa_nil))))) pss_nil)
          (pss_cons (ps_if (pt_val (pe_callB (SupX.call_isX hz hf) (by rfl) T.z_isinstance (by decide +kernel) (pa_cons (pv 3) (pa_cons (pe_glob (v := .ref a.X_UnknownName) (by rfl) T.g_UnknownName rfl) pa_nil)))) (pss_one (ps_ret (pe_tup (pa_cons pe_str (pa_cons (pe_xf T.xf_UnknownName T.nf_UnknownName hz hf (pv 3)) pa_nil))))) pss_nil)
          (pss_one (ps_ret (pe_tup (pa_cons (pe_ix (show IxR _ (rIxL K) from ix_list) (pe_lst (pa_cons pe_str (pa_cons pe_str pa_nil))) (pe_callTy call_int1 (by rfl) T.z_int (by decide +kernel) (pa_cons (pe_callB (SupX.call_isX hz hf) (by rfl) T.z_isinstance (by decide +kernel) (pa_cons (pv 3) (pa_cons (pe_glob (v := .ref a.X_InvalidWeather) (by rfl) T.g_InvalidWeather rfl) pa_nil))) pa_nil)) (fun _ _ => rfl)) (pa_cons pe_str pa_nil)))))))))), ?_⟩
    rcases w01 with rfl | rfl
    · refine ⟨_, rfl, rfl, _, rfl, ite2 (fun _ => ?_) (fun c => absurd (decide_eq_true rfl) c)⟩
      refine ⟨_, rfl, _, rfl, x, l, D, rs, ws, rfl, hx, hl, hd, tm, fun z hz d H1 hd1 e1 h1 => ?_, fun hs bad H1 e1 => ?_, fun hs good H1 e1 => ?_⟩
      · refine ⟨true, T.em_UnknownName_EveryfireError, fun _ ae hae => ?_, fun z => nomatch z⟩
        refine ⟨_, rfl, ⟨_, _, true, a.X_UnknownName, rfl, rfl, T.ec_UnknownName, (fun u r => r), T.kt_UnknownName_ValueError, (fun dd e => by cases e; exact ⟨_, h1⟩), _, rfl, ?_⟩⟩
        refine ⟨_, rfl, ⟨_, _, true, a.X_UnknownName, rfl, rfl, T.ec_UnknownName, (fun u r => r), T.kt_UnknownName_UnknownName, (fun dd e => by cases e; exact ⟨_, h1⟩), _, rfl, ?_⟩⟩
        refine ⟨_, rfl, rfl, rfl, d, _, _, rfl, h1, rfl, by show 2 ≤ sizeLine; decide, fun t ht => ?_⟩
        refine k _ t (e1.trans (Ex.new ht)) ?_
        rw [td.1 z hz]
        exact .tup (st_of upd_same) (.cons (.str _) (.cons (.str _) .nil))
      · refine ⟨true, T.em_InvalidWeather_EveryfireError, fun _ ae hae => ?_, fun z => nomatch z⟩
        refine ⟨_, rfl, ⟨_, _, true, a.X_InvalidWeather, rfl, rfl, T.ec_InvalidWeather, (fun u r => r), T.kt_InvalidWeather_ValueError, (fun dd e => nomatch e), _, rfl, ?_⟩⟩
        refine ⟨_, rfl, ⟨_, _, false, a.X_InvalidWeather, rfl, rfl, T.ec_InvalidWeather, (fun u r => r), T.kt_InvalidWeather_UnknownName, (fun dd e => nomatch e), _, rfl, ?_⟩⟩
        refine ⟨by show 2 ≤ sizeLine; decide, fun L hL => ?_⟩
        refine ⟨_, rfl, ⟨_, _, true, a.X_InvalidWeather, rfl, rfl, T.ec_InvalidWeather, (fun u r => r), T.kt_InvalidWeather_InvalidWeather, (fun dd e => nomatch e), .inr ⟨true, rfl, ?_⟩⟩⟩
        refine ⟨L, _, _, _, rfl, rfl, SqL.of upd_same, atI_nat (j := 1) rfl, by show 2 ≤ sizeLine; decide, fun t ht => ?_⟩
        refine k _ t (e1.trans ((Ex.new hL).trans (Ex.new ht))) ?_
        rw [td.2.1 hs bad]
        exact .tup (st_of upd_same) (.cons (.str _) (.cons (.str _) .nil))
      · refine ⟨by show 2 ≤ sizeLine; decide, fun t ht => k _ t (e1.trans (Ex.new ht)) ?_⟩
        rw [td.2.2 hs good, if_pos rfl]
        exact .tup (st_of upd_same) (.cons (.str _) (.cons .non .nil))
    · refine ⟨_, rfl, rfl, _, rfl, ite2 (fun c => absurd (of_decide_eq_true c) (fun z => by injection z with z; exact absurd z (by decide))) (fun _ => ?_)⟩
      refine ⟨_, rfl, _, rfl, x, l, D, rs, ws, 3, rfl, hx, hl, hd, tm, fun z hz d H1 hd1 e1 h1 => ?_, fun hs bad H1 e1 => ?_, fun hs good H1 e1 => ?_⟩
      · refine ⟨true, T.em_UnknownName_EveryfireError, fun _ ae hae => ?_, fun z => nomatch z⟩
        refine ⟨_, rfl, ⟨_, _, true, a.X_UnknownName, rfl, rfl, T.ec_UnknownName, (fun u r => r), T.kt_UnknownName_ValueError, (fun dd e => by cases e; exact ⟨_, h1⟩), _, rfl, ?_⟩⟩
        refine ⟨_, rfl, ⟨_, _, true, a.X_UnknownName, rfl, rfl, T.ec_UnknownName, (fun u r => r), T.kt_UnknownName_UnknownName, (fun dd e => by cases e; exact ⟨_, h1⟩), _, rfl, ?_⟩⟩
        refine ⟨_, rfl, rfl, rfl, d, _, _, rfl, h1, rfl, by show 2 ≤ sizeLine; decide, fun t ht => ?_⟩
        refine k _ t (e1.trans (Ex.new ht)) ?_
        rw [td.1 z hz]
        exact .tup (st_of upd_same) (.cons (.str _) (.cons (.str _) .nil))
      · refine ⟨true, T.em_InvalidWeather_EveryfireError, fun _ ae hae => ?_, fun z => nomatch z⟩
        refine ⟨_, rfl, ⟨_, _, true, a.X_InvalidWeather, rfl, rfl, T.ec_InvalidWeather, (fun u r => r), T.kt_InvalidWeather_ValueError, (fun dd e => nomatch e), _, rfl, ?_⟩⟩
        refine ⟨_, rfl, ⟨_, _, false, a.X_InvalidWeather, rfl, rfl, T.ec_InvalidWeather, (fun u r => r), T.kt_InvalidWeather_UnknownName, (fun dd e => nomatch e), _, rfl, ?_⟩⟩
        refine ⟨by show 2 ≤ sizeLine; decide, fun L hL => ?_⟩
        refine ⟨_, rfl, ⟨_, _, true, a.X_InvalidWeather, rfl, rfl, T.ec_InvalidWeather, (fun u r => r), T.kt_InvalidWeather_InvalidWeather, (fun dd e => nomatch e), .inr ⟨true, rfl, ?_⟩⟩⟩
        refine ⟨L, _, _, _, rfl, rfl, SqL.of upd_same, atI_nat (j := 1) rfl, by show 2 ≤ sizeLine; decide, fun t ht => ?_⟩
        refine k _ t (e1.trans ((Ex.new hL).trans (Ex.new ht))) ?_
        rw [td.2.1 hs bad]
        exact .tup (st_of upd_same) (.cons (.str _) (.cons (.str _) .nil))
      · refine ⟨by show 2 ≤ sizeLine; decide, fun t ht => k _ t (e1.trans (Ex.new ht)) ?_⟩
        rw [td.2.2 hs good, if_neg (by decide)]
        exact .tup (st_of upd_same) (.cons (.str _) (.cons (.str _) .nil))
end
end EV

set_option Elab.async false
set_option linter.all false
set_option maxRecDepth 100000
set_option maxHeartbeats 4000000
namespace EV
open PySem PySem.Spec PyProof.Rows L2 EvS Evl
theorem md {ws : List (Int × Str)} {i : Nat} {r : Int × Str} (h : ws[i]? = some r) : (ws.map (·.1)).getD i 0 = r.1 := by
  rw [List.getD_eq_getElem?_getD, List.getElem?_map, h]
  rfl
def sp__law_spoilt (K : PySem.W.Frag) : Sp := fun vs H Q _ => ∃ (l : Addr) (D : LandD) (rs : List V) (ws : List (Int × Str)) (n o : Int), vs = [.ref l, .int n, .int o] ∧ 0 ≤ n ∧ 0 ≤ o ∧ LandOk D ∧ H l = some (.lst rs) ∧ DpAll K H rs (ws.map dRow) ∧ WG D ws ∧ ws.length ≤ 5 ∧
  ∀ H' q rs' ws', Ex H H' → H q = none → H' q = some (.lst rs') → DpAll K H' rs' (ws'.map dRow) → Tame ws' → (∀ r ∈ ws', r.2 ∈ D.ws) → ¬ RowsOk (ws'.map (·.1)) → ws'.length ≤ 41 → Q (.ref q) H'
section
variable {P : Program} {w : World} {K : PySem.W.Frag} {mg : Str → Option Value} {base : Heap} {a : Ad}
theorem G__law_spoilt (T : Txt K mg a) : FnOk P w K mg base CX0 1 a.f__law_spoilt a.d__law_spoilt ["weather", "number", "other"] (sp__law_spoilt K) := by
  refine T.F__law_spoilt.ok sc__law_spoilt (fun vs H Q E h => ?_) (fun cdv A outer s H vs Q E hr h => ?_)
  · obtain ⟨l, D, rs, ws, n, o, rfl, _⟩ := h
    rfl
  · obtain ⟨l, D, rs, ws, n, o, rfl, n0, o0, ok, hL, hd, W, l5, k⟩ := h
    have hl : SqL K H l rs := SqL.of hL
    refine ⟨_, (pss_cons (ps_set (i := 3) sc__law_spoilt.nd rfl (Or.inl rfl) (pe_op op_mod (pe_callTy call_int1 (by rfl) T.z_int (by decide +kernel) (pa_cons (pv 1) pa_nil)) pe_int))
      (pss_cons (ps_set (i := 4) sc__law_spoilt.nd rfl (Or.inl rfl) (pe_op op_modN (pe_callTy call_int1 (by rfl) T.z_int (by decide +kernel) (pa_cons (pv 2) pa_nil)) (pe_callB call_len_seq (by rfl) T.z_len PySem.boot_len (pa_cons (pv 0) pa_nil))))
      (pss_cons (ps_if (pt_cmpR op_eq (pv 3) pe_int (nomark _)) (pss_one (ps_ret (pe_lst pa_nil))) pss_nil)
      (pss_cons (ps_if (pt_cmpR op_eq (pv 3) pe_int (nomark _)) (pss_one (ps_ret (pe_lc (own := [("minute", 5), ("wind", 6)]) (g := gTup K 2 (gCons (gName 5) (gCons (gName 6) gNil))) (tt := tYes) rfl sc__law_spoilt.nd (pi_list (pv 0)) (blkOk_by (N := ["weather", "number", "other", "which", "place", "minute", "wind", "k"]) (sc := defScope s__law_spoilt) (by decide +kernel)) (fun _ _ _ _ _ => (pg_tup (by rfl) (pgs_cons (pg_name (i := 5) sc__law_spoilt.nd rfl (Or.inl rfl)) (pgs_cons (pg_name (i := 6) sc__law_spoilt.nd rfl (Or.inl rfl)) pgs_nil)))) (fun _ _ _ _ _ => pts_nil) (fun _ _ _ _ _ => (pe_tup (pa_cons (pe_op op_add (pe_op op_add (pv 5) pe_int) (pe_op op_mod (pe_callTy call_int1 (by rfl) T.z_int (by decide +kernel) (pa_cons (pv 2) pa_nil)) pe_int)) (pa_cons (pv 6) pa_nil))))))) pss_nil)
      (pss_cons (ps_if (pt_cmpR op_eq (pv 3) pe_int (nomark _)) (pss_one (ps_ret (pe_op op_cat (pe_slice sl_list (pv 0) po_none (po_some (pe_op op_add (pv 4) pe_int))) (pe_slice sl_list (pv 0) (po_some (pv 4)) po_none)))) pss_nil)
      (pss_cons (ps_if (pt_cmpR op_eq (pv 3) pe_int (nomark _)) (pss_one (ps_ret (pe_op op_cat (pv 0) (pe_lst (pa_cons (pe_tup (pa_cons (pe_op op_sub (pe_ix ix_tup (pe_ix ix_list (pv 0) (pe_un un_neg pe_int) (fun _ _ => rfl)) pe_int (fun _ _ => rfl)) (pe_op op_mod (pe_callTy call_int1 (by rfl) T.z_int (by decide +kernel) (pa_cons (pv 2) pa_nil)) pe_int)) (pa_cons (pe_ix ix_tup (pe_ix ix_list (pv 0) pe_int (fun _ _ => rfl)) pe_int (fun _ _ => rfl)) pa_nil))) pa_nil))))) pss_nil)
      (pss_cons (ps_if (pt_cmpR op_eq (pv 3) pe_int (nomark _)) (pss_one (ps_ret (pe_op op_cat (pv 0) (pe_lst (pa_cons (pe_tup (pa_cons (pe_op op_add pe_int (pe_op op_mod (pe_callTy call_int1 (by rfl) T.z_int (by decide +kernel) (pa_cons (pv 2) pa_nil)) pe_int)) (pa_cons (pe_ix ix_tup (pe_ix ix_list (pv 0) pe_int (fun _ _ => rfl)) pe_int (fun _ _ => rfl)) pa_nil))) pa_nil))))) pss_nil)
      (pss_one (ps_ret (pe_lc (own := [("k", 7)]) (g := gName 7) (tt := tYes) rfl sc__law_spoilt.nd (pi_range1 (by rfl) T.z_range (pa_cons pe_int pa_nil)) (blkOk_by (N := ["weather", "number", "other", "which", "place", "minute", "wind", "k"]) (sc := defScope s__law_spoilt) (by decide +kernel)) (fun _ _ _ _ _ => pg_name (i := 7) sc__law_spoilt.nd rfl (Or.inl rfl)) (fun _ _ _ _ _ => pts_nil) (fun _ _ _ _ _ => (pe_tup (pa_cons (pv 7) (pa_cons (pe_ix (show IxR _ (rIxT K) from ix_tup) (pe_ix (show IxR _ (rIxL K) from ix_list) (pv 0) pe_int (fun _ _ => rfl)) pe_int (fun _ _ => rfl)) pa_nil)))))))))))))), ?_⟩
    have len : rs.length = ws.length := by rw [dps_len hd, List.length_map]
    have pos := W.len.1
    have tm := W.tame ok
    have p0 := Int.fmod_nonneg_of_pos o (b := ((rs.length : Nat) : Int)) (by omega)
    have p1 := Int.fmod_lt_of_pos o (b := ((rs.length : Nat) : Int)) (by omega)
    obtain ⟨pl, epl⟩ : ∃ pl : Nat, o.fmod ((rs.length : Nat) : Int) = (pl : Int) := ⟨_, (Int.toNat_of_nonneg p0).symm⟩
    have cr : ∀ xs : List V, cutV xs (some (pl : Int)) none = xs.drop pl := fun xs => cut_from xs pl
    have cl : ∀ xs : List V, cutV xs none (some ((pl : Int) + 1)) = xs.take (pl + 1) := fun xs => cut_to xs (pl + 1)
    have plt : pl < ws.length := by omega
    -- the first and the last row
    obtain ⟨y0, hy0⟩ : ∃ y, rs[0]? = some y := ⟨_, List.getElem?_eq_getElem (by omega)⟩
    obtain ⟨t0, r0, rfl, ht0, hr0, rin0⟩ := row_at hd hy0
    obtain ⟨y9, hy9⟩ : ∃ y, rs[rs.length - 1]? = some y := ⟨_, List.getElem?_eq_getElem (by omega)⟩
    obtain ⟨t9, r9, rfl, ht9, hr9, rin9⟩ := row_at hd hy9
    have w9 := W.lo r9 rin9
    have w0 := W.lo r0 rin0
    have first : ∀ {H1 : Hp}, Ex H H1 → SqL K H1 l rs ∧ SqT K H1 t0 [.int r0.1, .str r0.2] ∧ SqT K H1 t9 [.int r9.1, .str r9.2] := fun e => ⟨ex_l e hl, ex_t e ht0, ex_t e ht9⟩
    have q2 := Int.emod_nonneg o (show (2 : Int) ≠ 0 by decide)
    have q21 := Int.emod_lt_of_pos o (show (0 : Int) < 2 by decide)
    have q3 := Int.emod_nonneg o (show (3 : Int) ≠ 0 by decide)
    have q31 := Int.emod_lt_of_pos o (show (0 : Int) < 3 by decide)
    -- what stands behind a weather
    have behind : ∀ (H1 : Hp) (q t : Addr) (m : Int), Ex H H1 → H q = none → H1 q = some (.lst (rs ++ [.ref t])) → SqT K H1 t [.int m, .str r0.2] → -1 ≤ m → m ≤ 200000 → (¬ r9.1 < m ∨ 100000 < m) → Q (.ref q) H1 := fun H1 q t m e hq h1 h2 m0 m1 bad => by
      have lw : (ws ++ [(m, r0.2)]).length = ws.length + 1 := by simp
      have g9 : (ws ++ [(m, r0.2)])[ws.length]? = some (m, r0.2) := by rw [List.getElem?_append_right (Nat.le_refl _), Nat.sub_self]; rfl
      have g8 : (ws ++ [(m, r0.2)])[ws.length - 1]? = some r9 := by rw [List.getElem?_append_left (by omega), ← len]; exact hr9
      refine k H1 q _ (ws ++ [(m, r0.2)]) e hq h1 ?_ ⟨by rw [lw]; omega, fun r hr => ?_⟩ (fun r hr => ?_) (fun R => ?_) (by rw [lw]; omega)
      · rw [List.map_append]
        exact dps_app (dps_ex e hd) (dps_one (.tup h2 (.cons (.int _) (.cons (.str _) .nil))))
      · rcases List.mem_append.mp hr with z | z
        · exact tm.2 r z
        · rw [List.mem_singleton.mp z]
          exact ⟨by show m.natAbs ≤ 1000000; omega, (tm.2 r0 rin0).2⟩
      · rcases List.mem_append.mp hr with z | z
        · exact W.win r z
        · rw [List.mem_singleton.mp z]; exact W.win r0 rin0
      · rcases bad with b | b
        · have z := R.2.2.2.1 (ws.length - 1) (by rw [List.length_map, lw]; omega)
          rw [md g8, show ws.length - 1 + 1 = ws.length by omega, md g9] at z
          exact b z
        · have z := R.2.2.2.2
          rw [List.length_map, lw, Nat.add_sub_cancel, md g9] at z
          have z : m ≤ 100000 := z
          omega
    refine ⟨_, rfl, .inl ⟨_, rfl, _, _, rfl, rfl, (by show (0 : Int) < 6; decide), ?_⟩⟩
    refine ⟨_, rfl, .inl ⟨_, rfl, _, rfl, l, _, rfl, .inl hl, _, _, rfl, rfl, by omega, ?_⟩⟩
    refine ⟨_, rfl, rfl, _, rfl, ite2 (fun _ => ?_) (fun _ => ?_)⟩
    · exact ⟨Nat.zero_le _, fun q hq => k _ q [] [] (Ex.new hq) hq upd_same .nil ⟨Nat.zero_le _, fun r hr => by cases hr⟩ (fun r hr => by cases hr) (fun R => absurd R.1 (by decide)) (Nat.zero_le _)⟩
    refine ⟨_, rfl, rfl, _, rfl, ite2 (fun _ => ?_) (fun _ => ?_)⟩
    · refine ⟨_, rfl, l, rfl, ⟨_, hl⟩, fun D0 hD => lc_list (K := K) (a := l) (xs := rs) (fun i H' => Ex H H' ∧ ∃ acc, H' D0 = some (.lst acc) ∧ DpAll K H' acc (((ws.take i).map fun r => (r.1 + 1 + o % 3, r.2)).map dRow)) ⟨Ex.new hD, [], upd_same, .nil⟩ (fun i H' _ z => ex_l z.1 hl) ?_ ?_⟩
      · rintro i y H1 hy ⟨e1, acc, hg, hd1⟩
        obtain ⟨t, r, rfl, ht, hr, rin⟩ := row_at hd hy
        have la : acc.length ≤ 5 := by
          have z := dps_len hd1
          rw [List.length_map, List.length_map, List.length_take] at z
          omega
        refine ⟨t, _, rfl, ex_t e1 ht, rfl, _, _, rfl, _, _, rfl, rfl, rfl, _, rfl, _, _, rfl, rfl, _, rfl, .inl ⟨_, rfl, _, _, rfl, rfl, (by show (0 : Int) < 3; decide), _, _, rfl, rfl, _, rfl, by show 2 ≤ sizeLine; decide, fun t2 ht2 => ?_⟩⟩
        have e2 : Ex H1 (upd H1 t2 (.tup [.int (r.1 + 1 + o % 3), .str r.2])) := Ex.new ht2
        have nw : Dp K (upd H1 t2 (.tup [.int (r.1 + 1 + o % 3), .str r.2])) (.ref t2) (dRow (r.1 + 1 + o % 3, r.2)) := .tup (st_of upd_same) (.cons (.int _) (.cons (.str _) .nil))
        refine ⟨acc, e2 _ _ hg, sz_lt (by omega), (e1.trans e2).mut hD, acc ++ [.ref t2], upd_same, ?_⟩
        rw [take_one hr, List.map_append]
        refine dps_exT (exT_mut (e2 _ _ hg)) ?_ (frozen_rows _)
        rw [List.map_append]
        exact dps_app (dps_ex e2 hd1) (dps_one nw)
      · rintro H1 ⟨e1, acc, hg, hd1⟩
        rw [len, List.take_length] at hd1
        refine k H1 D0 acc _ e1 hD hg hd1 ⟨by rw [List.length_map]; omega, fun r hr => ?_⟩ (fun r hr => ?_) (fun R => ?_) (by rw [List.length_map]; omega)
        · obtain ⟨r', hr', rfl⟩ := List.mem_map.mp hr
          have := W.lo r' hr'
          exact ⟨by show (r'.1 + 1 + o % 3).natAbs ≤ 1000000; omega, (tm.2 r' hr').2⟩
        · obtain ⟨r', hr', rfl⟩ := List.mem_map.mp hr
          exact W.win r' hr'
        · have z := R.2.2.1
          rw [md (r := (r0.1 + 1 + o % 3, r0.2)) (by rw [List.getElem?_map, hr0] <;> rfl)] at z
          have z : r0.1 + 1 + o % 3 = 0 := z
          omega
    refine ⟨_, rfl, rfl, _, rfl, ite2 (fun _ => ?_) (fun _ => ?_)⟩
    · refine ⟨_, rfl, _, rfl, _, _, rfl, rfl, _, rfl, l, _, rfl, hl, fun q1 h1 => ?_⟩
      rw [epl, cl]
      have e1 : Ex H (upd H q1 (.lst (rs.take (pl + 1)))) := Ex.new h1
      refine ⟨_, rfl, _, rfl, _, rfl, l, _, rfl, ex_l e1 hl, fun q2 h2 => ?_⟩
      rw [epl, cr]
      have e2 : Ex (upd H q1 (.lst (rs.take (pl + 1)))) (upd (upd H q1 (.lst (rs.take (pl + 1)))) q2 (.lst (rs.drop pl))) := Ex.new h2
      have g1 : (upd (upd H q1 (.lst (rs.take (pl + 1)))) q2 (.lst (rs.drop pl))) q1 = some (.lst (rs.take (pl + 1))) := e2 _ _ upd_same
      refine ⟨q1, q2, _, _, rfl, rfl, g1, upd_same, by rw [List.length_take, List.length_drop, sizeLine_eq]; omega, fun q hq => ?_⟩
      have e3 := (e1.trans e2).trans (Ex.new (o := .lst (rs.take (pl + 1) ++ rs.drop pl)) hq)
      obtain ⟨r, hr⟩ : ∃ r, ws[pl]? = some r := ⟨_, List.getElem?_eq_getElem plt⟩
      have lw : (ws.take (pl + 1) ++ ws.drop pl).length = ws.length + 1 := by rw [List.length_append, List.length_take, List.length_drop]; omega
      have mem : ∀ x ∈ ws.take (pl + 1) ++ ws.drop pl, x ∈ ws := fun x hx => by
        rcases List.mem_append.mp hx with z | z
        · exact List.mem_of_mem_take z
        · exact List.mem_of_mem_drop z
      refine k _ q _ (ws.take (pl + 1) ++ ws.drop pl) e3 (fresh_back (e1.trans e2) hq) upd_same ?_ ⟨by rw [lw]; omega, fun x hx => tm.2 x (mem x hx)⟩ (fun x hx => W.win x (mem x hx)) (fun R => ?_) (by rw [lw]; omega)
      · rw [List.map_append, List.map_take, List.map_drop]
        exact dps_app (dps_take _ (dps_ex e3 hd)) (dps_drop _ (dps_ex e3 hd))
      · have z := R.2.2.2.1 pl (by rw [List.length_map, lw]; omega)
        have lt : (ws.take (pl + 1)).length = pl + 1 := by rw [List.length_take]; omega
        rw [md (r := r) (by rw [List.getElem?_append_left (by omega), List.getElem?_take, if_pos (by omega), hr]), md (r := r) (by rw [List.getElem?_append_right (by omega), lt, Nat.sub_self, List.getElem?_drop, Nat.add_zero, hr])] at z
        omega
    refine ⟨_, rfl, rfl, _, rfl, ite2 (fun _ => ?_) (fun _ => ?_)⟩
    · refine ⟨_, rfl, _, rfl, _, rfl, l, _, _, _, rfl, rfl, hl, at_last hy9, t9, _, _, _, rfl, rfl, ht9, atI_nat (j := 0) rfl, _, rfl, .inl ⟨_, rfl, _, _, rfl, rfl, (by show (0 : Int) < 2; decide), _, _, rfl, rfl, _, rfl, l, _, _, _, rfl, rfl, hl, atI_nat (j := 0) hy0, t0, _, _, _, rfl, rfl, ht0, atI_nat (j := 1) rfl, by show 2 ≤ sizeLine; decide, fun t ht => ⟨by show 1 ≤ sizeLine; decide, fun q1 h1 => ?_⟩⟩⟩
      have e2 : Ex H (upd (upd H t (.tup [.int (r9.1 - o % 2), .str r0.2])) q1 (.lst [.ref t])) := (Ex.new ht).trans (Ex.new h1)
      have ht2 : SqT K (upd (upd H t (.tup [.int (r9.1 - o % 2), .str r0.2])) q1 (.lst [.ref t])) t [.int (r9.1 - o % 2), .str r0.2] := st_of (Ex.new h1 _ _ upd_same)
      refine ⟨l, q1, rs, [.ref t], rfl, rfl, e2 _ _ hL, upd_same, by show rs.length + 1 ≤ sizeLine; rw [sizeLine_eq]; omega, fun q hq => ?_⟩
      exact behind _ q t _ (e2.trans (Ex.new hq)) (fresh_back e2 hq) upd_same (ex_t (Ex.new hq) ht2) (by omega) (by omega) (.inl (by omega))
    refine ⟨_, rfl, rfl, _, rfl, ite2 (fun _ => ?_) (fun _ => ?_)⟩
    · refine ⟨_, rfl, _, rfl, .inl ⟨_, rfl, _, _, rfl, rfl, (by show (0 : Int) < 2; decide), _, _, rfl, rfl, _, rfl, l, _, _, _, rfl, rfl, hl, atI_nat (j := 0) hy0, t0, _, _, _, rfl, rfl, ht0, atI_nat (j := 1) rfl, by show 2 ≤ sizeLine; decide, fun t ht => ⟨by show 1 ≤ sizeLine; decide, fun q1 h1 => ?_⟩⟩⟩
      have e2 : Ex H (upd (upd H t (.tup [.int (100001 + o % 2), .str r0.2])) q1 (.lst [.ref t])) := (Ex.new ht).trans (Ex.new h1)
      have ht2 : SqT K (upd (upd H t (.tup [.int (100001 + o % 2), .str r0.2])) q1 (.lst [.ref t])) t [.int (100001 + o % 2), .str r0.2] := st_of (Ex.new h1 _ _ upd_same)
      refine ⟨l, q1, rs, [.ref t], rfl, rfl, e2 _ _ hL, upd_same, by show rs.length + 1 ≤ sizeLine; rw [sizeLine_eq]; omega, fun q hq => ?_⟩
      exact behind _ q t _ (e2.trans (Ex.new hq)) (fresh_back e2 hq) upd_same (ex_t (Ex.new hq) ht2) (by omega) (by omega) (.inr (by omega))
    refine ⟨_, rfl, by omega, by omega, fun D0 hD => lc_range (lo := 0) (n := (41 : Int).toNat) (fun i H' => Ex H H' ∧ ∃ acc ws', H' D0 = some (.lst acc) ∧ DpAll K H' acc (List.map dRow ws') ∧ ws'.length = i ∧ ∀ r ∈ ws', r.2 = r0.2 ∧ 0 ≤ r.1 ∧ r.1 ≤ 41) ⟨Ex.new hD, [], [], upd_same, .nil, rfl, (fun r hr => by cases hr)⟩ ?_ ?_⟩
    · rintro i H1 hi ⟨e1, acc, ws', hg, hd1, hl1, ok1⟩
      have la : acc.length = i := by rw [dps_len hd1, List.length_map, hl1]
      have hi' : i < 41 := hi
      refine ⟨rfl, _, rfl, _, rfl, l, _, _, _, rfl, rfl, ex_l e1 hl, atI_nat (j := 0) hy0, t0, _, _, _, rfl, rfl, ex_t e1 ht0, atI_nat (j := 1) rfl, by show 2 ≤ sizeLine; decide, fun t2 ht2 => ?_⟩
      have e2 : Ex H1 (upd H1 t2 (.tup [.int (0 + (i : Int)), .str r0.2])) := Ex.new ht2
      have nw : Dp K (upd H1 t2 (.tup [.int (0 + (i : Int)), .str r0.2])) (.ref t2) (dRow (0 + (i : Int), r0.2)) := .tup (st_of upd_same) (.cons (.int _) (.cons (.str _) .nil))
      refine ⟨acc, e2 _ _ hg, sz_lt (by omega), (e1.trans e2).mut hD, acc ++ [.ref t2], ws' ++ [(0 + (i : Int), r0.2)], upd_same, ?_, by rw [List.length_append, hl1]; rfl, fun r hr => ?_⟩
      · refine dps_exT (exT_mut (e2 _ _ hg)) ?_ (frozen_rows _)
        rw [List.map_append]
        exact dps_app (dps_ex e2 hd1) (dps_one nw)
      · rcases List.mem_append.mp hr with z | z
        · exact ok1 r z
        · rw [List.mem_singleton.mp z]
          exact ⟨rfl, by show 0 ≤ 0 + (i : Int); omega, by show 0 + (i : Int) ≤ 41; omega⟩
    · rintro H1 ⟨e1, acc, ws', hg, hd1, hl1, ok1⟩
      have hl1 : ws'.length = 41 := hl1
      refine k H1 D0 acc ws' e1 hD hg hd1 ⟨by omega, fun r hr => ?_⟩ (fun r hr => ?_) (fun R => ?_) (by omega)
      · have z := ok1 r hr
        exact ⟨by omega, by rw [z.1]; exact (tm.2 r0 rin0).2⟩
      · rw [(ok1 r hr).1]; exact W.win r0 rin0
      · have z := R.2.1
        rw [List.length_map, hl1] at z
        exact absurd z (by decide)
end
end EV

set_option Elab.async false
set_option linter.all false
set_option maxRecDepth 100000
set_option maxHeartbeats 4000000
namespace EV
open PySem PySem.Spec PyProof.Rows L2 EvS Evl
def spLaw (K : PySem.W.Frag) : Sp := fun vs H Q _ => ∃ (p : Addr) (ns : List Int), vs = [.ref p] ∧ SqL K H p (ns.map V.int) ∧ ∀ H', Q (.bl true) H'
theorem dps_set {K : PySem.W.Frag} {H : Hp} : ∀ {vs : List V} {ds : List PyData} {v : V} {d : PyData} (i : Nat), DpAll K H vs ds → Dp K H v d → DpAll K H (vs.set i v) (ds.set i d)
  | _, _, _, _, _, .nil, _ => .nil
  | _, _, _, _, 0, .cons _ r, h => .cons h r
  | _, _, _, _, i + 1, .cons a r, h => .cons a (dps_set i r h)
theorem sh_st {z : Str} {n : Nat} (h : PyData.strOk z = true) : Sh (n + 1) (.str z) := ⟨by simp only [PyData.canLay0]; exact h, by simp only [PyData.depth]; omega⟩
theorem sh_none {n : Nat} : Sh (n + 1) .none := ⟨by simp only [PyData.canLay0], by simp only [PyData.depth]; omega⟩
theorem sh_two {d e : PyData} (h1 : Sh 4 d) (h2 : Sh 4 e) : Sh 5 (.tuple [d, e]) := sh_tup (n := 4) fun x hx => by
  rcases List.mem_cons.mp hx with h | h
  · rw [h]; exact h1
  · rw [List.mem_singleton.mp h]; exact h2
theorem sh_rows {ws : List (Int × Str)} (h : ∀ r ∈ ws, PyData.strOk r.2 = true) : Sh 6 (.list (ws.map dRow)) := sh_lst (n := 5) fun x hx => by
  obtain ⟨r, hr, rfl⟩ := List.mem_map.mp hx
  exact sh_two (sh_int _ _) (sh_st (h r hr))
theorem odd_wind : isName ("Wind" : Str) = false := by decide +kernel
theorem strange_at {D : LandD} {ws : List (Int × Str)} {i : Nat} {m : Int} (ok : LandOk D) (h : ∀ r ∈ ws, r.2 ∈ D.ws) : strange D (ws.take i ++ (m, ("Wind" : Str)) :: ws.drop (i + 1)) = some "Wind" := by
  have no : ("Wind" : Str) ∉ D.ws := fun z => by
    have := ok.gw.1 _ z
    rw [odd_wind] at this
    cases this
  have none_ := strange_none (D := D) (ws := ws.take i) fun r hr => h r (List.mem_of_mem_take hr)
  unfold strange at *
  rw [List.map_append, List.find?_append, none_, List.map_cons, List.find?_cons]
  simp [no]
/-- forty rows -/
theorem forty {D : LandD} {ls : List (Int × Str)} {c : Int} {z : Str} (c1 : 1 ≤ c) (c9 : c ≤ 9) (hm : ls.map (·.1) = (List.range 40).map fun (k : Nat) => (k : Int) * c) (hw : ∀ r ∈ ls, r.2 ∈ D.ws) (hz : z ∈ D.ws) : WG D (ls.set 39 (100000, z)) := by
  have len : ls.length = 40 := by
    have z := congrArg List.length hm
    rw [List.length_map, List.length_map, List.length_range] at z
    exact z
  have mm : (ls.set 39 (100000, z)).map (·.1) = ((List.range 40).map fun (k : Nat) => (k : Int) * c).set 39 100000 := by
    rw [List.map_set, hm]
  have at_ : ∀ i, i < 39 → ((ls.set 39 (100000, z)).map (·.1)).getD i 0 = (i : Int) * c := fun i hi => by
    rw [mm, List.getD_eq_getElem?_getD, List.getElem?_set_ne (by omega), List.getElem?_map, List.getElem?_range (by omega)]
    rfl
  have at9 : ((ls.set 39 (100000, z)).map (·.1)).getD 39 0 = 100000 := by
    rw [mm, List.getD_eq_getElem?_getD, List.getElem?_set_self (by simp)]
    rfl
  have lm : ((ls.set 39 (100000, z)).map (·.1)).length = 40 := by rw [List.length_map, List.length_set, len]
  refine ⟨⟨by omega, by omega, by rw [at_ 0 (by decide)]; exact Int.zero_mul c, fun i hi => ?_, by rw [lm, at9]; decide⟩, fun r hr => ?_, fun r hr => ?_⟩
  · by_cases h : i = 38
    · rw [h, at_ 38 (by decide), at9]
      show 38 * c < 100000
      omega
    · rw [at_ i (by omega), at_ (i + 1) (by omega)]
      have : ((i + 1 : Nat) : Int) * c = (i : Int) * c + c := by rw [Int.natCast_add, Int.add_mul]; simp
      omega
  · rcases List.mem_or_eq_of_mem_set hr with h | h
    · exact hw r h
    · rw [h]; exact hz
  · rcases List.mem_or_eq_of_mem_set hr with h | h
    · have : r.1 ∈ ls.map (·.1) := List.mem_map.mpr ⟨r, h, rfl⟩
      rw [hm] at this
      obtain ⟨k, hk, e⟩ := List.mem_map.mp this
      have hk := List.mem_range.mp hk
      have e : (k : Int) * c = r.1 := e
      have g0 : 0 ≤ (k : Int) * c := Int.mul_nonneg (by omega) (by omega)
      have g1 : (k : Int) * c ≤ 39 * c := Int.mul_le_mul_of_nonneg_right (by omega) (by omega)
      omega
    · rw [h]; exact ⟨by show (0 : Int) ≤ 100000; decide, Int.le_refl _⟩
section
variable {P : Program} {w : World} {K : PySem.W.Frag} {mg : Str → Option Value} {base : Heap} {a : Ad}
theorem G_law (T : Txt K mg a) (hP : PF P) : FnOk P w K mg base CX0 9 a.f_law a.d_law ["script"] (spLaw K) := by
  refine T.F_law.ok sc_law (fun vs H Q E h => ?_) (fun cdv A outer s H vs Q E hr h => ?_)
  · obtain ⟨p, ns, rfl, _⟩ := h
    rfl
  · obtain ⟨p, ns, rfl, hS, k⟩ := h
    refine ⟨_, (pss_cons (ps_set (i := 1) sc_law.nd rfl (Or.inl rfl) (pe_call (G__law_numbers T) (hr.mono (by decide)) (by rfl) T.g__law_numbers T.k__law_numbers T.B__law_numbers .nil pass0 (pa_cons (pv 0) (pa_cons pe_int pa_nil))))
      (pss_cons (ps_set (i := 2) sc_law.nd rfl (Or.inl rfl) (pe_call (G__law_parts T) (hr.mono (by decide)) (by rfl) T.g__law_parts T.k__law_parts T.B__law_parts .nil pass0 (pa_cons (pv 1) (pa_cons pe_int pa_nil))))
      (pss_cons (ps_set (i := 3) sc_law.nd rfl (Or.inl rfl) (pe_call (G__law_made T) (hr.mono (by decide)) (by rfl) T.g__law_made T.k__law_made T.B__law_made .nil pass0 (pa_cons (pv 2) pa_nil)))
      (pss_cons (ps_set (i := 4) sc_law.nd rfl (Or.inl rfl) (pe_call (G__law_weather T) (hr.mono (by decide)) (by rfl) T.g__law_weather T.k__law_weather T.B__law_weather .nil pass0 (pa_cons (pv 2) (pa_cons (pv 1) (pa_cons pe_int pa_nil)))))
      (pss_cons (ps_for PassesOwn.never rfl (pi_range1 (by rfl) T.z_range (pa_cons (pe_op op_add (pe_ix ix_tup (pe_ix ix_list (pv 4) (pe_un un_neg pe_int) (fun _ _ => rfl)) pe_int (fun _ _ => rfl)) pe_int) pa_nil)) (pg_name (i := 5) sc_law.nd rfl (Or.inl rfl)) (pss_one (ps_if (pt_cmpR op_ne (pe_call (G_wind_at T hP) (hr.mono (by decide)) (by rfl) T.g_wind_at T.k_wind_at T.B_wind_at .nil passL (pa_cons (pv 3) (pa_cons (pe_callTy call_lstK (by rfl) T.z_list (by decide +kernel) (pa_cons (pv 4) pa_nil)) (pa_cons (pv 5) pa_nil)))) (pe_ix ix_tup (pe_ix ix_list (pv 2) pe_int (fun _ _ => rfl)) (pe_call (G__law_wind T) (hr.mono (by decide)) (by rfl) T.g__law_wind T.k__law_wind T.B__law_wind .nil pass0 (pa_cons (pv 2) (pa_cons (pv 4) (pa_cons (pv 5) pa_nil)))) (fun _ _ => rfl)) (nomark _)) (pss_one (ps_ret pe_bl)) pss_nil)))
      (pss_cons (ps_set (i := 6) sc_law.nd rfl (Or.inl rfl) (pe_lst pa_nil))
      (pss_cons (ps_for PassesOwn.never rfl (pi_range1 (by rfl) T.z_range (pa_cons pe_int pa_nil)) (pg_name (i := 7) sc_law.nd rfl (Or.inl rfl)) (pss_one (ps_expr (pe_bm PySem.F.plainAttrs_list PySem.F.slot_list_append PySem.F.type_list_append mt_append (pv 6) (pa_cons (pe_tup (pa_cons (pe_op op_mul (pv 7) (pe_op op_add pe_int (pe_op op_mod (pe_callTy call_int1 (by rfl) T.z_int (by decide +kernel) (pa_cons (pe_ix ix_list (pv 1) pe_int (fun _ _ => rfl)) pa_nil)) pe_int))) (pa_cons (pe_ix ix_tup (pe_ix ix_list (pv 2) pe_int (fun _ _ => rfl)) (pe_op op_modN (pe_callTy call_int1 (by rfl) T.z_int (by decide +kernel) (pa_cons (pe_op op_add (pe_ix ix_list (pv 1) pe_int (fun _ _ => rfl)) (pv 7)) pa_nil)) (pe_callB call_len_seq (by rfl) T.z_len PySem.boot_len (pa_cons (pe_ix ix_list (pv 2) pe_int (fun _ _ => rfl)) pa_nil))) (fun _ _ => rfl)) pa_nil))) pa_nil)))))
      (pss_cons (ps_asg (pe_tup (pa_cons pe_int (pa_cons (pe_ix ix_tup (pe_ix ix_list (pv 6) pe_int (fun _ _ => rfl)) pe_int (fun _ _ => rfl)) pa_nil))) (pg_sub (pv 6) pe_int set_list))
      (pss_cons (ps_if (pt_cmpR op_notN (pe_call (G_check_weather T hP) (hr.mono (by decide)) (by rfl) T.g_check_weather T.k_check_weather T.B_check_weather .nil passL (pa_cons (pv 3) (pa_cons (pv 6) pa_nil))) pe_non (nomark _)) (pss_one (ps_ret pe_bl)) pss_nil)
      (pss_cons (ps_for PassesOwn.never rfl (pi_list (pe_lst (pa_cons pe_int (pa_cons (pe_op op_mod (pe_callTy call_int1 (by rfl) T.z_int (by decide +kernel) (pa_cons (pe_ix ix_list (pv 1) pe_int (fun _ _ => rfl)) pa_nil)) pe_int) (pa_cons pe_int (pa_cons pe_int (pa_cons pe_int pa_nil))))))) (pg_name (i := 5) sc_law.nd rfl (Or.inl rfl)) (pss_one (ps_if (pt_cmpR op_ne (pe_call (G_wind_at T hP) (hr.mono (by decide)) (by rfl) T.g_wind_at T.k_wind_at T.B_wind_at .nil passL (pa_cons (pv 3) (pa_cons (pe_callTy call_lstK (by rfl) T.z_list (by decide +kernel) (pa_cons (pv 6) pa_nil)) (pa_cons (pv 5) pa_nil)))) (pe_ix ix_tup (pe_ix ix_list (pv 2) pe_int (fun _ _ => rfl)) (pe_call (G__law_wind T) (hr.mono (by decide)) (by rfl) T.g__law_wind T.k__law_wind T.B__law_wind .nil pass0 (pa_cons (pv 2) (pa_cons (pv 6) (pa_cons (pv 5) pa_nil)))) (fun _ _ => rfl)) (nomark _)) (pss_one (ps_ret pe_bl)) pss_nil)))
      (pss_cons (ps_set (i := 8) sc_law.nd rfl (Or.inl rfl) (pe_lst (pa_cons (pe_tup (pa_cons pe_str (pa_cons pe_non pa_nil))) (pa_cons (pe_tup (pa_cons pe_str (pa_cons (pe_ix ix_tup (pe_ix ix_list (pv 2) pe_int (fun _ _ => rfl)) (pe_call (G__law_wind T) (hr.mono (by decide)) (by rfl) T.g__law_wind T.k__law_wind T.B__law_wind .nil pass0 (pa_cons (pv 2) (pa_cons (pv 4) (pa_cons pe_int pa_nil)))) (fun _ _ => rfl)) pa_nil))) pa_nil))))
      (pss_cut (ps_if (pt_cmpR op_eq (pe_op op_mod (pe_callTy call_int1 (by rfl) T.z_int (by decide +kernel) (pa_cons (pe_ix ix_list (pv 1) pe_int (fun _ _ => rfl)) pa_nil)) pe_int) pe_int (nomark _)) (pss_cons (ps_set (i := 4) sc_law.nd rfl (Or.inl rfl) (pe_call (G__law_spoilt T) (hr.mono (by decide)) (by rfl) T.g__law_spoilt T.k__law_spoilt T.B__law_spoilt .nil pass0 (pa_cons (pv 4) (pa_cons (pe_ix ix_list (pv 1) pe_int (fun _ _ => rfl)) (pa_cons (pe_ix ix_list (pv 1) pe_int (fun _ _ => rfl)) pa_nil)))))
        (pss_one (ps_set (i := 8) sc_law.nd rfl (Or.inl rfl) (pe_lst (pa_cons (pe_tup (pa_cons pe_str (pa_cons pe_str pa_nil))) (pa_cons (pe_tup (pa_cons pe_str (pa_cons pe_str pa_nil))) pa_nil)))))) pss_nil)
      (pss_cut (ps_if (PW.pt (pw_and (pt_cmpR op_eq (pe_op op_mod (pe_callTy call_int1 (by rfl) T.z_int (by decide +kernel) (pa_cons (pe_ix ix_list (pv 1) pe_int (fun _ _ => rfl)) pa_nil)) pe_int) pe_int (nomark _)) (pw_and1 (pt_cmpR op_gt (pe_callB call_len_seq (by rfl) T.z_len PySem.boot_len (pa_cons (pv 4) pa_nil)) pe_int (nomark _))))) (pss_cons (ps_set (i := 9) sc_law.nd rfl (Or.inl rfl) (pe_op op_modN (pe_callTy call_int1 (by rfl) T.z_int (by decide +kernel) (pa_cons (pe_ix ix_list (pv 1) pe_int (fun _ _ => rfl)) pa_nil)) (pe_callB call_len_seq (by rfl) T.z_len PySem.boot_len (pa_cons (pv 4) pa_nil))))
        (pss_cons (ps_set (i := 4) sc_law.nd rfl (Or.inl rfl) (pe_op op_cat (pe_op op_cat (pe_slice sl_list (pv 4) po_none (po_some (pv 9))) (pe_lst (pa_cons (pe_tup (pa_cons (pe_ix ix_tup (pe_ix ix_list (pv 4) (pv 9) (fun _ _ => rfl)) pe_int (fun _ _ => rfl)) (pa_cons pe_str pa_nil))) pa_nil))) (pe_slice sl_list (pv 4) (po_some (pe_op op_add (pv 9) pe_int)) po_none)))
        (pss_one (ps_set (i := 8) sc_law.nd rfl (Or.inl rfl) (pe_lst (pa_cons (pe_tup (pa_cons pe_str (pa_cons pe_str pa_nil))) (pa_cons (pe_tup (pa_cons pe_str (pa_cons pe_str pa_nil))) pa_nil))))))) pss_nil)
      (pss_cons (ps_set (i := 10) sc_law.nd rfl (Or.inl rfl) (pe_callTy call_lstK (by rfl) T.z_list (by decide +kernel) (pa_cons (pv 4) pa_nil)))
      (pss_cons (ps_for PassesOwn.never rfl (pi_range1 (by rfl) T.z_range (pa_cons pe_int pa_nil)) (pg_name (i := 11) sc_law.nd rfl (Or.inl rfl)) (pss_one (ps_if (PW.pt (pw_or (pt_cmpR (op_neD hr.units) (pe_call (G__law_told T hP) (hr.mono (by decide)) (by rfl) T.g__law_told T.k__law_told T.B__law_told .nil pass0 (pa_cons (pv 11) (pa_cons (pv 3) (pa_cons (pv 10) pa_nil)))) (pe_ix ix_list (pv 8) (pv 11) (fun _ _ => rfl)) (nomark _)) (pw_or1 (pt_cmpR (op_neD hr.units) (pv 10) (pv 4) (nomark _))))) (pss_one (ps_ret pe_bl)) pss_nil)))
      (pss_one (ps_ret pe_bl))))))))))))))))), ?_⟩
    refine ⟨_, rfl, p, ns, 90, rfl, hS, by decide, by decide, fun H1 l ks e1 hl hL hlen hs => ?_⟩
    have N : Nums K H1 l ks := ⟨SqL.of hL, hs, by omega, by omega⟩
    have get : ∀ {i : Int}, 0 ≤ i → i < 90 → ∃ n, 0 ≤ n ∧ n < 1009 ∧ atI (ks.map V.int) i = some (.int n) := fun {i} h0 h1 => by
      obtain ⟨n, hn, hat, _⟩ := num_in (ks := ks) (i := i) h0 (by omega)
      exact ⟨n, (hs n hn).1, (hs n hn).2, hat⟩
    refine ⟨_, rfl, l, ks, rfl, N, fun H3 q D wi pl li rows e2 hq hob PT ok sm0 => ?_⟩
    refine ⟨_, rfl, q, D, wi, pl, li, rows, rfl, PT, ok, fun H4 x e3 hx hland => ?_⟩
    refine ⟨_, rfl, _, rfl, q, l, D, wi, pl, li, rows, ks, rfl, PT.ex e3, ok, N.ex (e2.trans e3), fun H5 L rs ws e4 hL0 hW hd W l5 => ?_⟩
    replace N := N.ex ((e2.trans e3).trans e4)
    replace PT := PT.ex (e3.trans e4)
    replace hland := hland.ex e4
    clear e1 hl hL e2 hq hob e3 hx e4 hL0 hlen hs
    have len : rs.length = ws.length := by rw [dps_len hd, List.length_map]
    have pos := W.len.1
    obtain ⟨y9, hy9⟩ : ∃ y, rs[rs.length - 1]? = some y := ⟨_, List.getElem?_eq_getElem (by omega)⟩
    obtain ⟨t9, r9, rfl, ht9, hr9, rin9⟩ := row_at hd hy9
    have w9 := W.lo r9 rin9
    have says : ∀ {ws : List (Int × Str)} {H' : Hp} {Q : Hp → Prop} {E : XK}, WG D ws → (∀ H2, Ex H' H2 → Q H2) → Says a.X_UnknownName a.X_InvalidWeather D ws H' Q E := fun W' h =>
      ⟨fun z hz => absurd hz (by rw [strange_none W'.win]; exact fun z => nomatch z), fun _ bad => absurd W'.rows bad, fun _ _ H2 e => h H2 e⟩
    refine ⟨_, rfl, _, rfl, L, _, _, _, rfl, rfl, SqL.of hW, at_last hy9, t9, _, _, _, rfl, rfl, ht9, atI_nat (j := 0) rfl, _, _, rfl, rfl, _, rfl, by omega, by omega, for_range (n := (r9.1 + 3).toNat) (fun i σ H' => ∃ v5, σ = [some (.ref p), some (.ref l), some (.ref q), some (.ref x), some (.ref L), v5, none, none, none, none, none, none] ∧ Ex H5 H') ⟨none, rfl, Ex.refl _⟩ ?_ ?_⟩
    · rintro i σ H6 hi ⟨v5, rfl, e6⟩
      refine ⟨_, rfl, _, rfl, L, _, rfl, .inl (SqL.of (e6 _ _ hW)), fun l2 h2 => ?_⟩
      have e7 := e6.trans (Ex.new (o := .lst rs) h2)
      refine ⟨_, rfl, x, l2, D, rs, ws, _, rfl, hland.ex e7, SqL.of upd_same, dps_ex e7 hd, W.tame ok, says W fun H8 e8 => ?_⟩
      have e9 := e7.trans e8
      refine ⟨_, rfl, q, _, _, _, rfl, rfl, (PT.ex e9).ob, atI_nat (j := 0) rfl, _, rfl, _, rfl, _, rfl, q, L, D, wi, pl, li, rows, rs, ws, _, rfl, PT.ex e9, SqL.of (e9 _ _ hW), dps_ex e9 hd, W, fun H10 j e10 hj => ?_⟩
      have e11 := e9.trans e10
      refine ⟨wi, _, _, _, rfl, rfl, (PT.ex e11).wi, hj, rfl, _, rfl, ?_⟩
      rw [decide_eq_true rfl]
      exact ⟨_, rfl, e11⟩
    rintro σ H6 ⟨v5, rfl, e6⟩
    replace N := N.ex e6
    replace PT := PT.ex e6
    replace hland := hland.ex e6
    replace hd := dps_ex e6 hd
    replace hW := e6 _ _ hW
    clear e6 ht9
    -- the longest weather
    refine ⟨Nat.zero_le _, fun G hG => ?_⟩
    obtain ⟨n75, l75, u75, g75⟩ := get (i := 75) (by decide) (by decide)
    obtain ⟨n76, l76, u76, g76⟩ := get (i := 76) (by decide) (by decide)
    obtain ⟨n77, l77, u77, g77⟩ := get (i := 77) (by decide) (by decide)
    have c0 := Int.emod_nonneg n75 (show (9 : Int) ≠ 0 by decide)
    have c1 := Int.emod_lt_of_pos n75 (show (0 : Int) < 9 by decide)
    refine ⟨_, rfl, by omega, by omega, for_range (n := (40 : Int).toNat) (fun i σ H' => ∃ gs ls v7, σ = [some (.ref p), some (.ref l), some (.ref q), some (.ref x), some (.ref L), v5, some (.ref G), v7, none, none, none, none] ∧ Ex H6 H' ∧ H' G = some (.lst gs) ∧ DpAll K H' gs (List.map dRow ls) ∧ ls.map (·.1) = (List.range i).map (fun (k : Nat) => (k : Int) * (1 + n75 % 9)) ∧ ∀ r ∈ ls, r.2 ∈ D.ws) ?_ ?_ ?_⟩
    · exact ⟨[], [], none, rfl, Ex.new hG, upd_same, .nil, rfl, fun r hr => by cases hr⟩
    · rintro i σ H7 hi ⟨gs, ls, v7, rfl, e7, hg, hgd, hm, hw⟩
      have hi : i < 40 := hi
      have N7 := N.ex e7
      have PT7 := PT.ex e7
      have lg : gs.length = i := by
        have z := congrArg List.length hm
        rw [List.length_map, List.length_map, List.length_range] at z
        rw [dps_len hgd, List.length_map, z]
      obtain ⟨nz, z, zin, hz⟩ := wind_pick ok (n76 + (0 + (i : Int)))
      refine ⟨_, rfl, .inl ⟨rfl, _, SqL.of hg⟩, _, rfl, _, rfl, l, _, _, _, rfl, rfl, N7.at_, g75, .inl ⟨_, rfl, _, _, rfl, rfl, (by show (0 : Int) < 9; decide), _, _, rfl, rfl, _, _, rfl, rfl, .inl ⟨by omega, by omega⟩, _, rfl, q, _, _, _, rfl, rfl, PT7.ob, atI_nat (j := 0) rfl, _, rfl, l, _, _, _, rfl, rfl, N7.at_, g76, _, rfl, _, _, rfl, rfl, .inl ⟨_, rfl, _, rfl, q, _, _, _, rfl, rfl, PT7.ob, atI_nat (j := 0) rfl, wi, _, rfl, .inr PT7.wi, _, _, rfl, rfl, nz, wi, _, _, _, rfl, rfl, PT7.wi, hz, by show 2 ≤ sizeLine; decide, fun t ht => ?_⟩⟩⟩
      have e8 : Ex H7 (upd H7 t (.tup [.int ((0 + (i : Int)) * (1 + n75 % 9)), .str z])) := Ex.new ht
      have nw : Dp K (upd H7 t (.tup [.int ((0 + (i : Int)) * (1 + n75 % 9)), .str z])) (.ref t) (dRow ((0 + (i : Int)) * (1 + n75 % 9), z)) := .tup (st_of upd_same) (.cons (.int _) (.cons (.str _) .nil))
      refine ⟨G, gs, _, rfl, rfl, e8 _ _ hg, sz_lt (by omega), gs ++ [.ref t], ls ++ [((0 + (i : Int)) * (1 + n75 % 9), z)], _, rfl, (e7.trans e8).mut hG, upd_same, ?_, ?_, fun r hr => ?_⟩
      · refine dps_exT (exT_mut (e8 _ _ hg)) ?_ (frozen_rows _)
        rw [List.map_append]
        exact dps_app (dps_ex e8 hgd) (dps_one nw)
      · rw [List.map_append, hm, List.range_succ, List.map_append, Int.zero_add]
        rfl
      · rcases List.mem_append.mp hr with h | h
        · exact hw r h
        · rw [List.mem_singleton.mp h]; exact zin
    rintro σ H7 ⟨gs, ls, v7, rfl, e7, hg, hgd, hm, hw⟩
    have hm : ls.map (·.1) = (List.range 40).map (fun (k : Nat) => (k : Int) * (1 + n75 % 9)) := hm
    have lg : gs.length = 40 := by
      have z := congrArg List.length hm
      rw [List.length_map, List.length_map, List.length_range] at z
      rw [dps_len hgd, List.length_map, z]
    obtain ⟨y39, hy39⟩ : ∃ y, gs[39]? = some y := ⟨_, List.getElem?_eq_getElem (by omega)⟩
    obtain ⟨t39, r39, rfl, ht39, hr39, rin39⟩ := row_at hgd hy39
    have W2 := forty (D := D) (ls := ls) (c := 1 + n75 % 9) (by omega) (by omega) hm hw (hw r39 rin39)
    refine ⟨_, rfl, G, _, _, _, rfl, rfl, SqL.of hg, atI_nat (j := 39) hy39, t39, _, _, _, rfl, rfl, ht39, atI_nat (j := 1) rfl, by show 2 ≤ sizeLine; decide, fun t ht => ?_⟩
    have e8 : Ex H7 (upd H7 t (.tup [.int 100000, .str r39.2])) := Ex.new ht
    have nw : Dp K (upd H7 t (.tup [.int 100000, .str r39.2])) (.ref t) (dRow (100000, r39.2)) := .tup (st_of upd_same) (.cons (.int _) (.cons (.str _) .nil))
    refine ⟨_, rfl, G, gs, 39, 39, rfl, rfl, e8 _ _ hg, by rw [lg]; rfl, ?_⟩
    have e9 : Ex H6 (upd (upd H7 t (.tup [.int 100000, .str r39.2])) G (.lst (gs.set 39 (.ref t)))) := (e7.trans e8).mut hG
    have hg9 : (upd (upd H7 t (.tup [.int 100000, .str r39.2])) G (.lst (gs.set 39 (.ref t)))) G = some (.lst (gs.set 39 (.ref t))) := upd_same
    have hd9 : DpAll K (upd (upd H7 t (.tup [.int 100000, .str r39.2])) G (.lst (gs.set 39 (.ref t)))) (gs.set 39 (.ref t)) ((ls.set 39 (100000, r39.2)).map dRow) := by
      refine dps_exT (exT_mut (e8 _ _ hg)) ?_ (frozen_rows _)
      rw [List.map_set]
      exact dps_set 39 (dps_ex e8 hgd) nw
    generalize upd (upd H7 t (.tup [.int 100000, .str r39.2])) G (.lst (gs.set 39 (.ref t))) = H9 at e9 hg9 hd9
    generalize gs.set 39 (.ref t) = gs9 at hg9 hd9
    generalize ls.set 39 (100000, r39.2) = ls9 at hd9 W2
    clear e7 hg hgd hm hw lg hy39 ht39 hr39 rin39 e8 nw
    replace N := N.ex e9
    replace PT := PT.ex e9
    replace hland := hland.ex e9
    replace hd := dps_ex e9 hd
    replace hW := e9 _ _ hW
    refine ⟨_, rfl, _, rfl, x, G, D, gs9, ls9, rfl, hland, SqL.of hg9, hd9, W2.tame ok, says W2 fun H10 e10 => ⟨rfl, _, rfl, ?_⟩⟩
    rw [decide_eq_true rfl]
    replace N := N.ex e10
    replace PT := PT.ex e10
    replace hland := hland.ex e10
    replace hd := dps_ex e10 hd
    replace hW := e10 _ _ hW
    replace hg9 := e10 _ _ hg9
    replace hd9 := dps_ex e10 hd9
    refine ⟨_, rfl, l, _, _, _, rfl, rfl, N.at_, g77, .inl ⟨_, rfl, _, _, rfl, rfl, (by show (0 : Int) < 400; decide), by show 5 ≤ sizeLine; decide, fun M hM => ?_⟩⟩
    have eM : Ex H10 (upd H10 M (.lst [.int 0, .int (n77 % 400), .int 99999, .int 100000, .int 100009])) := Ex.new hM
    have hM1 : (upd H10 M (.lst [.int 0, .int (n77 % 400), .int 99999, .int 100000, .int 100009])) M = some (.lst [.int 0, .int (n77 % 400), .int 99999, .int 100000, .int 100009]) := upd_same
    generalize upd H10 M (.lst [.int 0, .int (n77 % 400), .int 99999, .int 100000, .int 100009]) = H11 at eM hM1
    refine ⟨M, rfl, ⟨_, SqL.of hM1⟩, for_list (K := K) (a := M) (xs := [.int 0, .int (n77 % 400), .int 99999, .int 100000, .int 100009]) (fun i σ H' => ∃ v5, σ = [some (.ref p), some (.ref l), some (.ref q), some (.ref x), some (.ref L), v5, some (.ref G), v7, none, none, none, none] ∧ Ex H11 H') ⟨v5, rfl, Ex.refl _⟩ (fun i σ H' _ z => by obtain ⟨_, _, e⟩ := z; exact SqL.of (e _ _ hM1)) ?_ ?_⟩
    · rintro i y σ H12 hy ⟨v5, rfl, e6m⟩
      have e6 := eM.trans e6m
      obtain ⟨m, rfl⟩ : ∃ m, y = .int m := by
        have z := List.mem_of_getElem? hy
        simp only [List.mem_cons, List.not_mem_nil, or_false] at z
        rcases z with z | z | z | z | z <;> exact ⟨_, z⟩
      refine ⟨_, rfl, _, rfl, G, _, rfl, .inl (SqL.of (e6 _ _ hg9)), fun l2 h2 => ?_⟩
      have e7 := e6.trans (Ex.new (o := .lst gs9) h2)
      refine ⟨_, rfl, x, l2, D, gs9, ls9, _, rfl, hland.ex e7, SqL.of upd_same, dps_ex e7 hd9, W2.tame ok, says W2 fun H8 e8 => ?_⟩
      have e9 := e7.trans e8
      refine ⟨_, rfl, q, _, _, _, rfl, rfl, (PT.ex e9).ob, atI_nat (j := 0) rfl, _, rfl, _, rfl, _, rfl, q, G, D, wi, pl, li, rows, gs9, ls9, _, rfl, PT.ex e9, SqL.of (e9 _ _ hg9), dps_ex e9 hd9, W2, fun H10 j e10 hj => ?_⟩
      have e11 := e9.trans e10
      refine ⟨wi, _, _, _, rfl, rfl, (PT.ex e11).wi, hj, rfl, _, rfl, ?_⟩
      rw [decide_eq_true rfl]
      exact ⟨_, rfl, e6m.trans ((Ex.new (o := .lst gs9) h2).trans (e8.trans e10))⟩
    rintro σ H12 ⟨v5', rfl, e6⟩
    replace e6 := eM.trans e6
    replace N := N.ex e6
    replace PT := PT.ex e6
    replace hland := hland.ex e6
    replace hd := dps_ex e6 hd
    replace hW := e6 _ _ hW
    clear e6 hg9 hd9 W2 hM1 eM e9 e10
    -- what is due
    refine ⟨by show 2 ≤ sizeLine; decide, fun t1 ht1 => ?_⟩
    have a1 : Ex H12 (upd H12 t1 (.tup [.str "told", .non])) := Ex.new ht1
    have d1 : Dp K (upd H12 t1 (.tup [.str "told", .non])) (.ref t1) (.tuple [.str "told", .none]) := .tup (st_of upd_same) (.cons (.str _) (.cons .non .nil))
    generalize upd H12 t1 (.tup [.str "told", .non]) = H13 at a1 d1
    refine ⟨_, rfl, q, _, _, _, rfl, rfl, (PT.ex a1).ob, atI_nat (j := 0) rfl, _, rfl, _, rfl, q, L, D, wi, pl, li, rows, rs, ws, 3, rfl, PT.ex a1, SqL.of (a1 _ _ hW), dps_ex a1 hd, W, fun H14 j a2 hj => ?_⟩
    have a12 := a1.trans a2
    refine ⟨wi, _, _, _, rfl, rfl, (PT.ex a12).wi, hj, by show 2 ≤ sizeLine; decide, fun t2 ht2 => ⟨by show 2 ≤ sizeLine; decide, fun du hdu => ?_⟩⟩
    have a3 : Ex H14 (upd (upd H14 t2 (.tup [.str "told", .str (windTo ws 3 ws.length)])) du (.lst [.ref t1, .ref t2])) := (Ex.new ht2).trans (Ex.new hdu)
    have d2 : Dp K (upd (upd H14 t2 (.tup [.str "told", .str (windTo ws 3 ws.length)])) du (.lst [.ref t1, .ref t2])) (.ref t2) (.tuple [.str "told", .str (windTo ws 3 ws.length)]) := .tup (st_of (Ex.new hdu _ _ upd_same)) (.cons (.str _) (.cons (.str _) .nil))
    have hdu1 : (upd (upd H14 t2 (.tup [.str "told", .str (windTo ws 3 ws.length)])) du (.lst [.ref t1, .ref t2])) du = some (.lst [.ref t1, .ref t2]) := upd_same
    generalize upd (upd H14 t2 (.tup [.str "told", .str (windTo ws 3 ws.length)])) du (.lst [.ref t1, .ref t2]) = H15 at a3 d2 hdu1
    replace d1 := dp_ex (a2.trans a3) d1
    replace a3 := a12.trans a3
    replace N := N.ex a3
    replace PT := PT.ex a3
    replace hland := hland.ex a3
    replace hd := dps_ex a3 hd
    replace hW := a3 _ _ hW
    have told : strange D ws = none := strange_none W.win
    have wok : PyData.strOk (windTo ws 3 ws.length) = true := by
      have hj' := atI_get hj
      obtain ⟨j', _, hj', _⟩ := hj'
      rw [List.getElem?_map] at hj'
      obtain ⟨z, hz, ez⟩ := Option.map_eq_some_iff.mp hj'
      injection ez with ez
      rw [← ez]
      exact name_strOk (ok.gw.1 _ (List.mem_of_getElem? hz))
    obtain ⟨n70, l70, u70, g70⟩ := get (i := 70) (by decide) (by decide)
    obtain ⟨n71, l71, u71, g71⟩ := get (i := 71) (by decide) (by decide)
    obtain ⟨n72, l72, u72, g72⟩ := get (i := 72) (by decide) (by decide)
    obtain ⟨n73, l73, u73, g73⟩ := get (i := 73) (by decide) (by decide)
    obtain ⟨n74, l74, u74, g74⟩ := get (i := 74) (by decide) (by decide)
    refine ⟨fun σ H' => ∃ (L' du' t1' t2' : Addr) (rs' : List V) (ws' : List (Int × Str)) (ds0 ds1 : List PyData), σ = [some (.ref p), some (.ref l), some (.ref q), some (.ref x), some (.ref L'), v5', some (.ref G), v7, some (.ref du'), none, none, none] ∧ Ex H15 H' ∧ H' L' = some (.lst rs') ∧ DpAll K H' rs' (ws'.map dRow) ∧ Tame ws' ∧ ws'.length ≤ 41 ∧ (∀ r ∈ ws', r.2 ∈ D.ws) ∧
      H' du' = some (.lst [.ref t1', .ref t2']) ∧ Dp K H' (.ref t1') (.tuple ds0) ∧ Dp K H' (.ref t2') (.tuple ds1) ∧ Told D ws' 0 ds0 ∧ Told D ws' 1 ds1 ∧ Sh 5 (.tuple ds0) ∧ Sh 5 (.tuple ds1), ?_, ?_⟩
    · refine ⟨_, rfl, l, _, _, _, rfl, rfl, N.at_, g70, .inl ⟨_, rfl, _, _, rfl, rfl, (by show (0 : Int) < 2; decide), rfl, _, rfl, ?_⟩⟩
      refine ite2 (fun _ => ?_) (fun _ => ?_)
      · refine ⟨_, rfl, _, rfl, l, _, _, _, rfl, rfl, N.at_, g71, _, rfl, l, _, _, _, rfl, rfl, N.at_, g72, L, D, rs, ws, n71, n72, rfl, l71, l72, ok, hW, hd, W, l5, fun H21 q2 rs' ws' e21 hq2 h2 hd2 tm2 win2 bad2 len2 => ?_⟩
        refine ⟨by show 2 ≤ sizeLine; decide, fun t3 ht3 => ⟨by show 2 ≤ sizeLine; decide, fun t4 ht4 => ⟨by show 2 ≤ sizeLine; decide, fun du2 hdu2 => ?_⟩⟩⟩
        have b1 : Ex H21 (upd H21 t3 (.tup [.str "weather", .str ""])) := Ex.new ht3
        have b2 := Ex.new (o := .tup [.str "weather", .str ""]) ht4
        have b3 := Ex.new (o := .lst [.ref t3, .ref t4]) hdu2
        have b := b1.trans (b2.trans b3)
        have td : ∀ wh, Told D ws' wh [.str "weather", .str ""] := fun wh => ⟨fun z hz => absurd hz (by rw [strange_none win2]; exact fun z => nomatch z), fun _ _ => rfl, fun _ g => absurd g bad2⟩
        have sh : Sh 5 (.tuple [.str "weather", .str ""]) := sh_two (sh_st (by decide +kernel)) (sh_st (by decide +kernel))
        exact ⟨q2, du2, t3, t4, rs', ws', _, _, rfl, e21.trans b, b _ _ h2, dps_ex b hd2, tm2, len2, win2, upd_same, .tup (st_of (b3 _ _ (b2 _ _ upd_same))) (.cons (.str _) (.cons (.str _) .nil)), .tup (st_of (b3 _ _ upd_same)) (.cons (.str _) (.cons (.str _) .nil)), td 0, td 1, sh, sh⟩
      · have td : ∀ wh ds, ds = [PyData.str "told", if wh = (0 : Int) then .none else .str (windTo ws 3 ws.length)] → Told D ws wh ds := fun wh ds e => ⟨fun z hz => absurd hz (by rw [told]; exact fun z => nomatch z), fun _ bad => absurd W.rows bad, fun _ _ => e⟩
        exact ⟨L, du, t1, t2, rs, ws, _, _, rfl, Ex.refl _, hW, hd, W.tame ok, by omega, W.win, hdu1, d1, d2, td 0 _ rfl, td 1 _ rfl, sh_two (sh_st (by decide +kernel)) sh_none, sh_two (sh_st (by decide +kernel)) (sh_st wok)⟩
    rintro σ H16 ⟨L', du', t1', t2', rs', ws', ds0, ds1, rfl, e16, hW', hd', tm', len', win', hdu', dp0, dp1, td0, td1, sh0, sh1⟩
    replace N := N.ex e16
    replace PT := PT.ex e16
    replace hland := hland.ex e16
    clear hd hW told d1 d2 hdu1 e16 a3 W pos hy9 hr9 rin9 w9 l5 len
    refine ⟨fun σ H' => ∃ (L' du' t1' t2' : Addr) (v9 : Option V) (rs' : List V) (ws' : List (Int × Str)) (ds0 ds1 : List PyData), σ = [some (.ref p), some (.ref l), some (.ref q), some (.ref x), some (.ref L'), v5', some (.ref G), v7, some (.ref du'), v9, none, none] ∧ Ex H16 H' ∧ H' L' = some (.lst rs') ∧ DpAll K H' rs' (ws'.map dRow) ∧ Tame ws' ∧ ws'.length ≤ 41 ∧ (∀ r ∈ ws', PyData.strOk r.2 = true) ∧
      H' du' = some (.lst [.ref t1', .ref t2']) ∧ Dp K H' (.ref t1') (.tuple ds0) ∧ Dp K H' (.ref t2') (.tuple ds1) ∧ Told D ws' 0 ds0 ∧ Told D ws' 1 ds1 ∧ Sh 5 (.tuple ds0) ∧ Sh 5 (.tuple ds1), ?_, ?_⟩
    · have sok : ∀ r ∈ ws', PyData.strOk r.2 = true := fun r hr => name_strOk (ok.gw.1 _ (win' r hr))
      have same := show _ from (⟨L', du', t1', t2', none, rs', ws', ds0, ds1, rfl, Ex.refl H16, hW', hd', tm', len', sok, hdu', dp0, dp1, td0, td1, sh0, sh1⟩ : ∃ (L2 du2 t3 t4 : Addr) (v9 : Option V) (rs2 : List V) (ws2 : List (Int × Str)) (ds2 ds3 : List PyData), [some (V.ref p), some (.ref l), some (.ref q), some (.ref x), some (.ref L'), v5', some (.ref G), v7, some (.ref du'), none, none, none] = [some (.ref p), some (.ref l), some (.ref q), some (.ref x), some (.ref L2), v5', some (.ref G), v7, some (.ref du2), v9, none, none] ∧ Ex H16 H16 ∧ H16 L2 = some (.lst rs2) ∧ DpAll K H16 rs2 (ws2.map dRow) ∧ Tame ws2 ∧ ws2.length ≤ 41 ∧ (∀ r ∈ ws2, PyData.strOk r.2 = true) ∧
        H16 du2 = some (.lst [.ref t3, .ref t4]) ∧ Dp K H16 (.ref t3) (.tuple ds2) ∧ Dp K H16 (.ref t4) (.tuple ds3) ∧ Told D ws2 0 ds2 ∧ Told D ws2 1 ds3 ∧ Sh 5 (.tuple ds2) ∧ Sh 5 (.tuple ds3))
      refine ⟨_, rfl, l, _, _, _, rfl, rfl, N.at_, g73, .inl ⟨_, rfl, _, _, rfl, rfl, (by show (0 : Int) < 3; decide), rfl, _, rfl, ite2 (fun _ => ?_) (fun _ => same)⟩⟩
      refine ⟨_, rfl, L', _, rfl, .inl (SqL.of hW'), _, _, rfl, rfl, _, rfl, ite2 (fun c => ?_) (fun _ => same)⟩
      have c := of_decide_eq_true c
      have len : rs'.length = ws'.length := by rw [dps_len hd', List.length_map]
      have p0 := Int.fmod_nonneg_of_pos n74 (b := ((rs'.length : Nat) : Int)) (by omega)
      have p1 := Int.fmod_lt_of_pos n74 (b := ((rs'.length : Nat) : Int)) (by omega)
      refine ⟨_, rfl, l, _, _, _, rfl, rfl, N.at_, g74, .inl ⟨_, rfl, _, rfl, L', _, rfl, .inl (SqL.of hW'), _, _, rfl, rfl, by omega, ?_⟩⟩
      obtain ⟨pl, epl⟩ : ∃ pl : Nat, n74.fmod ((rs'.length : Nat) : Int) = (pl : Int) := ⟨_, (Int.toNat_of_nonneg p0).symm⟩
      have plt : pl < ws'.length := by omega
      have cl : ∀ xs : List V, cutV xs none (some (n74.fmod ((rs'.length : Nat) : Int))) = xs.take pl := fun xs => by rw [epl]; exact cut_to xs pl
      have cr : ∀ xs : List V, cutV xs (some (n74.fmod ((rs'.length : Nat) : Int) + 1)) none = xs.drop (pl + 1) := fun xs => by rw [epl]; exact cut_from xs (pl + 1)
      obtain ⟨yp, hyp⟩ : ∃ y, rs'[pl]? = some y := ⟨_, List.getElem?_eq_getElem (by omega)⟩
      obtain ⟨tp, rp, rfl, htp, hrp, rpin⟩ := row_at hd' hyp
      refine ⟨_, rfl, _, rfl, _, rfl, L', _, rfl, SqL.of hW', fun u1 h1 => ?_⟩
      rw [cl]
      have b1 : Ex H16 (upd H16 u1 (.lst (rs'.take pl))) := Ex.new h1
      refine ⟨_, rfl, _, rfl, L', _, _, _, rfl, rfl, SqL.of (b1 _ _ hW'), by rw [epl]; exact atI_nat hyp, tp, _, _, _, rfl, rfl, ex_t b1 htp, atI_nat (j := 0) rfl, by show 2 ≤ sizeLine; decide, fun t ht => ⟨by show 1 ≤ sizeLine; decide, fun u2 h2 => ?_⟩⟩
      have b2 := Ex.new (o := .tup [.int rp.1, .str "Wind"]) ht
      have b3 := Ex.new (o := .lst [.ref t]) h2
      have g1 := b3 _ _ (b2 _ _ (upd_same (H := H16) (a := u1) (o := .lst (rs'.take pl))))
      have b4 := (b1.trans b2).trans b3
      have g2 := b3 _ _ (upd_same (H := upd H16 u1 (.lst (rs'.take pl))) (a := t) (o := .tup [.int rp.1, .str "Wind"]))
      refine ⟨u1, u2, _, _, rfl, rfl, g1, upd_same, by rw [List.length_take, sizeLine_eq]; show _ + 1 ≤ _; omega, fun u3 h3 => ?_⟩
      have b5 := Ex.new (o := .lst (rs'.take pl ++ [.ref t])) h3
      have b6 := b4.trans b5
      have g3 := b5 _ _ g2
      refine ⟨_, rfl, _, rfl, _, _, rfl, rfl, _, rfl, L', _, rfl, SqL.of (b6 _ _ hW'), fun u4 h4 => ?_⟩
      rw [cr]
      have b7 := Ex.new (o := .lst (rs'.drop (pl + 1))) h4
      have g4 := b7 _ _ g3
      refine ⟨u3, u4, _, _, rfl, rfl, b7 _ _ upd_same, upd_same, by rw [List.length_append, List.length_take, List.length_drop, sizeLine_eq]; show _ + 1 + _ ≤ _; omega, fun u5 h5 => ?_⟩
      have b8 := Ex.new (o := .lst (rs'.take pl ++ [.ref t] ++ rs'.drop (pl + 1))) h5
      have g5 := b8 _ _ g4
      have b9 := b6.trans (b7.trans b8)
      have g6 := upd_same (H := upd (upd (upd (upd (upd H16 u1 (.lst (rs'.take pl))) t (.tup [.int rp.1, .str "Wind"])) u2 (.lst [.ref t])) u3 (.lst (rs'.take pl ++ [.ref t]))) u4 (.lst (rs'.drop (pl + 1)))) (a := u5) (o := .lst (rs'.take pl ++ [.ref t] ++ rs'.drop (pl + 1)))
      generalize upd (upd (upd (upd (upd (upd H16 u1 (.lst (rs'.take pl))) t (.tup [.int rp.1, .str "Wind"])) u2 (.lst [.ref t])) u3 (.lst (rs'.take pl ++ [.ref t]))) u4 (.lst (rs'.drop (pl + 1)))) u5 (.lst (rs'.take pl ++ [.ref t] ++ rs'.drop (pl + 1))) = H17 at b9 g5 g6
      refine ⟨by show 2 ≤ sizeLine; decide, fun t3 ht3 => ⟨by show 2 ≤ sizeLine; decide, fun t4 ht4 => ⟨by show 2 ≤ sizeLine; decide, fun du2 hdu2 => ?_⟩⟩⟩
      have k1 : Ex H17 (upd H17 t3 (.tup [.str "name", .str "Wind"])) := Ex.new ht3
      have k2 := Ex.new (o := .tup [.str "name", .str "Wind"]) ht4
      have k3 := Ex.new (o := .lst [.ref t3, .ref t4]) hdu2
      have kk := k1.trans (k2.trans k3)
      have st : strange D (ws'.take pl ++ (rp.1, ("Wind" : Str)) :: ws'.drop (pl + 1)) = some "Wind" := strange_at ok win'
      have td : ∀ wh, Told D (ws'.take pl ++ (rp.1, ("Wind" : Str)) :: ws'.drop (pl + 1)) wh [.str "name", .str "Wind"] := fun wh => ⟨fun z hz => by rw [st] at hz; rw [Option.some.inj hz], fun z => absurd z (by rw [st]; exact fun z => nomatch z), fun z => absurd z (by rw [st]; exact fun z => nomatch z)⟩
      have sh : Sh 5 (.tuple [.str "name", .str "Wind"]) := sh_two (sh_st (by decide +kernel)) (sh_st (by decide +kernel))
      have lw : (ws'.take pl ++ (rp.1, ("Wind" : Str)) :: ws'.drop (pl + 1)).length = ws'.length := by rw [List.length_append, List.length_take, List.length_cons, List.length_drop]; omega
      have mem : ∀ r ∈ ws'.take pl ++ (rp.1, ("Wind" : Str)) :: ws'.drop (pl + 1), r ∈ ws' ∨ r = (rp.1, ("Wind" : Str)) := fun r hr => by
        rcases List.mem_append.mp hr with z | z
        · exact .inl (List.mem_of_mem_take z)
        · rcases List.mem_cons.mp z with z | z
          · exact .inr z
          · exact .inl (List.mem_of_mem_drop z)
      refine ⟨u5, du2, t3, t4, _, rs'.take pl ++ [.ref t] ++ rs'.drop (pl + 1), ws'.take pl ++ (rp.1, ("Wind" : Str)) :: ws'.drop (pl + 1), _, _, rfl, b9.trans kk, kk _ _ g6, ?_, ⟨by rw [lw]; exact tm'.1, fun r hr => ?_⟩, by rw [lw]; exact len', fun r hr => ?_, upd_same, .tup (st_of (k3 _ _ (k2 _ _ upd_same))) (.cons (.str _) (.cons (.str _) .nil)), .tup (st_of (k3 _ _ upd_same)) (.cons (.str _) (.cons (.str _) .nil)), td 0, td 1, sh, sh⟩
      · rw [List.map_append, List.map_cons, List.map_take, List.map_drop, List.append_assoc]
        refine dps_app (dps_take _ (dps_ex (b9.trans kk) hd')) (.cons ?_ (dps_drop _ (dps_ex (b9.trans kk) hd')))
        exact .tup (st_of (kk _ _ g5)) (.cons (.int _) (.cons (.str _) .nil))
      · rcases mem r hr with z | z
        · exact tm'.2 r z
        · rw [z]
          exact ⟨(tm'.2 rp rpin).1, by show ("Wind" : Str).length ≤ 1000; decide +kernel⟩
      · rcases mem r hr with z | z
        · exact sok r z
        · rw [z]
          show PyData.strOk "Wind" = true
          decide +kernel
    rintro σ H17 ⟨L2, du2, t3, t4, v9, rs2, ws2, ds2, ds3, rfl, e17, hW2, hd2, tm2, len2, sok2, hdu2, dp2, dp3, td2, td3, sh2, sh3⟩
    replace N := N.ex e17
    replace hland := hland.ex e17
    clear hW' hd' hdu' dp0 dp1
    refine ⟨_, rfl, L2, _, rfl, .inl (SqL.of hW2), fun hh h1 => ?_⟩
    have c1 : Ex H17 (upd H17 hh (.lst rs2)) := Ex.new h1
    have hh1 : (upd H17 hh (.lst rs2)) hh = some (.lst rs2) := upd_same
    generalize upd H17 hh (.lst rs2) = H18 at c1 hh1
    refine ⟨_, rfl, by omega, by omega, for_range (n := (2 : Int).toNat) (fun i σ H' => ∃ v11, σ = [some (.ref p), some (.ref l), some (.ref q), some (.ref x), some (.ref L2), v5', some (.ref G), v7, some (.ref du2), v9, some (.ref hh), v11] ∧ Ex H18 H') ⟨none, rfl, Ex.refl _⟩ ?_ ?_⟩
    · rintro i σ H19 hi ⟨v11, rfl, e19⟩
      have hi : i < 2 := hi
      have e1 := c1.trans e19
      have pick : ∃ (t : Addr) (ds : List PyData), atI [V.ref t3, .ref t4] (0 + (i : Int)) = some (.ref t) ∧ Dp K H17 (.ref t) (.tuple ds) ∧ Told D ws2 (0 + (i : Int)) ds ∧ Sh 5 (.tuple ds) := by
        rcases (show i = 0 ∨ i = 1 by omega) with rfl | rfl
        · exact ⟨t3, ds2, rfl, dp2, td2, sh2⟩
        · exact ⟨t4, ds3, rfl, dp3, td3, sh3⟩
      obtain ⟨t5, ds, at5, dp5, td5, sh5⟩ := pick
      refine ⟨_, rfl, _, rfl, _, rfl, x, hh, D, rs2, ws2, _, ds, rfl, by omega, hland.ex e1, SqL.of (e19 _ _ hh1), dps_ex e1 hd2, tm2, td5, fun H20 t e20 dt => ?_⟩
      have e2 := e1.trans e20
      refine ⟨_, rfl, _, rfl, du2, _, _, _, rfl, rfl, SqL.of (e2 _ _ hdu2), at5, .tuple ds, .tuple ds, dt, dp_ex e2 dp5, sh_shaped sh5 (by decide), sh_shaped sh5 (by decide), _, rfl, ?_⟩
      rw [eqv_self (sh_shaped sh5 (by decide))]
      refine ⟨_, rfl, _, rfl, .list (ws2.map dRow), .list (ws2.map dRow), .lst (SqL.of (e20 _ _ (e19 _ _ hh1))) (dps_ex e2 hd2), .lst (SqL.of (e2 _ _ hW2)) (dps_ex e2 hd2), sh_shaped (sh_rows sok2) (by decide), sh_shaped (sh_rows sok2) (by decide), _, rfl, ?_⟩
      rw [eqv_self (sh_shaped (sh_rows sok2) (by decide))]
      exact ⟨_, rfl, e19.trans e20⟩
    rintro σ H19 ⟨v11, rfl, e19⟩
    exact k _
end
end EV

set_option Elab.async false
set_option linter.all false
set_option maxRecDepth 100000
set_option maxHeartbeats 4000000
namespace EV
open PySem PySem.Spec PyProof.Rows L2 EvS Evl
theorem all_mk {l : PySem.W.OpenLaw} {w : World} {K : PySem.W.Frag} {h : Heap} {mg : Str → Option Value} {fa C tl te pr D f_check_weather f_check_winds f_check_rows f_wind_at f_is_name f__check_count f__check_names f__check_ends f__as_bounds f__as_link f__as_path f__check_single_paths f_init f_link_names f_check_wind f__law_row f__law_numbers f__law_names f__law_parts f__law_made f__law_weather f__law_wind f__law_told f__law_spoilt f_law X_EveryfireError X_InvalidWeather X_UnknownName f_UnknownName cc_UnknownName cd_UnknownName N_UnknownName : Addr} (X : K.In h) (G : h.Ns mainGlobals mg) (hfa : mg "law" = some (.ref fa))
    {od_check_weather an_check_weather od_check_winds an_check_winds od_check_rows an_check_rows od_wind_at an_wind_at od_is_name an_is_name od__check_count an__check_count od__check_names an__check_names od__check_ends an__check_ends od__as_bounds an__as_bounds od__as_link an__as_link od__as_path an__as_path od__check_single_paths an__check_single_paths od_init an_init od_link_names an_link_names od_check_wind an_check_wind od__law_row an__law_row od__law_numbers an__law_numbers od__law_names an__law_names od__law_parts an__law_parts od__law_made an__law_made od__law_weather an__law_weather od__law_wind an__law_wind od__law_told an__law_told od__law_spoilt an__law_spoilt od_law an_law dd_tl dd_te : Option Addr} {sl_check_weather sl_check_winds sl_check_rows sl_wind_at sl_is_name sl__check_count sl__check_names sl__check_ends sl__as_bounds sl__as_link sl__as_path sl__check_single_paths sl_init sl_link_names sl_check_wind sl__law_row sl__law_numbers sl__law_names sl__law_parts sl__law_made sl__law_weather sl__law_wind sl__law_told sl__law_spoilt sl_law sl_tl sl_te : Array (Option Value)} {oc_check_weather kV_check_weather dc_check_weather pm_check_weather cd_check_weather ct_check_weather oc_check_winds kV_check_winds dc_check_winds pm_check_winds cd_check_winds ct_check_winds oc_check_rows kV_check_rows dc_check_rows pm_check_rows cd_check_rows ct_check_rows oc_wind_at kV_wind_at dc_wind_at pm_wind_at cd_wind_at ct_wind_at oc_is_name kV_is_name dc_is_name pm_is_name cd_is_name ct_is_name oc__check_count kV__check_count dc__check_count pm__check_count cd__check_count ct__check_count oc__check_names kV__check_names dc__check_names pm__check_names cd__check_names ct__check_names oc__check_ends kV__check_ends dc__check_ends pm__check_ends cd__check_ends ct__check_ends oc__as_bounds kV__as_bounds dc__as_bounds pm__as_bounds cd__as_bounds ct__as_bounds oc__as_link kV__as_link dc__as_link pm__as_link cd__as_link ct__as_link oc__as_path kV__as_path dc__as_path pm__as_path cd__as_path ct__as_path oc__check_single_paths kV__check_single_paths dc__check_single_paths pm__check_single_paths cd__check_single_paths ct__check_single_paths oc_init dc_init pm_init cd_init ct_init oc_link_names kV_link_names dc_link_names pm_link_names cd_link_names ct_link_names oc_check_wind kV_check_wind dc_check_wind pm_check_wind cd_check_wind ct_check_wind oc__law_row kV__law_row dc__law_row pm__law_row cd__law_row ct__law_row oc__law_numbers kV__law_numbers dc__law_numbers pm__law_numbers cd__law_numbers ct__law_numbers oc__law_names kV__law_names dc__law_names pm__law_names cd__law_names ct__law_names oc__law_parts kV__law_parts dc__law_parts pm__law_parts cd__law_parts ct__law_parts oc__law_made kV__law_made dc__law_made pm__law_made cd__law_made ct__law_made oc__law_weather kV__law_weather dc__law_weather pm__law_weather cd__law_weather ct__law_weather oc__law_wind kV__law_wind dc__law_wind pm__law_wind cd__law_wind ct__law_wind oc__law_told kV__law_told dc__law_told pm__law_told cd__law_told ct__law_told oc__law_spoilt kV__law_spoilt dc__law_spoilt pm__law_spoilt cd__law_spoilt ct__law_spoilt oc_law kV_law dc_law pm_law cd_law ct_law : Value} {n_tl n_te : Nat} {rest_pr : List Value} {t_DIGITS t_LAST_CHANGE t_LETTERS t_LONGEST_NAME t_MOST_LINKS t_MOST_MINUTES t_MOST_PATHS t_MOST_PLACES t_MOST_ROWS t_MOST_WINDS : Tok} {nm_UnknownName q_UnknownName : Str} {bs_UnknownName bm_UnknownName sub_UnknownName : List Value} {sn_UnknownName : List Str} {ab_UnknownName : Bool} {col_UnknownName : Option Bool} {dd_UnknownName : Option Addr} {k0_UnknownName k1_UnknownName k2_UnknownName k3_UnknownName k5_UnknownName : Option Value} {oc_f_UnknownName kV_UnknownName dc_UnknownName pm_UnknownName ct_UnknownName : Value} {od_f_UnknownName an_UnknownName : Option Addr} {sl_f_UnknownName : Array (Option Value)} {ccl_UnknownName : Value} {cdd_UnknownName : Option Addr} {cvs_UnknownName : Array Value} {ccs_UnknownName : Array (Option Value)} {tf_UnknownName : Tok} {cl_UnknownName : Value} {cld_UnknownName : Option Addr} {csl_UnknownName : Array (Option Value)}
    (aC : PySem.W.nsIn K mainGlobals "Land" = some (some (.ref C)))
    (a_check_weather : PySem.W.nsIn K mainGlobals "check_weather" = some (some (.ref f_check_weather)))
    (l_check_weather : K.lookup f_check_weather = some ⟨oc_check_weather, od_check_weather, .func (PySem.W.fnOf "check_weather" "check_weather" (defArgs s_check_weather) (defBody s_check_weather) (defScope s_check_weather) .none kV_check_weather dc_check_weather pm_check_weather an_check_weather cd_check_weather ct_check_weather), sl_check_weather⟩)
    (c_check_weather : PySem.W.codeIn K cd_check_weather "check_weather" = true)
    (k_check_weather : PySem.W.keepIn K (.ref f_check_weather) = true)
    (a_check_winds : PySem.W.nsIn K mainGlobals "check_winds" = some (some (.ref f_check_winds)))
    (l_check_winds : K.lookup f_check_winds = some ⟨oc_check_winds, od_check_winds, .func (PySem.W.fnOf "check_winds" "check_winds" (defArgs s_check_winds) (defBody s_check_winds) (defScope s_check_winds) .none kV_check_winds dc_check_winds pm_check_winds an_check_winds cd_check_winds ct_check_winds), sl_check_winds⟩)
    (c_check_winds : PySem.W.codeIn K cd_check_winds "check_winds" = true)
    (k_check_winds : PySem.W.keepIn K (.ref f_check_winds) = true)
    (a_check_rows : PySem.W.nsIn K mainGlobals "check_rows" = some (some (.ref f_check_rows)))
    (l_check_rows : K.lookup f_check_rows = some ⟨oc_check_rows, od_check_rows, .func (PySem.W.fnOf "check_rows" "check_rows" (defArgs s_check_rows) (defBody s_check_rows) (defScope s_check_rows) .none kV_check_rows dc_check_rows pm_check_rows an_check_rows cd_check_rows ct_check_rows), sl_check_rows⟩)
    (c_check_rows : PySem.W.codeIn K cd_check_rows "check_rows" = true)
    (k_check_rows : PySem.W.keepIn K (.ref f_check_rows) = true)
    (a_wind_at : PySem.W.nsIn K mainGlobals "wind_at" = some (some (.ref f_wind_at)))
    (l_wind_at : K.lookup f_wind_at = some ⟨oc_wind_at, od_wind_at, .func (PySem.W.fnOf "wind_at" "wind_at" (defArgs s_wind_at) (defBody s_wind_at) (defScope s_wind_at) .none kV_wind_at dc_wind_at pm_wind_at an_wind_at cd_wind_at ct_wind_at), sl_wind_at⟩)
    (c_wind_at : PySem.W.codeIn K cd_wind_at "wind_at" = true)
    (k_wind_at : PySem.W.keepIn K (.ref f_wind_at) = true)
    (a_is_name : PySem.W.nsIn K mainGlobals "is_name" = some (some (.ref f_is_name)))
    (l_is_name : K.lookup f_is_name = some ⟨oc_is_name, od_is_name, .func (PySem.W.fnOf "is_name" "is_name" (defArgs s_is_name) (defBody s_is_name) (defScope s_is_name) .none kV_is_name dc_is_name pm_is_name an_is_name cd_is_name ct_is_name), sl_is_name⟩)
    (c_is_name : PySem.W.codeIn K cd_is_name "is_name" = true)
    (k_is_name : PySem.W.keepIn K (.ref f_is_name) = true)
    (a__check_count : PySem.W.nsIn K mainGlobals "_check_count" = some (some (.ref f__check_count)))
    (l__check_count : K.lookup f__check_count = some ⟨oc__check_count, od__check_count, .func (PySem.W.fnOf "_check_count" "_check_count" (defArgs s__check_count) (defBody s__check_count) (defScope s__check_count) .none kV__check_count dc__check_count pm__check_count an__check_count cd__check_count ct__check_count), sl__check_count⟩)
    (c__check_count : PySem.W.codeIn K cd__check_count "_check_count" = true)
    (k__check_count : PySem.W.keepIn K (.ref f__check_count) = true)
    (a__check_names : PySem.W.nsIn K mainGlobals "_check_names" = some (some (.ref f__check_names)))
    (l__check_names : K.lookup f__check_names = some ⟨oc__check_names, od__check_names, .func (PySem.W.fnOf "_check_names" "_check_names" (defArgs s__check_names) (defBody s__check_names) (defScope s__check_names) .none kV__check_names dc__check_names pm__check_names an__check_names cd__check_names ct__check_names), sl__check_names⟩)
    (c__check_names : PySem.W.codeIn K cd__check_names "_check_names" = true)
    (k__check_names : PySem.W.keepIn K (.ref f__check_names) = true)
    (a__check_ends : PySem.W.nsIn K mainGlobals "_check_ends" = some (some (.ref f__check_ends)))
    (l__check_ends : K.lookup f__check_ends = some ⟨oc__check_ends, od__check_ends, .func (PySem.W.fnOf "_check_ends" "_check_ends" (defArgs s__check_ends) (defBody s__check_ends) (defScope s__check_ends) .none kV__check_ends dc__check_ends pm__check_ends an__check_ends cd__check_ends ct__check_ends), sl__check_ends⟩)
    (c__check_ends : PySem.W.codeIn K cd__check_ends "_check_ends" = true)
    (k__check_ends : PySem.W.keepIn K (.ref f__check_ends) = true)
    (a__as_bounds : PySem.W.nsIn K mainGlobals "_as_bounds" = some (some (.ref f__as_bounds)))
    (l__as_bounds : K.lookup f__as_bounds = some ⟨oc__as_bounds, od__as_bounds, .func (PySem.W.fnOf "_as_bounds" "_as_bounds" (defArgs s__as_bounds) (defBody s__as_bounds) (defScope s__as_bounds) .none kV__as_bounds dc__as_bounds pm__as_bounds an__as_bounds cd__as_bounds ct__as_bounds), sl__as_bounds⟩)
    (c__as_bounds : PySem.W.codeIn K cd__as_bounds "_as_bounds" = true)
    (k__as_bounds : PySem.W.keepIn K (.ref f__as_bounds) = true)
    (a__as_link : PySem.W.nsIn K mainGlobals "_as_link" = some (some (.ref f__as_link)))
    (l__as_link : K.lookup f__as_link = some ⟨oc__as_link, od__as_link, .func (PySem.W.fnOf "_as_link" "_as_link" (defArgs s__as_link) (defBody s__as_link) (defScope s__as_link) .none kV__as_link dc__as_link pm__as_link an__as_link cd__as_link ct__as_link), sl__as_link⟩)
    (c__as_link : PySem.W.codeIn K cd__as_link "_as_link" = true)
    (k__as_link : PySem.W.keepIn K (.ref f__as_link) = true)
    (a__as_path : PySem.W.nsIn K mainGlobals "_as_path" = some (some (.ref f__as_path)))
    (l__as_path : K.lookup f__as_path = some ⟨oc__as_path, od__as_path, .func (PySem.W.fnOf "_as_path" "_as_path" (defArgs s__as_path) (defBody s__as_path) (defScope s__as_path) .none kV__as_path dc__as_path pm__as_path an__as_path cd__as_path ct__as_path), sl__as_path⟩)
    (c__as_path : PySem.W.codeIn K cd__as_path "_as_path" = true)
    (k__as_path : PySem.W.keepIn K (.ref f__as_path) = true)
    (a__check_single_paths : PySem.W.nsIn K mainGlobals "_check_single_paths" = some (some (.ref f__check_single_paths)))
    (l__check_single_paths : K.lookup f__check_single_paths = some ⟨oc__check_single_paths, od__check_single_paths, .func (PySem.W.fnOf "_check_single_paths" "_check_single_paths" (defArgs s__check_single_paths) (defBody s__check_single_paths) (defScope s__check_single_paths) .none kV__check_single_paths dc__check_single_paths pm__check_single_paths an__check_single_paths cd__check_single_paths ct__check_single_paths), sl__check_single_paths⟩)
    (c__check_single_paths : PySem.W.codeIn K cd__check_single_paths "_check_single_paths" = true)
    (k__check_single_paths : PySem.W.keepIn K (.ref f__check_single_paths) = true)
    (a_init : PySem.W.findIn K (.ref C) "__init__" = some (some (.ref f_init)))
    (i_init : PySem.W.isFn K (.ref f_init) = true)
    (l_init : K.lookup f_init = some ⟨oc_init, od_init, .func (PySem.W.fnOf "__init__" "Land.__init__" (defArgs s_init) (defBody s_init) (defScope s_init) .none (.ref D) dc_init pm_init an_init cd_init ct_init), sl_init⟩)
    (c_init : PySem.W.codeIn K cd_init "Land.__init__" = true)
    (k_init : PySem.W.keepIn K (.ref f_init) = true)
    (tl1 : PySem.W.nsIn K D "links" = some (some (.ref tl)))
    (te1 : PySem.W.nsIn K D "paths" = some (some (.ref te)))
    (tl2 : K.lookup tl = some ⟨.type "tuple", dd_tl, .seq #[] n_tl, sl_tl⟩)
    (te2 : K.lookup te = some ⟨.type "tuple", dd_te, .seq #[] n_te, sl_te⟩)
    (pr1 : PySem.W.findIn K (.ref C) "link_names" = some (some (.ref pr)))
    (pr2 : PySem.W.specialIn K (.ref pr) "__get__" = some (some (.builtin "property.__get__")))
    (pr3 : PySem.W.takesIn K (.ref pr) = some true)
    (pr4 : PySem.W.recIn K pr "property" = some (.ref f_link_names :: rest_pr))
    (l_link_names : K.lookup f_link_names = some ⟨oc_link_names, od_link_names, .func (PySem.W.fnOf "link_names" "Land.link_names" (defArgs s_link_names) (defBody s_link_names) (defScope s_link_names) .none kV_link_names dc_link_names pm_link_names an_link_names cd_link_names ct_link_names), sl_link_names⟩)
    (c_link_names : PySem.W.codeIn K cd_link_names "Land.link_names" = true)
    (k_link_names : PySem.W.keepIn K (.ref f_link_names) = true)
    (a_check_wind : PySem.W.findIn K (.ref C) "check_wind" = some (some (.ref f_check_wind)))
    (i_check_wind : PySem.W.isFn K (.ref f_check_wind) = true)
    (l_check_wind : K.lookup f_check_wind = some ⟨oc_check_wind, od_check_wind, .func (PySem.W.fnOf "check_wind" "Land.check_wind" (defArgs s_check_wind) (defBody s_check_wind) (defScope s_check_wind) .none kV_check_wind dc_check_wind pm_check_wind an_check_wind cd_check_wind ct_check_wind), sl_check_wind⟩)
    (c_check_wind : PySem.W.codeIn K cd_check_wind "Land.check_wind" = true)
    (k_check_wind : PySem.W.keepIn K (.ref f_check_wind) = true)
    (a__law_row : PySem.W.nsIn K mainGlobals "_law_row" = some (some (.ref f__law_row)))
    (l__law_row : K.lookup f__law_row = some ⟨oc__law_row, od__law_row, .func (PySem.W.fnOf "_law_row" "_law_row" (defArgs s__law_row) (defBody s__law_row) (defScope s__law_row) .none kV__law_row dc__law_row pm__law_row an__law_row cd__law_row ct__law_row), sl__law_row⟩)
    (c__law_row : PySem.W.codeIn K cd__law_row "_law_row" = true)
    (k__law_row : PySem.W.keepIn K (.ref f__law_row) = true)
    (a__law_numbers : PySem.W.nsIn K mainGlobals "_law_numbers" = some (some (.ref f__law_numbers)))
    (l__law_numbers : K.lookup f__law_numbers = some ⟨oc__law_numbers, od__law_numbers, .func (PySem.W.fnOf "_law_numbers" "_law_numbers" (defArgs s__law_numbers) (defBody s__law_numbers) (defScope s__law_numbers) .none kV__law_numbers dc__law_numbers pm__law_numbers an__law_numbers cd__law_numbers ct__law_numbers), sl__law_numbers⟩)
    (c__law_numbers : PySem.W.codeIn K cd__law_numbers "_law_numbers" = true)
    (k__law_numbers : PySem.W.keepIn K (.ref f__law_numbers) = true)
    (a__law_names : PySem.W.nsIn K mainGlobals "_law_names" = some (some (.ref f__law_names)))
    (l__law_names : K.lookup f__law_names = some ⟨oc__law_names, od__law_names, .func (PySem.W.fnOf "_law_names" "_law_names" (defArgs s__law_names) (defBody s__law_names) (defScope s__law_names) .none kV__law_names dc__law_names pm__law_names an__law_names cd__law_names ct__law_names), sl__law_names⟩)
    (c__law_names : PySem.W.codeIn K cd__law_names "_law_names" = true)
    (k__law_names : PySem.W.keepIn K (.ref f__law_names) = true)
    (a__law_parts : PySem.W.nsIn K mainGlobals "_law_parts" = some (some (.ref f__law_parts)))
    (l__law_parts : K.lookup f__law_parts = some ⟨oc__law_parts, od__law_parts, .func (PySem.W.fnOf "_law_parts" "_law_parts" (defArgs s__law_parts) (defBody s__law_parts) (defScope s__law_parts) .none kV__law_parts dc__law_parts pm__law_parts an__law_parts cd__law_parts ct__law_parts), sl__law_parts⟩)
    (c__law_parts : PySem.W.codeIn K cd__law_parts "_law_parts" = true)
    (k__law_parts : PySem.W.keepIn K (.ref f__law_parts) = true)
    (a__law_made : PySem.W.nsIn K mainGlobals "_law_made" = some (some (.ref f__law_made)))
    (l__law_made : K.lookup f__law_made = some ⟨oc__law_made, od__law_made, .func (PySem.W.fnOf "_law_made" "_law_made" (defArgs s__law_made) (defBody s__law_made) (defScope s__law_made) .none kV__law_made dc__law_made pm__law_made an__law_made cd__law_made ct__law_made), sl__law_made⟩)
    (c__law_made : PySem.W.codeIn K cd__law_made "_law_made" = true)
    (k__law_made : PySem.W.keepIn K (.ref f__law_made) = true)
    (a__law_weather : PySem.W.nsIn K mainGlobals "_law_weather" = some (some (.ref f__law_weather)))
    (l__law_weather : K.lookup f__law_weather = some ⟨oc__law_weather, od__law_weather, .func (PySem.W.fnOf "_law_weather" "_law_weather" (defArgs s__law_weather) (defBody s__law_weather) (defScope s__law_weather) .none kV__law_weather dc__law_weather pm__law_weather an__law_weather cd__law_weather ct__law_weather), sl__law_weather⟩)
    (c__law_weather : PySem.W.codeIn K cd__law_weather "_law_weather" = true)
    (k__law_weather : PySem.W.keepIn K (.ref f__law_weather) = true)
    (a__law_wind : PySem.W.nsIn K mainGlobals "_law_wind" = some (some (.ref f__law_wind)))
    (l__law_wind : K.lookup f__law_wind = some ⟨oc__law_wind, od__law_wind, .func (PySem.W.fnOf "_law_wind" "_law_wind" (defArgs s__law_wind) (defBody s__law_wind) (defScope s__law_wind) .none kV__law_wind dc__law_wind pm__law_wind an__law_wind cd__law_wind ct__law_wind), sl__law_wind⟩)
    (c__law_wind : PySem.W.codeIn K cd__law_wind "_law_wind" = true)
    (k__law_wind : PySem.W.keepIn K (.ref f__law_wind) = true)
    (a__law_told : PySem.W.nsIn K mainGlobals "_law_told" = some (some (.ref f__law_told)))
    (l__law_told : K.lookup f__law_told = some ⟨oc__law_told, od__law_told, .func (PySem.W.fnOf "_law_told" "_law_told" (defArgs s__law_told) (defBody s__law_told) (defScope s__law_told) .none kV__law_told dc__law_told pm__law_told an__law_told cd__law_told ct__law_told), sl__law_told⟩)
    (c__law_told : PySem.W.codeIn K cd__law_told "_law_told" = true)
    (k__law_told : PySem.W.keepIn K (.ref f__law_told) = true)
    (a__law_spoilt : PySem.W.nsIn K mainGlobals "_law_spoilt" = some (some (.ref f__law_spoilt)))
    (l__law_spoilt : K.lookup f__law_spoilt = some ⟨oc__law_spoilt, od__law_spoilt, .func (PySem.W.fnOf "_law_spoilt" "_law_spoilt" (defArgs s__law_spoilt) (defBody s__law_spoilt) (defScope s__law_spoilt) .none kV__law_spoilt dc__law_spoilt pm__law_spoilt an__law_spoilt cd__law_spoilt ct__law_spoilt), sl__law_spoilt⟩)
    (c__law_spoilt : PySem.W.codeIn K cd__law_spoilt "_law_spoilt" = true)
    (k__law_spoilt : PySem.W.keepIn K (.ref f__law_spoilt) = true)
    (a_law : PySem.W.nsIn K mainGlobals "law" = some (some (.ref f_law)))
    (l_law : K.lookup f_law = some ⟨oc_law, od_law, .func (PySem.W.fnOf "law" "law" (defArgs s_law) (defBody s_law) (defScope s_law) .none kV_law dc_law pm_law an_law cd_law ct_law), sl_law⟩)
    (c_law : PySem.W.codeIn K cd_law "law" = true)
    (k_law : PySem.W.keepIn K (.ref f_law) = true)
    (z_ValueError : PySem.W.nsIn K mainGlobals "ValueError" = some none)
    (z_abs : PySem.W.nsIn K mainGlobals "abs" = some none)
    (z_all : PySem.W.nsIn K mainGlobals "all" = some none)
    (z_int : PySem.W.nsIn K mainGlobals "int" = some none)
    (z_isinstance : PySem.W.nsIn K mainGlobals "isinstance" = some none)
    (z_len : PySem.W.nsIn K mainGlobals "len" = some none)
    (z_list : PySem.W.nsIn K mainGlobals "list" = some none)
    (z_max : PySem.W.nsIn K mainGlobals "max" = some none)
    (z_min : PySem.W.nsIn K mainGlobals "min" = some none)
    (z_range : PySem.W.nsIn K mainGlobals "range" = some none)
    (z_set : PySem.W.nsIn K mainGlobals "set" = some none)
    (z_sorted : PySem.W.nsIn K mainGlobals "sorted" = some none)
    (z_tuple : PySem.W.nsIn K mainGlobals "tuple" = some none)
    (z_zip : PySem.W.nsIn K mainGlobals "zip" = some none)
    (g_DIGITS : PySem.W.nsIn K mainGlobals "DIGITS" = some (some (.str "0123456789" t_DIGITS)))
    (g_LAST_CHANGE : PySem.W.nsIn K mainGlobals "LAST_CHANGE" = some (some (.int 100000 t_LAST_CHANGE)))
    (g_LETTERS : PySem.W.nsIn K mainGlobals "LETTERS" = some (some (.str "abcdefghijklmnopqrstuvwxyz" t_LETTERS)))
    (g_LONGEST_NAME : PySem.W.nsIn K mainGlobals "LONGEST_NAME" = some (some (.int 12 t_LONGEST_NAME)))
    (g_MOST_LINKS : PySem.W.nsIn K mainGlobals "MOST_LINKS" = some (some (.int 60 t_MOST_LINKS)))
    (g_MOST_MINUTES : PySem.W.nsIn K mainGlobals "MOST_MINUTES" = some (some (.int 1000 t_MOST_MINUTES)))
    (g_MOST_PATHS : PySem.W.nsIn K mainGlobals "MOST_PATHS" = some (some (.int 60 t_MOST_PATHS)))
    (g_MOST_PLACES : PySem.W.nsIn K mainGlobals "MOST_PLACES" = some (some (.int 24 t_MOST_PLACES)))
    (g_MOST_ROWS : PySem.W.nsIn K mainGlobals "MOST_ROWS" = some (some (.int 40 t_MOST_ROWS)))
    (g_MOST_WINDS : PySem.W.nsIn K mainGlobals "MOST_WINDS" = some (some (.int 4 t_MOST_WINDS)))
    (pg : PySem.W.plainGet K C Str.empty = true)
    (hd : PySem.W.hasDictIn K C = true)
    (po : PySem.W.plainOver K C = true)
    (sa : PySem.W.findIn K (.ref C) "__setattr__" = some (some (.builtin "object.__setattr__")))
    (mk : PySem.W.makesIn K C = true)
    (kc : PySem.W.keepIn K (.ref C) = true)
    (nW : PySem.W.findIn K (.ref C) "winds" = some none)
    (nP : PySem.W.findIn K (.ref C) "places" = some none)
    (nL : PySem.W.findIn K (.ref C) "links" = some none)
    (nA : PySem.W.findIn K (.ref C) "paths" = some none)
    (a_EveryfireError : PySem.W.nsIn K mainGlobals "EveryfireError" = some (some (.ref X_EveryfireError)))
    (a_InvalidWeather : PySem.W.nsIn K mainGlobals "InvalidWeather" = some (some (.ref X_InvalidWeather)))
    (a_UnknownName : PySem.W.nsIn K mainGlobals "UnknownName" = some (some (.ref X_UnknownName)))
    (x_InvalidWeather : PySem.W.excIn K X_InvalidWeather [.type "ValueError", .type "Exception", .type "BaseException", .type "object"] "ValueError.__new__" = true)
    (k_InvalidWeather : PySem.W.keepIn K (.ref X_InvalidWeather) = true)
    (b_InvalidWeather : PySem.W.subIn K (.ref X_InvalidWeather) (.type "BaseException") = some true)
    (t_InvalidWeather : PySem.W.typeIn K (.ref X_InvalidWeather) = some (.type "type"))
    (oc_UnknownName : K.lookup X_UnknownName = some (excClassObj nm_UnknownName q_UnknownName X_UnknownName N_UnknownName bs_UnknownName bm_UnknownName true sn_UnknownName sub_UnknownName ab_UnknownName col_UnknownName dd_UnknownName k0_UnknownName k1_UnknownName k2_UnknownName k3_UnknownName k5_UnknownName "ValueError.__new__"))
    (rv_UnknownName : PySem.HandSPX.refsVE bm_UnknownName = true)
    (sa_UnknownName : PySem.W.findIn K (.ref X_UnknownName) "__setattr__" = some (some (.builtin "object.__setattr__")))
    (b_UnknownName : PySem.W.subIn K (.ref X_UnknownName) (.type "BaseException") = some true)
    (t_UnknownName : PySem.W.typeIn K (.ref X_UnknownName) = some (.type "type"))
    (k_UnknownName : PySem.W.keepIn K (.ref X_UnknownName) = true)
    (i_UnknownName : PySem.W.findIn K (.ref X_UnknownName) "__init__" = some (some (.ref f_UnknownName)))
    (ti_UnknownName : PySem.W.typeIn K (.ref f_UnknownName) = some (.type "function"))
    (l_UnknownName : K.lookup f_UnknownName = some ⟨oc_f_UnknownName, od_f_UnknownName, .func (PySem.W.fnX "__init__" "UnknownName.__init__" (defArgs s_UnknownName) (defBody s_UnknownName) (defScope s_UnknownName) [("__class__", cc_UnknownName)] .none kV_UnknownName dc_UnknownName pm_UnknownName an_UnknownName (.ref cd_UnknownName) ct_UnknownName), sl_f_UnknownName⟩)
    (cI_UnknownName : PySem.W.codeIn K (.ref cd_UnknownName) "UnknownName.__init__" = true)
    (co_UnknownName : K.lookup cd_UnknownName = some ⟨ccl_UnknownName, cdd_UnknownName, .fields cvs_UnknownName, ccs_UnknownName⟩)
    (cv_UnknownName : cvs_UnknownName[2]? = some (.str PySem.Challenge.pw_everyfire_k09_weathers.main.file tf_UnknownName))
    (ce_UnknownName : K.lookup cc_UnknownName = some ⟨cl_UnknownName, cld_UnknownName, .cell (some (.ref X_UnknownName)), csl_UnknownName⟩)
    (su_UnknownName : PySem.W.mroIn K X_UnknownName (.ref X_UnknownName) = some true)
    (ve_UnknownName : PySem.W.subIn K (.ref X_UnknownName) (.type "ValueError") = some true)
    (al_UnknownName : PySem.W.ks_superIn K X_UnknownName X_UnknownName "__init__" = some (some (.builtin "ValueError.__init__")))
    (nf_UnknownName : PySem.W.findIn K (.ref X_UnknownName) "name" = some none)
    (opq : PySem.W.nsIn K cStatics "thirdparty.any" = some none)
    (z_super0 : PySem.W.nsIn K mainGlobals "super" = some none)
    (hn0 : PySem.W.specialIn K (.builtin "object.__class__") "__get__" = some (some (.builtin "getset_descriptor.__get__")))
    (ht0 : PySem.W.takesIn K (.builtin "object.__class__") = some true)
    (hg_UnknownName : PySem.W.findIn K (.ref X_UnknownName) "__getattribute__" = some (some (.builtin "BaseException.__getattribute__")))
    (hk_UnknownName : PySem.W.findIn K (.ref X_UnknownName) "__getattr__" = some none)
    (hd_UnknownName : PySem.W.hasDictIn K X_UnknownName = true)
    (ha_UnknownName : PySem.W.findIn K (.ref X_UnknownName) "__class__" = some (some (.builtin "object.__class__")))
    (hm_UnknownName : PySem.W.mroIn K X_UnknownName (.type "object") = some true)
    (hg_InvalidWeather : PySem.W.findIn K (.ref X_InvalidWeather) "__getattribute__" = some (some (.builtin "BaseException.__getattribute__")))
    (hk_InvalidWeather : PySem.W.findIn K (.ref X_InvalidWeather) "__getattr__" = some none)
    (hd_InvalidWeather : PySem.W.hasDictIn K X_InvalidWeather = true)
    (ha_InvalidWeather : PySem.W.findIn K (.ref X_InvalidWeather) "__class__" = some (some (.builtin "object.__class__")))
    (hm_InvalidWeather : PySem.W.mroIn K X_InvalidWeather (.type "object") = some true)
    (kt_UnknownName_ValueError : PySem.W.kitOne K (.ref X_UnknownName) (.type "ValueError") = some true)
    (kt_InvalidWeather_ValueError : PySem.W.kitOne K (.ref X_InvalidWeather) (.type "ValueError") = some true)
    (kt_UnknownName_UnknownName : PySem.W.kitOne K (.ref X_UnknownName) (.ref X_UnknownName) = some true)
    (kt_InvalidWeather_UnknownName : PySem.W.kitOne K (.ref X_InvalidWeather) (.ref X_UnknownName) = some false)
    (kt_InvalidWeather_InvalidWeather : PySem.W.kitOne K (.ref X_InvalidWeather) (.ref X_InvalidWeather) = some true)
    (eb_EveryfireError : PySem.W.subIn K (.ref X_EveryfireError) (.type "BaseException") = some true)
    (et_EveryfireError : PySem.W.typeIn K (.ref X_EveryfireError) = some (.type "type"))
    (ed_EveryfireError : PySem.W.hasDictIn K X_EveryfireError = true)
    (es_UnknownName_EveryfireError : PySem.W.subIn K (.ref X_UnknownName) (.ref X_EveryfireError) = some true)
    (es_InvalidWeather_EveryfireError : PySem.W.subIn K (.ref X_InvalidWeather) (.ref X_EveryfireError) = some true)
    (hP : PF l.prog)
    : ∃ fd : FuncData, (∀ (s : Shared) (v : Value), BindsTo s fd ⟨[v], []⟩ [("script", v)]) ∧ ∀ base : Heap, K.In base → base.Ns mainGlobals mg → FnOk l.prog w K mg base CX0 9 fa fd ["script"] (spLaw K) := by
  have e := hfa.symm.trans (PySem.W.mg_of X G a_law)
  cases e
  have F_check_weather := fun_mk (st := s_check_weather) l_check_weather c_check_weather k_check_weather
  have B_check_weather := F_check_weather.binds (ps := ["land", "weather"]) fun _ _ _ _ _ _ us hl => match us, hl with | [_, _], _ => rfl
  have F_check_winds := fun_mk (st := s_check_winds) l_check_winds c_check_winds k_check_winds
  have B_check_winds := F_check_winds.binds (ps := ["land", "weather"]) fun _ _ _ _ _ _ us hl => match us, hl with | [_, _], _ => rfl
  have F_check_rows := fun_mk (st := s_check_rows) l_check_rows c_check_rows k_check_rows
  have B_check_rows := F_check_rows.binds (ps := ["weather"]) fun _ _ _ _ _ _ us hl => match us, hl with | [_], _ => rfl
  have F_wind_at := fun_mk (st := s_wind_at) l_wind_at c_wind_at k_wind_at
  have B_wind_at := F_wind_at.binds (ps := ["land", "weather", "minute"]) fun _ _ _ _ _ _ us hl => match us, hl with | [_, _, _], _ => rfl
  have F_is_name := fun_mk (st := s_is_name) l_is_name c_is_name k_is_name
  have B_is_name := F_is_name.binds (ps := ["text"]) fun _ _ _ _ _ _ us hl => match us, hl with | [_], _ => rfl
  have F__check_count := fun_mk (st := s__check_count) l__check_count c__check_count k__check_count
  have B__check_count := F__check_count.binds (ps := ["sort", "rows", "least", "most"]) fun _ _ _ _ _ _ us hl => match us, hl with | [_, _, _, _], _ => rfl
  have F__check_names := fun_mk (st := s__check_names) l__check_names c__check_names k__check_names
  have B__check_names := F__check_names.binds (ps := ["sort", "names"]) fun _ _ _ _ _ _ us hl => match us, hl with | [_, _], _ => rfl
  have F__check_ends := fun_mk (st := s__check_ends) l__check_ends c__check_ends k__check_ends
  have B__check_ends := F__check_ends.binds (ps := ["sort", "one", "other", "places"]) fun _ _ _ _ _ _ us hl => match us, hl with | [_, _, _, _], _ => rfl
  have F__as_bounds := fun_mk (st := s__as_bounds) l__as_bounds c__as_bounds k__as_bounds
  have B__as_bounds := F__as_bounds.binds (ps := ["bounds"]) fun _ _ _ _ _ _ us hl => match us, hl with | [_], _ => rfl
  have F__as_link := fun_mk (st := s__as_link) l__as_link c__as_link k__as_link
  have B__as_link := F__as_link.binds (ps := ["link", "winds", "places"]) fun _ _ _ _ _ _ us hl => match us, hl with | [_, _, _], _ => rfl
  have F__as_path := fun_mk (st := s__as_path) l__as_path c__as_path k__as_path
  have B__as_path := F__as_path.binds (ps := ["path", "places"]) fun _ _ _ _ _ _ us hl => match us, hl with | [_, _], _ => rfl
  have F__check_single_paths := fun_mk (st := s__check_single_paths) l__check_single_paths c__check_single_paths k__check_single_paths
  have B__check_single_paths := F__check_single_paths.binds (ps := ["paths"]) fun _ _ _ _ _ _ us hl => match us, hl with | [_], _ => rfl
  have F_init : FunD K "__init__" "Land.__init__" (defArgs s_init) (defBody s_init) (defScope s_init) [] [("links", .ref tl), ("paths", .ref te)] f_init _ := ⟨⟨_, _, _, _, _, _, _, _, _, _, rfl, l_init, c_init, .inl ⟨rfl, rfl⟩, .inr ⟨D, rfl, fun q hq => by
    rcases List.mem_cons.mp hq with z | z
    · rw [z]; exact ⟨_, tl1, rfl⟩
    · rw [List.mem_singleton.mp z]; exact ⟨_, te1, rfl⟩⟩⟩, k_init⟩
  have F_link_names := fun_mk (st := s_link_names) l_link_names c_link_names k_link_names
  have B_link_names := F_link_names.binds (ps := ["self"]) fun _ _ _ _ _ _ us hl => match us, hl with | [_], _ => rfl
  have F_check_wind := fun_mk (st := s_check_wind) l_check_wind c_check_wind k_check_wind
  have B_check_wind := F_check_wind.binds (ps := ["self", "wind"]) fun _ _ _ _ _ _ us hl => match us, hl with | [_, _], _ => rfl
  have F__law_row := fun_mk (st := s__law_row) l__law_row c__law_row k__law_row
  have B__law_row := F__law_row.binds (ps := ["cell", "many"]) fun _ _ _ _ _ _ us hl => match us, hl with | [_, _], _ => rfl
  have F__law_numbers := fun_mk (st := s__law_numbers) l__law_numbers c__law_numbers k__law_numbers
  have B__law_numbers := F__law_numbers.binds (ps := ["script", "many"]) fun _ _ _ _ _ _ us hl => match us, hl with | [_, _], _ => rfl
  have F__law_names := fun_mk (st := s__law_names) l__law_names c__law_names k__law_names
  have B__law_names := F__law_names.binds (ps := ["number", "many"]) fun _ _ _ _ _ _ us hl => match us, hl with | [_, _], _ => rfl
  have F__law_parts := fun_mk (st := s__law_parts) l__law_parts c__law_parts k__law_parts
  have B__law_parts := F__law_parts.binds (ps := ["numbers", "at"]) fun _ _ _ _ _ _ us hl => match us, hl with | [_, _], _ => rfl
  have F__law_made := fun_mk (st := s__law_made) l__law_made c__law_made k__law_made
  have B__law_made := F__law_made.binds (ps := ["parts"]) fun _ _ _ _ _ _ us hl => match us, hl with | [_], _ => rfl
  have F__law_weather := fun_mk (st := s__law_weather) l__law_weather c__law_weather k__law_weather
  have B__law_weather := F__law_weather.binds (ps := ["parts", "numbers", "at"]) fun _ _ _ _ _ _ us hl => match us, hl with | [_, _, _], _ => rfl
  have F__law_wind := fun_mk (st := s__law_wind) l__law_wind c__law_wind k__law_wind
  have B__law_wind := F__law_wind.binds (ps := ["parts", "weather", "minute"]) fun _ _ _ _ _ _ us hl => match us, hl with | [_, _, _], _ => rfl
  have F__law_told := fun_mk (st := s__law_told) l__law_told c__law_told k__law_told
  have B__law_told := F__law_told.binds (ps := ["which", "land", "weather"]) fun _ _ _ _ _ _ us hl => match us, hl with | [_, _, _], _ => rfl
  have F__law_spoilt := fun_mk (st := s__law_spoilt) l__law_spoilt c__law_spoilt k__law_spoilt
  have B__law_spoilt := F__law_spoilt.binds (ps := ["weather", "number", "other"]) fun _ _ _ _ _ _ us hl => match us, hl with | [_, _, _], _ => rfl
  have F_law := fun_mk (st := s_law) l_law c_law k_law
  have B_law := F_law.binds (ps := ["script"]) fun _ _ _ _ _ _ us hl => match us, hl with | [_], _ => rfl
  have oex_UnknownName : OexC K X_UnknownName := ⟨⟨_, _, _, _, _, _, _, _, _, _, _, _, _, _, _, oc_UnknownName, rv_UnknownName⟩, sa_UnknownName, b_UnknownName, t_UnknownName, k_UnknownName⟩
  have sc_UnknownName : NdefX.NScope ["self", "name", "__class__"] ["self", "name"] ["__class__"] (defScope s_UnknownName) := NdefX.nscope_by (by decide +kernel)
  have S_UnknownName : ∀ {P : Program}, PF P → SupX.SupC P K mg X_UnknownName f_UnknownName cc_UnknownName cd_UnknownName "__init__" "UnknownName.__init__" "name" (defArgs s_UnknownName) (defBody s_UnknownName) (defScope s_UnknownName) _ := fun {P} hp => ⟨⟨_, _, _, _, _, _, _, _, _, rfl, l_UnknownName⟩, cI_UnknownName, ⟨_, _, _, _, _, _, co_UnknownName, cv_UnknownName, hp.file⟩, ⟨_, _, _, ce_UnknownName⟩, sc_UnknownName, ⟨_, rfl, rfl⟩, rfl, oex_UnknownName, (by unfold PySem.W.clsIn; rw [oc_UnknownName]; exact ⟨_, rfl⟩), su_UnknownName, ve_UnknownName, al_UnknownName, opq, PySem.W.mg_none_of X G z_super0, hp.top⟩
  have B_UnknownName : Binds K (PySem.W.fnX "__init__" "UnknownName.__init__" (defArgs s_UnknownName) (defBody s_UnknownName) (defScope s_UnknownName) [("__class__", cc_UnknownName)] .none kV_UnknownName dc_UnknownName pm_UnknownName an_UnknownName (.ref cd_UnknownName) ct_UnknownName) ["self", "name"] [] := .all fun us hl => match us, hl with | [_, _], _ => rfl
  have T : Txt K mg { C := C, tl := tl, te := te, pr := pr, f_check_weather := f_check_weather, d_check_weather := _, f_check_winds := f_check_winds, d_check_winds := _, f_check_rows := f_check_rows, d_check_rows := _, f_wind_at := f_wind_at, d_wind_at := _, f_is_name := f_is_name, d_is_name := _, f__check_count := f__check_count, d__check_count := _, f__check_names := f__check_names, d__check_names := _, f__check_ends := f__check_ends, d__check_ends := _, f__as_bounds := f__as_bounds, d__as_bounds := _, f__as_link := f__as_link, d__as_link := _, f__as_path := f__as_path, d__as_path := _, f__check_single_paths := f__check_single_paths, d__check_single_paths := _, f_init := f_init, d_init := _, f_link_names := f_link_names, d_link_names := _, f_check_wind := f_check_wind, d_check_wind := _, f__law_row := f__law_row, d__law_row := _, f__law_numbers := f__law_numbers, d__law_numbers := _, f__law_names := f__law_names, d__law_names := _, f__law_parts := f__law_parts, d__law_parts := _, f__law_made := f__law_made, d__law_made := _, f__law_weather := f__law_weather, d__law_weather := _, f__law_wind := f__law_wind, d__law_wind := _, f__law_told := f__law_told, d__law_told := _, f__law_spoilt := f__law_spoilt, d__law_spoilt := _, f_law := fa, d_law := _, X_EveryfireError := X_EveryfireError, X_InvalidWeather := X_InvalidWeather, X_UnknownName := X_UnknownName, f_UnknownName := f_UnknownName, d_UnknownName := _, cc_UnknownName := cc_UnknownName, cd_UnknownName := cd_UnknownName } := {
    F_check_weather := F_check_weather
    B_check_weather := B_check_weather
    k_check_weather := k_check_weather
    g_check_weather := PySem.W.mg_of X G a_check_weather
    F_check_winds := F_check_winds
    B_check_winds := B_check_winds
    k_check_winds := k_check_winds
    g_check_winds := PySem.W.mg_of X G a_check_winds
    F_check_rows := F_check_rows
    B_check_rows := B_check_rows
    k_check_rows := k_check_rows
    g_check_rows := PySem.W.mg_of X G a_check_rows
    F_wind_at := F_wind_at
    B_wind_at := B_wind_at
    k_wind_at := k_wind_at
    g_wind_at := PySem.W.mg_of X G a_wind_at
    F_is_name := F_is_name
    B_is_name := B_is_name
    k_is_name := k_is_name
    g_is_name := PySem.W.mg_of X G a_is_name
    F__check_count := F__check_count
    B__check_count := B__check_count
    k__check_count := k__check_count
    g__check_count := PySem.W.mg_of X G a__check_count
    F__check_names := F__check_names
    B__check_names := B__check_names
    k__check_names := k__check_names
    g__check_names := PySem.W.mg_of X G a__check_names
    F__check_ends := F__check_ends
    B__check_ends := B__check_ends
    k__check_ends := k__check_ends
    g__check_ends := PySem.W.mg_of X G a__check_ends
    F__as_bounds := F__as_bounds
    B__as_bounds := B__as_bounds
    k__as_bounds := k__as_bounds
    g__as_bounds := PySem.W.mg_of X G a__as_bounds
    F__as_link := F__as_link
    B__as_link := B__as_link
    k__as_link := k__as_link
    g__as_link := PySem.W.mg_of X G a__as_link
    F__as_path := F__as_path
    B__as_path := B__as_path
    k__as_path := k__as_path
    g__as_path := PySem.W.mg_of X G a__as_path
    F__check_single_paths := F__check_single_paths
    B__check_single_paths := B__check_single_paths
    k__check_single_paths := k__check_single_paths
    g__check_single_paths := PySem.W.mg_of X G a__check_single_paths
    F_init := F_init
    F_link_names := F_link_names
    B_link_names := B_link_names
    k_link_names := k_link_names
    F_check_wind := F_check_wind
    B_check_wind := B_check_wind
    k_check_wind := k_check_wind
    m_check_wind := ⟨a_check_wind, i_check_wind, k_check_wind⟩
    F__law_row := F__law_row
    B__law_row := B__law_row
    k__law_row := k__law_row
    g__law_row := PySem.W.mg_of X G a__law_row
    F__law_numbers := F__law_numbers
    B__law_numbers := B__law_numbers
    k__law_numbers := k__law_numbers
    g__law_numbers := PySem.W.mg_of X G a__law_numbers
    F__law_names := F__law_names
    B__law_names := B__law_names
    k__law_names := k__law_names
    g__law_names := PySem.W.mg_of X G a__law_names
    F__law_parts := F__law_parts
    B__law_parts := B__law_parts
    k__law_parts := k__law_parts
    g__law_parts := PySem.W.mg_of X G a__law_parts
    F__law_made := F__law_made
    B__law_made := B__law_made
    k__law_made := k__law_made
    g__law_made := PySem.W.mg_of X G a__law_made
    F__law_weather := F__law_weather
    B__law_weather := B__law_weather
    k__law_weather := k__law_weather
    g__law_weather := PySem.W.mg_of X G a__law_weather
    F__law_wind := F__law_wind
    B__law_wind := B__law_wind
    k__law_wind := k__law_wind
    g__law_wind := PySem.W.mg_of X G a__law_wind
    F__law_told := F__law_told
    B__law_told := B__law_told
    k__law_told := k__law_told
    g__law_told := PySem.W.mg_of X G a__law_told
    F__law_spoilt := F__law_spoilt
    B__law_spoilt := B__law_spoilt
    k__law_spoilt := k__law_spoilt
    g__law_spoilt := PySem.W.mg_of X G a__law_spoilt
    F_law := F_law
    B_law := B_law
    k_law := k_law
    g_law := PySem.W.mg_of X G a_law
    z_ValueError := PySem.W.mg_none_of X G z_ValueError
    z_abs := PySem.W.mg_none_of X G z_abs
    z_all := PySem.W.mg_none_of X G z_all
    z_int := PySem.W.mg_none_of X G z_int
    z_isinstance := PySem.W.mg_none_of X G z_isinstance
    z_len := PySem.W.mg_none_of X G z_len
    z_list := PySem.W.mg_none_of X G z_list
    z_max := PySem.W.mg_none_of X G z_max
    z_min := PySem.W.mg_none_of X G z_min
    z_range := PySem.W.mg_none_of X G z_range
    z_set := PySem.W.mg_none_of X G z_set
    z_sorted := PySem.W.mg_none_of X G z_sorted
    z_tuple := PySem.W.mg_none_of X G z_tuple
    z_zip := PySem.W.mg_none_of X G z_zip
    c_DIGITS := ⟨_, PySem.W.mg_of X G g_DIGITS⟩
    c_LAST_CHANGE := ⟨_, PySem.W.mg_of X G g_LAST_CHANGE⟩
    c_LETTERS := ⟨_, PySem.W.mg_of X G g_LETTERS⟩
    c_LONGEST_NAME := ⟨_, PySem.W.mg_of X G g_LONGEST_NAME⟩
    c_MOST_LINKS := ⟨_, PySem.W.mg_of X G g_MOST_LINKS⟩
    c_MOST_MINUTES := ⟨_, PySem.W.mg_of X G g_MOST_MINUTES⟩
    c_MOST_PATHS := ⟨_, PySem.W.mg_of X G g_MOST_PATHS⟩
    c_MOST_PLACES := ⟨_, PySem.W.mg_of X G g_MOST_PLACES⟩
    c_MOST_ROWS := ⟨_, PySem.W.mg_of X G g_MOST_ROWS⟩
    c_MOST_WINDS := ⟨_, PySem.W.mg_of X G g_MOST_WINDS⟩
    cl := ⟨pg, hd, po, sa⟩
    mk_Land := ⟨mk, a_init, i_init, kc⟩
    g_Land := PySem.W.mg_of X G aC
    nW := nW
    nP := nP
    nL := nL
    nA := nA
    p_link_names := ⟨pr1, pr2, pr3, ⟨_, pr4⟩⟩
    tlT := fun H => .inr ⟨_, #[], _, tl2, rfl, rfl, Nat.zero_le _, .nil⟩
    teT := fun H => .inr ⟨_, #[], _, te2, rfl, rfl, Nat.zero_le _, .nil⟩
    g_EveryfireError := PySem.W.mg_of X G a_EveryfireError
    g_InvalidWeather := PySem.W.mg_of X G a_InvalidWeather
    g_UnknownName := PySem.W.mg_of X G a_UnknownName
    x_InvalidWeather := x_InvalidWeather
    k_InvalidWeather := k_InvalidWeather
    b_InvalidWeather := b_InvalidWeather
    t_InvalidWeather := t_InvalidWeather
    o_UnknownName := oex_UnknownName
    i_UnknownName := i_UnknownName
    ti_UnknownName := ti_UnknownName
    B_UnknownName := B_UnknownName
    S_UnknownName := S_UnknownName
    xf_UnknownName := ⟨hg_UnknownName, hk_UnknownName, b_UnknownName, hd_UnknownName⟩
    nf_UnknownName := nf_UnknownName
    ec_UnknownName := ⟨hg_UnknownName, hk_UnknownName, b_UnknownName, hd_UnknownName, ha_UnknownName, hn0, ht0, hm_UnknownName⟩
    ec_InvalidWeather := ⟨hg_InvalidWeather, hk_InvalidWeather, b_InvalidWeather, hd_InvalidWeather, ha_InvalidWeather, hn0, ht0, hm_InvalidWeather⟩
    kt_UnknownName_ValueError := kt_UnknownName_ValueError
    kt_InvalidWeather_ValueError := kt_InvalidWeather_ValueError
    kt_UnknownName_UnknownName := kt_UnknownName_UnknownName
    kt_InvalidWeather_UnknownName := kt_InvalidWeather_UnknownName
    kt_InvalidWeather_InvalidWeather := kt_InvalidWeather_InvalidWeather
    em_UnknownName_EveryfireError := PySem.W.exm_ref eb_EveryfireError ed_EveryfireError et_EveryfireError es_UnknownName_EveryfireError
    em_InvalidWeather_EveryfireError := PySem.W.exm_ref eb_EveryfireError ed_EveryfireError et_EveryfireError es_InvalidWeather_EveryfireError }
  exact ⟨_, fun s v => .of_eq rfl, fun base _ _ => G_law T hP⟩
theorem walk {l : PySem.W.OpenLaw} {q : Program} {loose : List Str} {XP : (Str → Option Value) → Heap → Prop} {YP : World → Heap → Prop} {d : DefRec} {K : Params → PySem.W.Frag} (hn : l.most = some 63) (hdf : d.params.defaults = [])
    (hY : ∀ (w : World) (h : Heap), YP w h → (K w.params).In h)
    (F : ∀ (w : World) (mg : Str → Option Value) (fa : Addr) (h : Heap), (K w.params).In h → h.Ns mainGlobals mg → mg d.name = some (.ref fa) →
      ∃ fd : FuncData, (∀ (s : Shared) (u : Value), BindsTo s fd ⟨[u], []⟩ [("script", u)]) ∧ ∀ base : Heap, (K w.params).In base → base.Ns mainGlobals mg → FnOk l.prog w (K w.params) mg base CX0 9 fa fd ["script"] (spLaw (K w.params))) :
    PySem.W.WalkO q loose XP YP l.row.toRowW d [] (fun f vs => PySem.call f vs) :=
  L2.walk_of (n := 63) (k := 9) (x := "script") (CX := fun _ => CX0) (sp := fun w => spLaw (K w.params)) hn (by decide) hdf ⟨rfl, by decide, by decide⟩ hY F (fun _ _ a ns hl _ hS => ⟨a, ns, rfl, hS, fun _ => rfl⟩) fun _ _ _ _ _ z => z
end EV
open PySem PySem.W PyProof.Rows in
set_option maxRecDepth 100000 in
set_option maxHeartbeats 0 in
theorem PySem.Challenge.cw_everyfire_k09_weathers_holds : PySem.Challenge.rw_everyfire_k09_weathers.Holds := by
  w_on; o_law; k_head; (case hw => w_witness2)
  k_fill
  refine EV.walk (l := PySem.Challenge.rw_everyfire_k09_weathers) rfl rfl (fun w h Y => PySem.W.kIn_of Y) ?F
  case F =>
    intro w mg fa h KX G hmg
    refine' EV.all_mk KX G hmg ?aC ?a_check_weather ?l_check_weather ?c_check_weather ?k_check_weather ?a_check_winds ?l_check_winds ?c_check_winds ?k_check_winds ?a_check_rows ?l_check_rows ?c_check_rows ?k_check_rows ?a_wind_at ?l_wind_at ?c_wind_at ?k_wind_at ?a_is_name ?l_is_name ?c_is_name ?k_is_name ?a__check_count ?l__check_count ?c__check_count ?k__check_count ?a__check_names ?l__check_names ?c__check_names ?k__check_names ?a__check_ends ?l__check_ends ?c__check_ends ?k__check_ends ?a__as_bounds ?l__as_bounds ?c__as_bounds ?k__as_bounds ?a__as_link ?l__as_link ?c__as_link ?k__as_link ?a__as_path ?l__as_path ?c__as_path ?k__as_path ?a__check_single_paths ?l__check_single_paths ?c__check_single_paths ?k__check_single_paths ?a_init ?i_init ?l_init ?c_init ?k_init ?tl1 ?te1 ?tl2 ?te2 ?pr1 ?pr2 ?pr3 ?pr4 ?l_link_names ?c_link_names ?k_link_names ?a_check_wind ?i_check_wind ?l_check_wind ?c_check_wind ?k_check_wind ?a__law_row ?l__law_row ?c__law_row ?k__law_row ?a__law_numbers ?l__law_numbers ?c__law_numbers ?k__law_numbers ?a__law_names ?l__law_names ?c__law_names ?k__law_names ?a__law_parts ?l__law_parts ?c__law_parts ?k__law_parts ?a__law_made ?l__law_made ?c__law_made ?k__law_made ?a__law_weather ?l__law_weather ?c__law_weather ?k__law_weather ?a__law_wind ?l__law_wind ?c__law_wind ?k__law_wind ?a__law_told ?l__law_told ?c__law_told ?k__law_told ?a__law_spoilt ?l__law_spoilt ?c__law_spoilt ?k__law_spoilt ?a_law ?l_law ?c_law ?k_law ?z_ValueError ?z_abs ?z_all ?z_int ?z_isinstance ?z_len ?z_list ?z_max ?z_min ?z_range ?z_set ?z_sorted ?z_tuple ?z_zip ?g_DIGITS ?g_LAST_CHANGE ?g_LETTERS ?g_LONGEST_NAME ?g_MOST_LINKS ?g_MOST_MINUTES ?g_MOST_PATHS ?g_MOST_PLACES ?g_MOST_ROWS ?g_MOST_WINDS ?pg ?hd ?po ?sa ?mk ?kc ?nW ?nP ?nL ?nA ?a_EveryfireError ?a_InvalidWeather ?a_UnknownName ?x_InvalidWeather ?k_InvalidWeather ?b_InvalidWeather ?t_InvalidWeather ?oc_UnknownName ?rv_UnknownName ?sa_UnknownName ?b_UnknownName ?t_UnknownName ?k_UnknownName ?i_UnknownName ?ti_UnknownName ?l_UnknownName ?cI_UnknownName ?co_UnknownName ?cv_UnknownName ?ce_UnknownName ?su_UnknownName ?ve_UnknownName ?al_UnknownName ?nf_UnknownName ?opq ?z_super0 ?hn0 ?ht0 ?hg_UnknownName ?hk_UnknownName ?hd_UnknownName ?ha_UnknownName ?hm_UnknownName ?hg_InvalidWeather ?hk_InvalidWeather ?hd_InvalidWeather ?ha_InvalidWeather ?hm_InvalidWeather ?kt_UnknownName_ValueError ?kt_InvalidWeather_ValueError ?kt_UnknownName_UnknownName ?kt_InvalidWeather_UnknownName ?kt_InvalidWeather_InvalidWeather ?eb_EveryfireError ?et_EveryfireError ?ed_EveryfireError ?es_UnknownName_EveryfireError ?es_InvalidWeather_EveryfireError ?hP
    (case aC => k_is)
    (case a_check_weather => k_is)
    (case l_check_weather => k_is)
    (case c_check_weather => k_is)
    (case k_check_weather => k_is)
    (case a_check_winds => k_is)
    (case l_check_winds => k_is)
    (case c_check_winds => k_is)
    (case k_check_winds => k_is)
    (case a_check_rows => k_is)
    (case l_check_rows => k_is)
    (case c_check_rows => k_is)
    (case k_check_rows => k_is)
    (case a_wind_at => k_is)
    (case l_wind_at => k_is)
    (case c_wind_at => k_is)
    (case k_wind_at => k_is)
    (case a_is_name => k_is)
    (case l_is_name => k_is)
    (case c_is_name => k_is)
    (case k_is_name => k_is)
    (case a__check_count => k_is)
    (case l__check_count => k_is)
    (case c__check_count => k_is)
    (case k__check_count => k_is)
    (case a__check_names => k_is)
    (case l__check_names => k_is)
    (case c__check_names => k_is)
    (case k__check_names => k_is)
    (case a__check_ends => k_is)
    (case l__check_ends => k_is)
    (case c__check_ends => k_is)
    (case k__check_ends => k_is)
    (case a__as_bounds => k_is)
    (case l__as_bounds => k_is)
    (case c__as_bounds => k_is)
    (case k__as_bounds => k_is)
    (case a__as_link => k_is)
    (case l__as_link => k_is)
    (case c__as_link => k_is)
    (case k__as_link => k_is)
    (case a__as_path => k_is)
    (case l__as_path => k_is)
    (case c__as_path => k_is)
    (case k__as_path => k_is)
    (case a__check_single_paths => k_is)
    (case l__check_single_paths => k_is)
    (case c__check_single_paths => k_is)
    (case k__check_single_paths => k_is)
    (case a_init => k_is)
    (case i_init => k_is)
    (case l_init => k_is)
    (case c_init => k_is)
    (case k_init => k_is)
    (case tl1 => k_is)
    (case te1 => k_is)
    (case tl2 => k_is)
    (case te2 => k_is)
    (case pr1 => k_is)
    (case pr2 => k_is)
    (case pr3 => k_is)
    (case pr4 => k_is)
    (case l_link_names => k_is)
    (case c_link_names => k_is)
    (case k_link_names => k_is)
    (case a_check_wind => k_is)
    (case i_check_wind => k_is)
    (case l_check_wind => k_is)
    (case c_check_wind => k_is)
    (case k_check_wind => k_is)
    (case a__law_row => k_is)
    (case l__law_row => k_is)
    (case c__law_row => k_is)
    (case k__law_row => k_is)
    (case a__law_numbers => k_is)
    (case l__law_numbers => k_is)
    (case c__law_numbers => k_is)
    (case k__law_numbers => k_is)
    (case a__law_names => k_is)
    (case l__law_names => k_is)
    (case c__law_names => k_is)
    (case k__law_names => k_is)
    (case a__law_parts => k_is)
    (case l__law_parts => k_is)
    (case c__law_parts => k_is)
    (case k__law_parts => k_is)
    (case a__law_made => k_is)
    (case l__law_made => k_is)
    (case c__law_made => k_is)
    (case k__law_made => k_is)
    (case a__law_weather => k_is)
    (case l__law_weather => k_is)
    (case c__law_weather => k_is)
    (case k__law_weather => k_is)
    (case a__law_wind => k_is)
    (case l__law_wind => k_is)
    (case c__law_wind => k_is)
    (case k__law_wind => k_is)
    (case a__law_told => k_is)
    (case l__law_told => k_is)
    (case c__law_told => k_is)
    (case k__law_told => k_is)
    (case a__law_spoilt => k_is)
    (case l__law_spoilt => k_is)
    (case c__law_spoilt => k_is)
    (case k__law_spoilt => k_is)
    (case a_law => k_is)
    (case l_law => k_is)
    (case c_law => k_is)
    (case k_law => k_is)
    (case z_ValueError => k_is)
    (case z_abs => k_is)
    (case z_all => k_is)
    (case z_int => k_is)
    (case z_isinstance => k_is)
    (case z_len => k_is)
    (case z_list => k_is)
    (case z_max => k_is)
    (case z_min => k_is)
    (case z_range => k_is)
    (case z_set => k_is)
    (case z_sorted => k_is)
    (case z_tuple => k_is)
    (case z_zip => k_is)
    (case g_DIGITS => k_is)
    (case g_LAST_CHANGE => k_is)
    (case g_LETTERS => k_is)
    (case g_LONGEST_NAME => k_is)
    (case g_MOST_LINKS => k_is)
    (case g_MOST_MINUTES => k_is)
    (case g_MOST_PATHS => k_is)
    (case g_MOST_PLACES => k_is)
    (case g_MOST_ROWS => k_is)
    (case g_MOST_WINDS => k_is)
    (case pg => k_is)
    (case hd => k_is)
    (case po => k_is)
    (case sa => k_is)
    (case mk => k_is)
    (case kc => k_is)
    (case nW => k_is)
    (case nP => k_is)
    (case nL => k_is)
    (case nA => k_is)
    (case a_EveryfireError => k_is)
    (case a_InvalidWeather => k_is)
    (case a_UnknownName => k_is)
    (case x_InvalidWeather => k_exc)
    (case k_InvalidWeather => k_is)
    (case b_InvalidWeather => k_is)
    (case t_InvalidWeather => k_is)
    (case oc_UnknownName => k_is)
    (case rv_UnknownName => decide +kernel)
    (case sa_UnknownName => k_is)
    (case b_UnknownName => k_is)
    (case t_UnknownName => k_is)
    (case k_UnknownName => k_is)
    (case i_UnknownName => k_is)
    (case ti_UnknownName => k_is)
    (case l_UnknownName => k_is)
    (case cI_UnknownName => k_is)
    (case co_UnknownName => k_is)
    (case cv_UnknownName => rfl)
    (case ce_UnknownName => k_is)
    (case su_UnknownName => k_is)
    (case ve_UnknownName => k_is)
    (case al_UnknownName => ks_is)
    (case nf_UnknownName => k_is)
    (case opq => k_is)
    (case z_super0 => k_is)
    (case hn0 => k_is)
    (case ht0 => k_is)
    (case hg_UnknownName => k_is)
    (case hk_UnknownName => k_is)
    (case hd_UnknownName => k_is)
    (case ha_UnknownName => k_is)
    (case hm_UnknownName => k_is)
    (case hg_InvalidWeather => k_is)
    (case hk_InvalidWeather => k_is)
    (case hd_InvalidWeather => k_is)
    (case ha_InvalidWeather => k_is)
    (case hm_InvalidWeather => k_is)
    (case kt_UnknownName_ValueError => kit_is)
    (case kt_InvalidWeather_ValueError => kit_is)
    (case kt_UnknownName_UnknownName => kit_is)
    (case kt_InvalidWeather_UnknownName => kit_is)
    (case kt_InvalidWeather_InvalidWeather => kit_is)
    (case eb_EveryfireError => k_is)
    (case et_EveryfireError => k_is)
    (case ed_EveryfireError => k_is)
    (case es_UnknownName_EveryfireError => first | rfl | k_is)
    (case es_InvalidWeather_EveryfireError => first | rfl | k_is)
    (case hP => exact ⟨by decide +kernel, by decide +kernel⟩)

