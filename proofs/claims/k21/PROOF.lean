import PyProof.Rows.All
import Wide.All
import OpenK.AllK
import Wide.FinOn
import PyProof.EqAt
import PyProof.EqKinds
import PyProof.TupleCall
import HandS.Base
import HandS.Call
import HandS.List
import HandS.ForMost
import HandS.ForExc
import HandS.RaiseMore
import HandS.FStr
import HandS.MakeKwOnly
import HandS.Property
import HandS.IsInst
import HandS.Evl
import HandS.Deep
import HandS.TupSets
import HandS.SetFor
import KE.KExcSuper
import HandS.ExcInit
import HandS.Nested
import HandS.ExcIs
import HandS.ExcField
import HandS.TryMany
import KE.KExcIs
import KE.LtSeq
import HandS.Struct
import HandS.Iter
import HandS.Dict
import HandS.DictComp
import HandS.Walk
import HandS.More
import KE.GoesEnum
import PyProof.EnumMake
import KE.KRevSl
import HandS.Strs
import HandS.TupLe
import HandS.Star
import HandS.Zip
import PySem.Challenge.RW_everyfire_k21_check_paper
set_option Elab.async false
set_option linter.all false
set_option maxRecDepth 100000
set_option maxHeartbeats 4000000
/-! len(set(xs)) of any number of texts -/
namespace EvS
open PySem PySem.Spec PyProof.Rows
/-- the different ones, each where it came first -/
def dd {α : Type} [DecidableEq α] : List α → List α → List α
  | acc, [] => acc
  | acc, x :: r => dd (if x ∈ acc then acc else acc ++ [x]) r
theorem dd_len_le {α : Type} [DecidableEq α] : ∀ (l acc : List α), (dd acc l).length ≤ acc.length + l.length
  | [], acc => Nat.le_refl _
  | x :: r, acc => by
    unfold dd
    by_cases h : x ∈ acc
    · rw [if_pos h]
      have := dd_len_le r acc
      simp only [List.length_cons]
      omega
    · rw [if_neg h]
      have := dd_len_le r (acc ++ [x])
      simp only [List.length_cons, List.length_append, List.length_nil] at this ⊢
      omega
theorem dd_len_eq {α : Type} [DecidableEq α] : ∀ (l acc : List α), acc.Nodup → ((dd acc l).length = acc.length + l.length ↔ (acc ++ l).Nodup)
  | [], acc, h => by simp [dd, h]
  | x :: r, acc, h => by
    unfold dd
    by_cases hx : x ∈ acc
    · rw [if_pos hx]
      have h1 := dd_len_le r acc
      constructor
      · intro e
        simp only [List.length_cons] at e
        omega
      · intro e
        have := (List.nodup_append.mp e).2.2 x hx x (List.mem_cons_self ..)
        exact absurd rfl this
    · rw [if_neg hx]
      have hn : (acc ++ [x]).Nodup := by
        rw [List.nodup_append]
        refine ⟨h, by simp, fun a ha b hb => ?_⟩
        rw [List.mem_singleton] at hb
        subst hb
        exact fun e => hx (e ▸ ha)
      have ih := dd_len_eq r (acc ++ [x]) hn
      simp only [List.length_cons, List.length_append, List.length_nil, List.append_assoc, List.singleton_append] at ih ⊢
      rw [← ih]
      omega
theorem dd_snoc {α : Type} [DecidableEq α] (x : α) : ∀ (l acc : List α), dd acc (l ++ [x]) = (if x ∈ dd acc l then dd acc l else dd acc l ++ [x])
  | [], acc => rfl
  | y :: r, acc => by
    show dd _ (r ++ [x]) = _
    rw [dd_snoc x r]
    rfl
section
variable {prog : Program} {w : World} {A : Around} {R : Result → Shared → Prop} {I : Addr} {fp wr : List Addr} {G : Array GenState → Array GenState → Prop} {n : Nat} {P : Nat → Value → Prop} {St : Nat → Shared → Prop}
variable {κ : Type} [DecidableEq κ] {kd : KeyKind prog w κ}
theorem turnK (W : WalksS prog w A.in1 I fp wr G n P St) (S : Addr) (hSf : S ∉ fp) (ks : List κ) (hlen : ks.length = n) (hmax : n < 4000)
    (hat : ∀ i v k, P i v → ks[i]? = some k → kd.is k v = true ∧ v.scannable = true) :
    ∀ (m i : Nat) (s : Shared), n - i = m → i ≤ n → St i s →
      Heap.SetOf kd s.heap S (fun k => decide (k ∈ dd [] (ks.take i))) (dd [] (ks.take i)).length →
      (∀ s', Moved (S :: wr) G s s' → Heap.SetOf kd s'.heap S (fun k => decide (k ∈ dd [] ks)) (dd [] ks).length → R (.ok (.ret .none)) s') →
      codeAny (model prog w) A (.builtin "set.update.loop" ⟨[.ref S, .ref I], []⟩) R s := by
  have nw : S ∉ wr := fun q => hSf (W.sub _ q)
  have up : ∀ c ∈ wr, c ∈ S :: wr := fun c hc => List.mem_cons_of_mem _ hc
  intro m
  induction m with
  | zero =>
    intro i s hm hi hst hS hR
    obtain rfl : i = n := by omega
    refine codeAny_builtin PyProof.Rows.F.entry_set_update_loop ?_
    rw [Around.under_plainId PyProof.Rows.F.plain_set_update_loop _]
    show wpAny _ A.in1 (pyNext (.ref I) >>= _) _ _ s
    refine wpAny_bind (W.done s _ _ hst fun s1 mv => ?_)
    refine wpAny_pure (hR s1 (mv.mono up) ?_)
    rw [← hlen, List.take_length] at hS
    obtain ⟨o, es, ep, t, ho, more⟩ := hS
    exact ⟨o, es, ep, t, mv.heap S _ nw ho, more⟩
  | succ m ih =>
    intro i s hm hi hst hS hR
    have lt : i < n := by omega
    obtain ⟨k0, hk0⟩ : ∃ k, ks[i]? = some k := ⟨ks[i]'(by omega), List.getElem?_eq_getElem (by omega)⟩
    refine codeAny_builtin PyProof.Rows.F.entry_set_update_loop ?_
    rw [Around.under_plainId PyProof.Rows.F.plain_set_update_loop _]
    show wpAny _ A.in1 (pyNext (.ref I) >>= _) _ _ s
    refine wpAny_bind (W.item i s _ _ lt hst fun v s1 hP hst1 mv => ?_)
    obtain ⟨hv, hsc⟩ := hat i v k0 hP hk0
    have hS1 : Heap.SetOf kd s1.heap S (fun k => decide (k ∈ dd [] (ks.take i))) (dd [] (ks.take i)).length := by
      obtain ⟨o, es, ep, t, ho, more⟩ := hS
      exact ⟨o, es, ep, t, mv.heap S _ nw ho, more⟩
    show wpAny _ A.in1 (holding [v] (setAdd S v) >>= _) _ _ s1
    refine wpAny_bind (wpAny_holding ?_)
    unfold setAdd
    refine wpAny_holding ?_
    refine wpAny_bind (kd.pyHash (k := k0) hv ?_)
    have small : (dd [] (ks.take i)).length + 1 < scanBound := by
      have q := dd_len_le (ks.take i) []
      rw [List.length_take, List.length_nil] at q
      unfold scanBound
      omega
    refine wpAny_setAddHashed_of (knd := kd) (s := { s1 with toks := s1.toks + 1 }) hv hsc hS1 small fun h2 sb hS2 => ?_
    have et : ks.take (i + 1) = ks.take i ++ [k0] := by
      rw [List.take_add_one, hk0] <;> rfl
    have hS3 : Heap.SetOf kd h2 S (fun k => decide (k ∈ dd [] (ks.take (i + 1)))) (dd [] (ks.take (i + 1))).length := by
      rw [et, dd_snoc]
      by_cases hin : k0 ∈ dd [] (ks.take i)
      · rw [if_pos hin]
        rw [if_pos (decide_eq_true hin)] at hS2
        have e : (fun k' => decide (k' ∈ dd [] (ks.take i)) || decide (k' = k0)) = fun k => decide (k ∈ dd [] (ks.take i)) := by
          funext k'
          by_cases q : k' = k0
          · subst q
            simp [hin]
          · simp [q]
        rw [e] at hS2
        exact hS2
      · rw [if_neg hin]
        rw [if_neg (by simpa using hin)] at hS2
        have e : (fun k' => decide (k' ∈ dd [] (ks.take i)) || decide (k' = k0)) = fun k => decide (k ∈ dd [] (ks.take i) ++ [k0]) := by
          funext k'
          simp [List.mem_append]
        rw [e] at hS2
        rw [List.length_append]
        exact hS2
    refine wpAny_pure ⟨plainId_quiet PyProof.Rows.F.plain_set_update_loop _, ih (i + 1) _ (by omega) lt (W.frame _ s1 _ _ hst1 (Nat.le_succ _) fun c hc o e => ?_) hS3 fun s3 mv3 hS4 => ?_⟩
    · rw [sb.2 c (fun z : c = S => hSf (by rw [← z]; exact hc))]
      exact e
    · refine hR s3 (Moved.trans W.gtrans ((mv.mono up).then_heap (Nat.le_succ _) fun c o hc e => ?_) mv3) hS4
      rw [sb.2 c (fun z : c = S => hc (by rw [z]; exact List.mem_cons_self))]
      exact e
end
section
variable {prog : Program} {w : World} {A : Around} {E : Value → Shared → Prop} {s : Shared} {κ : Type} [DecidableEq κ] {kd : KeyKind prog w κ}
def blankSet (led : Bool) : Obj := { cls := .type "set", dict := none, data := .set #[] 0 (.fresh 0 0 led) }
/-- set(l), l a list (isT false) or a tuple (isT true) -/
theorem call_setK {l : Addr} {its : Array Value} {ks : List κ} {Q : Value → Shared → Prop} (hA : A.handled = none) (hl : s.heap.IsList l its ∨ s.heap.IsTuple l its)
    (hlen : ks.length = its.size) (hmax : its.size < 4000) (hat : ∀ (i : Nat) (v : Value) (k : κ), its[i]? = some v → ks[i]? = some k → kd.is k v = true ∧ v.scannable = true)
    (h : ∀ (h' : Heap) (tk : Nat), Heap.SetOf kd h' s.heap.objs.size (fun k => decide (k ∈ dd [] ks)) (dd [] ks).length →
      (∀ c o, c < s.heap.objs.size → s.heap.get? c = some o → h'.get? c = some o) → Q (.ref s.heap.objs.size) { s with heap := h', toks := tk }) :
    wpAny (model prog w) A (call (.type "set") [.ref l]) Q E s := by
  obtain ⟨c, tl, hmro⟩ := PySem.F.called_set.mro
  have hmade := PySem.F.called_set.made
  have hsub := PySem.F.called_set.sub
  refine wpAny_call (codeAny_of_tree ?_)
  show wpAny _ _ (callAny (.type "set") _) _ _ _
  refine wpAny_pure ⟨Code.quiet_builtin _ (by decide +kernel), codeAny_builtin PySem.F.entry_type_call ?_⟩
  rw [Around.under_plain (weight_type_call_type "set" [.ref l] []) rfl]
  have h1 := PySem.F.called_set.notType
  have h2 := PySem.F.called_set.canCreate
  have hct := PySem.F.typeCall_set_1 (.ref l)
  repeat (any_goals (first | assumption | wp_step))
  refine codeAny_mono (code_set_new_1 (.ref l) (E := E) (Q₁ := fun b s₁ => ∃ led : Bool, b = .ref s.heap.objs.size ∧ s₁ = { s with heap := s.heap.push (blankSet led) }) fun led => ⟨led, rfl, rfl⟩) fun r s₁ hr => ?_
  cases r with
  | error e => exact hr
  | ok fl =>
    cases fl with
    | ret b =>
      obtain ⟨led, rfl, rfl⟩ := hr
      have hS : (s.heap.push (blankSet led)).get? s.heap.objs.size = some (blankSet led) := Heap.get?_push_size _ rfl
      have hT : Shared.TypeIs { s with heap := s.heap.push (blankSet led) } (.ref s.heap.objs.size) "set" := ⟨_, hS, rfl⟩
      have hli := PySem.F.called_set.init.lookup
      have hbi := PySem.F.called_set.init.bind (.ref s.heap.objs.size)
      repeat (any_goals (first | assumption | wp_step))
      refine codeAny_mono (codeAny_call_builtin (R := wants (fun r s₂ => r = .none ∧ ∃ h' tk, s₂ = { s with heap := h', toks := tk } ∧
          Heap.SetOf kd h' s.heap.objs.size (fun k => decide (k ∈ dd [] ks)) (dd [] ks).length ∧
          (∀ c o, c < s.heap.objs.size → s.heap.get? c = some o → h'.get? c = some o)) E) PySem.F.called_set.init.plain PySem.F.entry_set_init (check_set_init_1 hT ?_)) fun r₂ s₂ hr₂ => ?_
      · have fin : ∀ (s1 : Shared) (I : Addr), I ≠ s.heap.objs.size → s.heap.objs.size < I → Moved [s.heap.objs.size, I] (fun a b => a = b) { s with heap := (s.heap.push (blankSet led)) } s1 → True := fun _ _ _ _ _ => trivial
        clear fin
        rcases hl with hl | hl
        · obtain ⟨ol, hol, hcl, nl, hdl⟩ := hl
          obtain ⟨ocls, odict, odata, oslots⟩ := ol
          simp only at hcl hdl
          subst hcl; subst hdl
          have hol' : (s.heap.push (blankSet led)).get? l = some { cls := .type "list", dict := odict, data := .seq its nl, slots := oslots } := Heap.get?_push_of_some _ hol
          have hsls := PySem.F.sub_list_set
          have hslf := PySem.F.sub_list_frozenset
          have hne : (Value.type "list" == Value.type "dict") = false := by decide
          have hl1 : (s.heap.push (blankSet led)).IsList l its := ⟨_, hol', rfl, nl, rfl⟩
          unfold Builtin.«set.__init__» noKeywords Builtin.Frozenset.updateFrom
          generalize hPI : pyIter = PI
          wp_walk
          subst hPI
          refine wpAny_pyIter_list hl1 ?_
          refine wpAny_bind (wpAny_runValue ?_)
          have hlS : l < s.heap.objs.size := Heap.lt_size hol
          have h3 : A.in1.in1.in1.handled = none := by simp [hA]
          have nI : l ≠ (s.heap.push (blankSet led)).objs.size := by
            rw [Heap.size_push]; exact Nat.ne_of_lt (Nat.lt_succ_of_lt hlS)
          have nS : s.heap.objs.size ∉ [(s.heap.push (blankSet led)).objs.size, l] := by
            rw [Heap.size_push]; simp only [List.mem_cons, List.mem_singleton, List.not_mem_nil, or_false, not_or]
            exact ⟨Nat.ne_of_lt (Nat.lt_succ_self _), Nat.ne_of_gt hlS⟩
          refine turnK (kd := kd) ((Walks.list h3 _ l nI its).toS) s.heap.objs.size nS ks hlen hmax (fun i v k hv hk => hat i v k hv hk) (its.size - 0) 0 _ (by omega) (Nat.zero_le _) ⟨⟨_, Heap.get?_push_size _ rfl, rfl, rfl⟩, (hl1.push _)⟩ ?hS0 ?hR
          case hS0 =>
            have hget : ((s.heap.push (blankSet led)).push { cls := .type "list_iterator", data := .fields #[.ref l, .int 0 0] }).get? s.heap.objs.size = some (blankSet led) := Heap.get?_push_of_some _ hS
            exact PyProof.Rows.SetOf_congr ((PyProof.Rows.setObjOf_fresh (knd := kd) led).setOf hget (by unfold scanBound; omega)) (fun _ => rfl) rfl
          case hR =>
            intro s' mv hS'
            obtain ⟨h', g', d', tk', os'⟩ := s'
            obtain rfl : g' = s.gens := mv.gens
            obtain rfl : d' = s.drawn := mv.drawn
            obtain rfl : os' = s.os := mv.os
            show wpAny _ _ _ _ _ _
            refine wpAny_pure ?_
            show wpAny _ _ (ret Value.none) _ _ _
            refine wpAny_pure ⟨rfl, h', tk', rfl, hS', fun c o hc e => ?_⟩
            have n1 : c ≠ s.heap.objs.size := Nat.ne_of_lt hc
            have n2 : c ≠ (s.heap.push (blankSet led)).objs.size := by
              rw [Heap.size_push]; exact Nat.ne_of_lt (Nat.lt_succ_of_lt hc)
            exact mv.heap c o (by simp only [List.mem_cons, List.mem_singleton, List.not_mem_nil, or_false, not_or]; exact ⟨n1, n2⟩) (Heap.get?_push_of_some _ (Heap.get?_push_of_some _ e))
        · obtain ⟨ol, hol, hcl, nl, hdl⟩ := hl
          obtain ⟨ocls, odict, odata, oslots⟩ := ol
          simp only at hcl hdl
          subst hcl; subst hdl
          have hol' : (s.heap.push (blankSet led)).get? l = some { cls := .type "tuple", dict := odict, data := .seq its nl, slots := oslots } := Heap.get?_push_of_some _ hol
          have hsls := PySem.F.sub_tuple_set
          have hslf := PySem.F.sub_tuple_frozenset
          have hne : (Value.type "tuple" == Value.type "dict") = false := by decide
          have hl1 : (s.heap.push (blankSet led)).IsTuple l its := ⟨_, hol', rfl, nl, rfl⟩
          unfold Builtin.«set.__init__» noKeywords Builtin.Frozenset.updateFrom
          generalize hPI : pyIter = PI
          wp_walk
          subst hPI
          refine wpAny_pyIter_tuple hl1 ?_
          refine wpAny_bind (wpAny_runValue ?_)
          have hlS : l < s.heap.objs.size := Heap.lt_size hol
          have h3 : A.in1.in1.in1.handled = none := by simp [hA]
          have nI : l ≠ (s.heap.push (blankSet led)).objs.size := by
            rw [Heap.size_push]; exact Nat.ne_of_lt (Nat.lt_succ_of_lt hlS)
          have nS : s.heap.objs.size ∉ [(s.heap.push (blankSet led)).objs.size, l] := by
            rw [Heap.size_push]; simp only [List.mem_cons, List.mem_singleton, List.not_mem_nil, or_false, not_or]
            exact ⟨Nat.ne_of_lt (Nat.lt_succ_self _), Nat.ne_of_gt hlS⟩
          refine turnK (kd := kd) ((Walks.tuple h3 _ l nI its).toS) s.heap.objs.size nS ks hlen hmax (fun i v k hv hk => hat i v k hv hk) (its.size - 0) 0 _ (by omega) (Nat.zero_le _) ⟨⟨_, Heap.get?_push_size _ rfl, rfl, rfl⟩, (hl1.push _)⟩ ?hS0 ?hR
          case hS0 =>
            have hget : ((s.heap.push (blankSet led)).push { cls := .type "tuple_iterator", data := .fields #[.ref l, .int 0 0] }).get? s.heap.objs.size = some (blankSet led) := Heap.get?_push_of_some _ hS
            exact PyProof.Rows.SetOf_congr ((PyProof.Rows.setObjOf_fresh (knd := kd) led).setOf hget (by unfold scanBound; omega)) (fun _ => rfl) rfl
          case hR =>
            intro s' mv hS'
            obtain ⟨h', g', d', tk', os'⟩ := s'
            obtain rfl : g' = s.gens := mv.gens
            obtain rfl : d' = s.drawn := mv.drawn
            obtain rfl : os' = s.os := mv.os
            show wpAny _ _ _ _ _ _
            refine wpAny_pure ?_
            show wpAny _ _ (ret Value.none) _ _ _
            refine wpAny_pure ⟨rfl, h', tk', rfl, hS', fun c o hc e => ?_⟩
            have n1 : c ≠ s.heap.objs.size := Nat.ne_of_lt hc
            have n2 : c ≠ (s.heap.push (blankSet led)).objs.size := by
              rw [Heap.size_push]; exact Nat.ne_of_lt (Nat.lt_succ_of_lt hc)
            exact mv.heap c o (by simp only [List.mem_cons, List.mem_singleton, List.not_mem_nil, or_false, not_or]; exact ⟨n1, n2⟩) (Heap.get?_push_of_some _ (Heap.get?_push_of_some _ e))
      · cases r₂ with
        | error e => exact hr₂
        | ok fl₂ =>
          cases fl₂ with
          | ret r =>
            obtain ⟨rfl, h', tk, rfl, hS', hk'⟩ := hr₂
            repeat (any_goals (first | assumption | wp_step))
            exact h _ _ hS' hk'
          | _ => exact hr₂.elim
    | _ => exact hr.elim
end
end EvS
namespace L2
open PySem PySem.Spec PyProof.Rows EvS
section
variable {X : Cx}
/-- len(set(xs)), xs a list or a tuple of texts -/
def tLenSetS (K : PySem.W.Frag) (ta : TE) : TE := fun σ H Q => ta σ H fun x H1 => ∃ (l : Addr) (xs : List Str), x = .ref l ∧ (SqL K H1 l (xs.map V.str) ∨ SqT K H1 l (xs.map V.str)) ∧ xs.length < 4000 ∧ Q (.int ((dd [] xs).length : Nat)) H1
theorem texts_at : ∀ {xs : List Str} {us : List Value}, Vals (xs.map V.str) us → ∀ (i : Nat) (v : Value) (k : Str), us[i]? = some v → xs[i]? = some k → ∃ t, v = Value.str k t
  | [], _, _, i, v, k, _, h => by simp at h
  | x :: xs, _, .cons r t, 0, v, k, h1, h2 => by
    obtain ⟨tk, rfl⟩ := r
    simp only [List.getElem?_cons_zero, Option.some.injEq] at h1 h2
    subst h1 h2
    exact ⟨tk, rfl⟩
  | x :: xs, _, .cons r t, i + 1, v, k, h1, h2 => by
    simp only [List.getElem?_cons_succ] at h1 h2
    exact texts_at t i v k h1 h2
theorem pe_lenSetS {a : Expr} {ta : TE} {p p2 q pos : Pos} (hc : X.calm = true) (hg : Gl X "len") (hm : X.mg "len" = none) (hg2 : Gl X "set") (hm2 : X.mg "set" = none) (ha : PE X a ta)
    (na : starEach [a] X.env = (false, eval a X.env) :: starEach [] X.env := by rfl) : PE X (.Call (.Name "len" p) [.Call (.Name "set" p2) [a] [] q] [] pos) (tLenSetS X.K ta) := by
  refine ⟨fun pins s σ H Q I h => ?_⟩
  refine Call_ (ld_blt I hg hm boot_len ?_)
  refine PyProof.Rows.callWith_builtin1 (PyProof.Rows.args_cons ?_ rfl) rfl rfl
  refine Call_ (ld_blt I hg2 hm2 boot_set ?_)
  refine PyProof.Rows.callWith_type1 (PyProof.Rows.args_cons (thn (ha.run pins s σ H _ I h) fun v s1 ⟨x, H1, I1, r1, q1⟩ => PyProof.Rows.args_nil ?_) na) na rfl
  obtain ⟨l, xs, rfl, hq, hmax, q1⟩ := q1
  cases r1
  have go : ∀ (its : List Value), Vals (xs.map V.str) its → (s1.heap.IsList l its.toArray ∨ s1.heap.IsTuple l its.toArray) →
      wpAny (model X.prog X.w) X.A (call (.type "set") [.ref l]) (fun v s₂ => wpAny (model X.prog X.w) X.A (spliced (backTo pos (starEach [] X.env))) (fun vs s₃ => wpAny (model X.prog X.w) X.A (call (.builtin "len") (v :: vs)) (EP X pins σ Q) X.xe s₃) X.xe s₂) X.xe s1 := fun its r pl => by
    have hl : its.toArray.size = xs.length := by rw [List.size_toArray, ← r.length, List.length_map]
    refine call_setK (kd := PySem.strKind X.prog X.w) (ks := xs) (I1.ok.hd hc) pl hl.symm (by rw [hl]; exact hmax) (fun i v k hv hk => ?_) fun h' tk hS hk => ?_
    · obtain ⟨t, rfl⟩ := texts_at r i v k (by rw [List.getElem?_toArray] at hv; exact hv) hk
      exact ⟨strKind_is _ _ _ _, rfl⟩
    · refine PyProof.Rows.args_nil ?_
      obtain ⟨o, es, ep, t, ho, hex, hd, _, _, _, hf, hn⟩ := hS
      have I2 : Inv X pins σ H1 { s1 with heap := h', toks := tk } := I1.kept fun c o e => hk c o (Heap.lt_size e) e
      have sm := dd_len_le xs []
      rw [List.length_nil] at sm
      exact call_len_set ho hex hd hf (by rw [hn] <;> omega) ⟨.int ((dd [] xs).length : Nat), H1, I2.tok _, ⟨_, by rw [hn]⟩, q1⟩
  rcases hq with hq | hq
  · obtain ⟨its, r, pl, hz⟩ := I1.list hq
    exact go its r (.inl pl.isList)
  · obtain ⟨its, r, pl, hz⟩ := I1.tuple hq
    exact go its r (.inr pl)
end
end L2

set_option Elab.async false
set_option linter.all false
set_option maxRecDepth 100000
set_option maxHeartbeats 4000000
namespace EvS
open PySem PySem.Spec PyProof.Rows L2
section
variable {X : Cx}
def rTupK (K : PySem.W.Frag) : List V → Hp → VK → Prop := fun xs H Q => ∃ p ys, xs = [.ref p] ∧ ((SqL K H p ys ∧ ∀ l, H l = none → Q (.ref l) (upd H l (.tup ys))) ∨ (SqT K H p ys ∧ Q (.ref p) H))
theorem call_tupK : CallR X (.type "tuple") (rTupK X.K) := call_tuple_of
/-- tuple(xs), xs a list or a tuple -/
def rTupS (K : PySem.W.Frag) : List V → Hp → VK → Prop := fun xs H Q => ∃ p ys, xs = [.ref p] ∧ (SqL K H p ys ∨ SqT K H p ys) ∧ ∀ u H', Evl.Ex H H' → SqT K H' u ys → Q (.ref u) H'
theorem call_tupS : CallR X (.type "tuple") (rTupS X.K) := fun pins s σ H xs us Q I r h => by
  obtain ⟨p, ys, e, hs, q⟩ := h
  refine call_tuple_of pins s σ H xs us Q I r ⟨p, ys, e, ?_⟩
  rcases hs with hs | hs
  · exact .inl ⟨hs, fun l hl => q l _ (Evl.Ex.new hl) (Evl.st_of upd_same)⟩
  · exact .inr ⟨hs, q p H (Evl.Ex.refl H) hs⟩
def rLstK (K : PySem.W.Frag) : List V → Hp → VK → Prop := fun xs H Q => ∃ p ys, xs = [.ref p] ∧ (SqL K H p ys ∨ SqT K H p ys) ∧ ∀ l, H l = none → Q (.ref l) (upd H l (.lst ys))
theorem call_lstK : CallR X (.type "list") (rLstK X.K) := call_list_of
/-- what is never reached -/
theorem pss_any {b : List Stmt} : PSs X b (fun _ _ _ => False) := ⟨fun _ _ _ _ _ _ q => q.elim⟩
theorem ps_any {b : Stmt} : PS X b (fun _ _ _ => False) := ⟨fun _ _ _ _ _ _ q => q.elim⟩
theorem pe_any {e : Expr} : PE X e (fun _ _ _ => False) := ⟨fun _ _ _ _ _ _ q => q.elim⟩
theorem pt_any {e : Expr} : PT X e (fun _ _ _ => False) := ⟨fun _ _ _ _ _ _ q => q.elim⟩
/-- the one way or the other -/
theorem pi_or {tg it : Expr} {w1 w2 : TI} (a : PI X tg it w1) (b : PI X tg it w2) : PI X tg it (fun σ H R => w1 σ H R ∨ w2 σ H R) :=
  ⟨fun pins s σ H R I h => h.elim (fun q => a.run pins s σ H R I q) (fun q => b.run pins s σ H R I q)⟩
theorem pe_or2 {e : Expr} {t1 t2 : TE} (a : PE X e t1) (b : PE X e t2) : PE X e (fun σ H Q => t1 σ H Q ∨ t2 σ H Q) :=
  ⟨fun pins s σ H Q I h => h.elim (fun q => a.run pins s σ H Q I q) (fun q => b.run pins s σ H Q I q)⟩
end
section
variable {X : Cx}
theorem pe_gI {x : Str} {n : Int} {pos : Pos} (hg : Gl X x) (h : ∃ t, X.mg x = some (.int n t)) (hd : (x == ("__debug__" : Str)) = false := by decide) : PE X (.Name x pos) (tC (.int n)) := by
  obtain ⟨t, e⟩ := h
  exact pe_glob hg e ⟨t, rfl⟩ hd
theorem pe_gS {x : Str} {z : Str} {pos : Pos} (hg : Gl X x) (h : ∃ t, X.mg x = some (.str z t)) (hd : (x == ("__debug__" : Str)) = false := by decide) : PE X (.Name x pos) (tC (.str z)) := by
  obtain ⟨t, e⟩ := h
  exact pe_glob hg e ⟨t, rfl⟩ hd
end
/-- a op b op c op d, as a test -/
def tChain3 (r1 r2 r3 : R2) (ta tb tc td : TE) : TE := fun σ H Q => ta σ H fun x H1 => tb σ H1 fun y H2 => r1 x y H2 fun z H3 => ∃ k, z = .bl k ∧ (if k = true then tc σ H3 fun u H4 => r2 y u H4 fun z' H5 => ∃ k', z' = .bl k' ∧ (if k' = true then td σ H5 fun v H6 => r3 u v H6 Q else Q (.bl false) H5) else Q (.bl false) H3)
theorem pt_chain3 {X : Cx} {a b c d : Expr} {ta tb tc td : TE} {pos : Pos} {o1 o2 o3 : CmpOp} {r1 r2 r3 : R2} (h1 : OpR X (compareOp o1) r1) (h2 : OpR X (compareOp o2) r2) (h3 : OpR X (compareOp o3) r3) (ha : PE X a ta) (hb : PE X b tb) (hc : PE X c tc) (hd : PE X d td)
    (hm : lastMarks [o1, o2, o3] [b, c, d] = false := by with_unfolding_all rfl) : PT X (.Compare a [o1, o2, o3] [b, c, d] pos) (tTest (tChain3 r1 r2 r3 ta tb tc td)) := by
  refine ⟨fun pins s σ H Q I h => ?_⟩
  refine isTrue_chain (thn (ha.run pins s σ H _ I h) fun v1 s1 ⟨x, H1, I1, y1, q1⟩ => test_link (thn (hb.run pins s1 σ H1 _ I1 q1) fun v2 s2 ⟨y, H2, I2, y2, q2⟩ => thn (h1 pins s2 σ H2 x y v1 v2 _ I2 y1 y2 q2) fun v3 s3 ⟨z, H3, I3, y3, k, e, q3⟩ => ?_)) hm
  subst e
  cases y3
  refine wpAny_truthy_bool ?_
  cases k with
  | false =>
    obtain ⟨k', e', q'⟩ := q3
    cases e'
    exact ite_ff ⟨H3, I3, q'⟩
  | true =>
    refine ite_tt (test_link (thn (hc.run pins s3 σ H3 _ I3 q3) fun v4 s4 ⟨u, H4, I4, y4, q4⟩ => thn (h2 pins s4 σ H4 y u v2 v4 _ I4 y2 y4 q4) fun v5 s5 ⟨z', H5, I5, y5, k', e', q5⟩ => ?_))
    subst e'
    cases y5
    refine wpAny_truthy_bool ?_
    cases k' with
    | false =>
      obtain ⟨k2, e2, q2'⟩ := q5
      cases e2
      exact ite_ff ⟨H5, I5, q2'⟩
    | true =>
      refine ite_tt (test_last (thn (hd.run pins s5 σ H5 _ I5 q5) fun v6 s6 ⟨v, H6, I6, y6, q6⟩ => thn (h3 pins s6 σ H6 u v v4 v6 _ I6 y4 y6 q6) fun v7 s7 ⟨z2, H7, I7, y7, k2, e2, q7⟩ => ?_))
      subst e2
      cases y7
      exact wpAny_truthy_bool ⟨H7, I7, q7⟩
theorem for_sign {x : Str} {g : TG} {tb : TS} {D : Ends} {σ : L2.St} {H : Hp} (Pv : Nat → L2.St → Hp → Prop) (h0 : Pv 0 σ H)
    (hs : ∀ i c σ H, x.cps[i]? = some c → Pv i σ H → g (.str ⟨#[c]⟩) σ H fun σ2 H2 => tb { D with nx := Pv (i + 1), ct := Pv (i + 1), bk := D.nx } σ2 H2) (hd : ∀ σ H, Pv x.cps.size σ H → D.nx σ H) :
    ∃ W : Nat → Nat → L2.St → Hp → Prop, (∃ m, W 0 m σ H) ∧ ∀ i m σ H, W i m σ H → ((Its x).stop i H ∧ D.nx σ H) ∨
      ((Its x).go i H ∧ ∃ N : L2.St → Hp → Prop, (∀ σ' H', N σ' H' → ∃ m', m' < m ∧ W (i + 1) m' σ' H') ∧ ∀ v H', (Its x).yld i H v H' → g v σ H' fun σ2 H2 => tb { D with nx := N, ct := N, bk := D.nx } σ2 H2) := by
  refine ⟨fun i m σ H => m = x.cps.size - i ∧ i ≤ x.cps.size ∧ Pv i σ H, ⟨x.cps.size, rfl, Nat.zero_le _, h0⟩, ?_⟩
  rintro i m σ H ⟨rfl, hi, p⟩
  by_cases lt : i < x.cps.size
  · refine .inr ⟨lt, Pv (i + 1), fun σ' H' p' => ⟨x.cps.size - (i + 1), by omega, rfl, lt, p'⟩, fun v H' y => ?_⟩
    obtain ⟨rfl, c, hc, rfl⟩ := y
    exact hs i c σ _ hc p
  · obtain rfl : i = x.cps.size := by omega
    exact .inl ⟨Nat.le_refl _, hd σ H p⟩
theorem lc_sign {x : Str} {g : TG} {tt : TT} {te : TE} {vs : List Nat} {σ : L2.St} {H1 : Hp} {D : Addr} {Qd : Hp → Prop} (Pv : Nat → Hp → Prop) (h0 : Pv 0 (upd H1 D (.lst [])))
    (hs : ∀ i c H, x.cps[i]? = some c → Pv i H → g (.str ⟨#[c]⟩) (wipe σ vs) H fun σ2 H2 => wipe σ2 vs = wipe σ vs ∧ tt σ2 H2 fun b H3 =>
      if b = true then te σ2 H3 fun y H4 => ∃ acc, H4 D = some (.lst acc) ∧ acc.length < sizeLine ∧ Pv (i + 1) (upd H4 D (.lst (acc ++ [y]))) else Pv (i + 1) H3) (hd : ∀ H, Pv x.cps.size H → Qd H) :
    ∃ W : Nat → Nat → Hp → Prop, (∃ m, W 0 m (upd H1 D (.lst []))) ∧ ∀ i m H, W i m H → ((Its x).stop i H ∧ Qd H) ∨
      ((Its x).go i H ∧ ∃ Nx : Hp → Prop, (∀ H', Nx H' → ∃ m', m' < m ∧ W (i + 1) m' H') ∧ ∀ v H', (Its x).yld i H v H' → g v (wipe σ vs) H' fun σ2 H2 => wipe σ2 vs = wipe σ vs ∧ tt σ2 H2 fun b H3 =>
        if b = true then te σ2 H3 fun y H4 => ∃ acc, H4 D = some (.lst acc) ∧ acc.length < sizeLine ∧ Nx (upd H4 D (.lst (acc ++ [y]))) else Nx H3) := by
  refine ⟨fun i m H => m = x.cps.size - i ∧ i ≤ x.cps.size ∧ Pv i H, ⟨x.cps.size, rfl, Nat.zero_le _, h0⟩, ?_⟩
  rintro i m H ⟨rfl, hi, p⟩
  by_cases lt : i < x.cps.size
  · refine .inr ⟨lt, Pv (i + 1), fun H' p' => ⟨x.cps.size - (i + 1), by omega, rfl, lt, p'⟩, fun v H' y => ?_⟩
    obtain ⟨rfl, c, hc, rfl⟩ := y
    exact hs i c _ hc p
  · obtain rfl : i = x.cps.size := by omega
    exact .inl ⟨Nat.le_refl _, hd H p⟩
/-- the same of a comprehension without a test -/
theorem lcY_sign {x : Str} {g : TG} {te : TE} {vs : List Nat} {σ : L2.St} {H1 : Hp} {D : Addr} {Qd : Hp → Prop} (Pv : Nat → Hp → Prop) (h0 : Pv 0 (upd H1 D (.lst [])))
    (hs : ∀ i c H, x.cps[i]? = some c → Pv i H → g (.str ⟨#[c]⟩) (wipe σ vs) H fun σ2 H2 => wipe σ2 vs = wipe σ vs ∧ te σ2 H2 fun y H4 => ∃ acc, H4 D = some (.lst acc) ∧ acc.length < sizeLine ∧ Pv (i + 1) (upd H4 D (.lst (acc ++ [y])))) (hd : ∀ H, Pv x.cps.size H → Qd H) :
    ∃ W : Nat → Nat → Hp → Prop, (∃ m, W 0 m (upd H1 D (.lst []))) ∧ ∀ i m H, W i m H → ((Its x).stop i H ∧ Qd H) ∨
      ((Its x).go i H ∧ ∃ Nx : Hp → Prop, (∀ H', Nx H' → ∃ m', m' < m ∧ W (i + 1) m' H') ∧ ∀ v H', (Its x).yld i H v H' → g v (wipe σ vs) H' fun σ2 H2 => wipe σ2 vs = wipe σ vs ∧ tYes σ2 H2 fun b H3 =>
        if b = true then te σ2 H3 fun y H4 => ∃ acc, H4 D = some (.lst acc) ∧ acc.length < sizeLine ∧ Nx (upd H4 D (.lst (acc ++ [y]))) else Nx H3) :=
  lc_sign Pv h0 (fun i c H hc p => hs i c H hc p) hd
theorem lcY_list {K : PySem.W.Frag} {a : Addr} {xs : List V} {g : TG} {te : TE} {vs : List Nat} {σ : L2.St} {H1 : Hp} {D : Addr} {Qd : Hp → Prop} (Pv : Nat → Hp → Prop) (h0 : Pv 0 (upd H1 D (.lst []))) (hl : ∀ i H, i ≤ xs.length → Pv i H → SqL K H a xs)
    (hs : ∀ i x H, xs[i]? = some x → Pv i H → g x (wipe σ vs) H fun σ2 H2 => wipe σ2 vs = wipe σ vs ∧ te σ2 H2 fun y H4 => ∃ acc, H4 D = some (.lst acc) ∧ acc.length < sizeLine ∧ Pv (i + 1) (upd H4 D (.lst (acc ++ [y])))) (hd : ∀ H, Pv xs.length H → Qd H) :
    ∃ W : Nat → Nat → Hp → Prop, (∃ m, W 0 m (upd H1 D (.lst []))) ∧ ∀ i m H, W i m H → ((Itl K a).stop i H ∧ Qd H) ∨
      ((Itl K a).go i H ∧ ∃ Nx : Hp → Prop, (∀ H', Nx H' → ∃ m', m' < m ∧ W (i + 1) m' H') ∧ ∀ x H', (Itl K a).yld i H x H' → g x (wipe σ vs) H' fun σ2 H2 => wipe σ2 vs = wipe σ vs ∧ tYes σ2 H2 fun b H3 =>
        if b = true then te σ2 H3 fun y H4 => ∃ acc, H4 D = some (.lst acc) ∧ acc.length < sizeLine ∧ Nx (upd H4 D (.lst (acc ++ [y]))) else Nx H3) :=
  lc_list Pv h0 hl (fun i c H hc p => hs i c H hc p) hd
theorem lcY_tup {K : PySem.W.Frag} {a : Addr} {xs : List V} {g : TG} {te : TE} {vs : List Nat} {σ : L2.St} {H1 : Hp} {D : Addr} {Qd : Hp → Prop} (Pv : Nat → Hp → Prop) (h0 : Pv 0 (upd H1 D (.lst []))) (hl : ∀ i H, i ≤ xs.length → Pv i H → SqT K H a xs)
    (hs : ∀ i x H, xs[i]? = some x → Pv i H → g x (wipe σ vs) H fun σ2 H2 => wipe σ2 vs = wipe σ vs ∧ te σ2 H2 fun y H4 => ∃ acc, H4 D = some (.lst acc) ∧ acc.length < sizeLine ∧ Pv (i + 1) (upd H4 D (.lst (acc ++ [y])))) (hd : ∀ H, Pv xs.length H → Qd H) :
    ∃ W : Nat → Nat → Hp → Prop, (∃ m, W 0 m (upd H1 D (.lst []))) ∧ ∀ i m H, W i m H → ((Itt K a).stop i H ∧ Qd H) ∨
      ((Itt K a).go i H ∧ ∃ Nx : Hp → Prop, (∀ H', Nx H' → ∃ m', m' < m ∧ W (i + 1) m' H') ∧ ∀ x H', (Itt K a).yld i H x H' → g x (wipe σ vs) H' fun σ2 H2 => wipe σ2 vs = wipe σ vs ∧ tYes σ2 H2 fun b H3 =>
        if b = true then te σ2 H3 fun y H4 => ∃ acc, H4 D = some (.lst acc) ∧ acc.length < sizeLine ∧ Nx (upd H4 D (.lst (acc ++ [y]))) else Nx H3) :=
  lc_tup Pv h0 hl (fun i c H hc p => hs i c H hc p) hd
theorem exc_self {K : PySem.W.Frag} {S : Addr} (h1 : PySem.W.subIn K (.ref S) (.type "BaseException") = some true) (h2 : PySem.W.isClsIn K S = true) (h3 : PySem.W.typeIn K (.ref S) = some (.type "type")) (h4 : PySem.W.subIn K (.ref S) (.ref S) = some true) :
    PySem.W.exmOne K (.ref S) (.ref S) = some true := by
  have e1 : (PySem.W.subIn K (.ref S) (.type "BaseException") == some true) = true := by rw [h1] <;> rfl
  have e2 : ((PySem.W.clsIn K S).isSome && PySem.W.typeIn K (.ref S) == some (.type "type")) = true := by
    have h2' : (PySem.W.clsIn K S).isSome = true := h2
    rw [h2', h3] <;> rfl
  show (if (PySem.W.subIn K (.ref S) (.type "BaseException") == some true) = true then (if ((PySem.W.clsIn K S).isSome && PySem.W.typeIn K (.ref S) == some (.type "type")) = true then PySem.W.subIn K (.ref S) (.ref S) else none) else none) = some true
  rw [if_pos e1, if_pos e2]
  exact h4
end EvS
namespace EvS
open PySem PySem.Spec PyProof.Rows L2
theorem r65 {k : Nat} {A : Around} (r : Room k A) : A.units + 65 < cLine := by have := r.un; omega
theorem blkOk_nest {X : Cx} {s : Shared} {H : Hp} {scope inner : Scope} {C : Addr} {cl : List (Str × Addr)} {fp : List Addr} {own : List (Str × Nat)} {N : List Str} {sc : Scope} (hN : X.N = N) (hs : X.env.scope = sc) (h : blkC N (relS scope sc) inner own = true) :
    BlkOk (X.blk s H scope (compEnvC scope cl C X.env) fp).N (X.blk s H scope (compEnvC scope cl C X.env) fp).env.scope inner own := by
  subst hN hs
  exact blkOk_by h
end EvS

set_option Elab.async false
set_option linter.all false
set_option maxRecDepth 100000
set_option maxHeartbeats 4000000
/-! len(set(xs)), xs a list of different tuples of texts (fewer than 64) -/
namespace TxSet
open PySem PySem.Spec PyProof.Rows L2
section
variable {P : Program} {w : World} {A : Around} {E : Value → Shared → Prop} {s : Shared}
abbrev TwAt (P : Program) (w : World) (h : Heap) (k : List Str) (b : Addr) : Prop := IsTupleKey (PySem.strKind P w) h k b
abbrev hs (P : Program) (w : World) (k : List Str) : Int := tupleKeyHash (PySem.strKind P w) k
abbrev go0 (t : SetTable) (h : Int) : SetTable.Probe := runAt t.mask (SetTable.bits h % (t.mask + 1)) (SetTable.bits h)
theorem words_of {k : List Str} {vs : List Value} (h : ItemsAre (PySem.strKind P w) k vs) : ∀ v ∈ vs, ∃ z t, v = Value.str z t := by
  induction h with
  | nil => exact fun v hv => by cases hv
  | @cons k0 u ks us h1 _ ih =>
    intro v hv
    cases hv with
    | head =>
      obtain ⟨t, e⟩ := Value.isStrOf_shape h1
      exact ⟨k0, t, e⟩
    | tail _ q => exact ih v q
theorem noClass (n : Nat) (z : Str) (t : Tok) : ofAClassStatement n (.str z t) = pure false := by cases n <;> rfl
theorem byVal (n : Nat) (z : Str) (t : Tok) : hashByValue n (.str z t) = pure false := by cases n <;> rfl
theorem noClassT {k : List Str} {b : Addr} {Q : Bool → Shared → Prop} (hk : TwAt P w s.heap k b) (q : Q false s) : wpAny (model P w) A (ofAClassStatement 8 (.ref b)) Q E s := by
  have ty := hk.typeIs
  obtain ⟨o, its, n, ho, _, hd, hi⟩ := hk
  have all := words_of hi
  unfold ofAClassStatement
  refine wpAny_bind (wpAny_typeOf ty ?_)
  dsimp only
  simp only [show (("tuple" : String) == "tuple") = true by decide, if_true, Bool.not_true, Bool.false_eq_true, if_false]
  try refine wpAny_bind (wpAny_pure ?_)
  try simp only [Bool.not_true, Bool.false_eq_true, if_false]
  refine wpAny_bind (m := seqItems? (.ref b)) (wpAny_seqItems ho hd ?_)
  dsimp only
  refine wpAny_bind (m := forIn its _ _) ?_
  rw [← Array.forIn_toList]
  refine wpAny_forIn_list _ (fun l r s' => (∀ v ∈ l, ∃ z t, v = Value.str z t) ∧ r.1 = none ∧ s' = s) _ ?_ ?_ _ _ ⟨all, rfl, rfl⟩
  · rintro v l r s' ⟨hl, hr, rfl⟩
    obtain ⟨z, t, rfl⟩ := hl v List.mem_cons_self
    rw [noClass]
    refine wpAny_bind (wpAny_pure ?_)
    simp only [Bool.false_eq_true, if_false]
    exact wpAny_pure ⟨fun u hu => hl u (List.mem_cons_of_mem _ hu), rfl, rfl⟩
  · rintro ⟨r1, r2⟩ s' ⟨_, hr, rfl⟩
    simp only at hr
    subst hr
    exact wpAny_pure q
theorem byValT {k : List Str} {b : Addr} {Q : Bool → Shared → Prop} (hk : TwAt P w s.heap k b) (q : ∀ v, Q v s) : wpAny (model P w) A (hashByValue 8 (.ref b)) Q E s := by
  have ty := hk.typeIs
  obtain ⟨o, its, n, ho, _, hd, hi⟩ := hk
  have all := words_of hi
  unfold hashByValue
  refine wpAny_bind (wpAny_specialOf ty F.slot_tuple_hash.lookup ?_)
  refine wpAny_bind (m := seqItems? (.ref b)) (wpAny_seqItems ho hd ?_)
  refine wpAny_bind (m := forIn its _ _) ?_
  rw [← Array.forIn_toList]
  refine wpAny_forIn_list _ (fun l r s' => (∀ v ∈ l, ∃ z t, v = Value.str z t) ∧ r.1 = none ∧ s' = s) _ ?_ ?_ _ _ ⟨all, rfl, rfl⟩
  · rintro v l r s' ⟨hl, hr, rfl⟩
    obtain ⟨z, t, rfl⟩ := hl v List.mem_cons_self
    rw [byVal]
    refine wpAny_bind (wpAny_pure ?_)
    simp only [Bool.not_false, if_true]
    exact wpAny_pure (wpAny_pure (q false))
  · rintro ⟨r1, r2⟩ s' ⟨_, hr, rfl⟩
    simp only at hr
    subst hr
    exact wpAny_pure (q true)
/-- nothing of the table is shown -/
theorem hidden {k : List Str} {b : Addr} {Q : Bool → Shared → Prop} (hk : TwAt P w s.heap k b) {ys : List Value} (hy : ∀ y ∈ ys, ∃ c k2, y = Value.ref c ∧ TwAt P w s.heap k2 c) (q : Q false s) :
    wpAny (model P w) A (searchCouldBeSeen (.ref b) ys) Q E s := by
  unfold searchCouldBeSeen
  refine wpAny_bind (wpAny_forIn_list _ (fun l r s' => (∀ y ∈ l, ∃ c k2, y = Value.ref c ∧ TwAt P w s.heap k2 c) ∧ r.1 = none ∧ s' = s) _ ?_ ?_ _ _ ⟨hy, rfl, rfl⟩)
  · rintro v l r s' ⟨hl, hr, rfl⟩
    obtain ⟨c, k2, rfl, hc⟩ := hl v List.mem_cons_self
    have more := fun u hu => hl u (List.mem_cons_of_mem _ hu)
    dsimp only
    by_cases e : (b == c || (carriedByValue (.ref b) && carriedByValue (.ref c))) = true
    · exact wp_if_pos e (wpAny_pure ⟨more, rfl, rfl⟩)
    · refine wp_if_neg e (wpAny_bind (wpAny_eqIsQuiet_tuple hk ?_))
      simp only [Bool.not_true, Bool.false_eq_true, if_false]
      refine wpAny_bind (wpAny_eqIsQuiet_tuple hc ?_)
      simp only [Bool.not_true, Bool.false_eq_true, if_false]
      refine wpAny_bind (noClassT hk ?_)
      simp only [Bool.false_eq_true, if_false]
      refine wpAny_bind (noClassT hc ?_)
      simp only [Bool.false_eq_true, if_false]
      exact wpAny_pure ⟨more, rfl, rfl⟩
  · rintro ⟨r1, r2⟩ s' ⟨_, hr, rfl⟩
    simp only at hr
    subst hr
    exact wpAny_pure q
/-! ### the set as it grows -/
def cells (P : Program) (w : World) (L : List (Addr × List Str)) : List (Int × Value) := L.map fun p => (hs P w p.2, Value.ref p.1)
theorem cells_len (L : List (Addr × List Str)) : (cells P w L).length = L.length := List.length_map ..
structure Bag (P : Program) (w : World) (h : Heap) (a : Addr) (L : List (Addr × List Str)) (es : Array (Int × Value)) (ep : Nat) (t : SetTable) : Prop where
  obj : ∃ o, h.get? a = some o ∧ o.ExactSet ∧ o.data = .set es ep t
  cel : es.toList = cells P w L
  tab : TabOk t (L.map fun p => hs P w p.2)
  key : ∀ p ∈ L, TwAt P w h p.2 p.1
  lrn : w.params.followText "set-order" = true ∨ t.led = true
  rom : L.length * 5 < t.mask * 3
  sml : L.length < 64
variable {a : Addr} {L : List (Addr × List Str)} {es : Array (Int × Value)} {ep : Nat} {t : SetTable}
theorem Bag.size (B : Bag P w s.heap a L es ep t) : es.size = L.length := by
  rw [← Array.length_toList, B.cel, cells_len]
theorem Bag.places (B : Bag P w s.heap a L es ep t) : t.place.toList.length = L.length := by
  rw [Array.length_toList, B.tab.sz, List.length_map]
theorem Bag.fit (B : Bag P w s.heap a L es ep t) : t.fits es.size = true := by
  have q1 := B.places
  have q2 := B.size
  have q3 := B.rom
  rw [Array.length_toList] at q1
  unfold SetTable.fits SetTable.fill
  rw [B.tab.dm, Bool.and_eq_true, beq_iff_eq, decide_eq_true_eq]
  constructor
  · omega
  · show t.place.size + 0 ≤ t.mask
    omega
theorem Bag.cell (B : Bag P w s.heap a L es ep t) {i : Nat} {p : Addr × List Str} (h : L[i]? = some p) : es[i]? = some (hs P w p.2, Value.ref p.1) := by
  rw [← Array.getElem?_toList, B.cel]
  unfold cells
  rw [List.getElem?_map, h]
  rfl
theorem nth_plain (m : Nat) : ∀ (n : Nat) (p : SetTable.Probe), p.dummy = none → (nth m p n).dummy = none
  | 0, _, h => h
  | n + 1, p, h => by
    refine nth_plain m n (adv m p) ?_
    unfold adv
    split <;> exact h
/-- the search for what isn't there ends at the first empty slot of its way -/
theorem seek (B : Bag P w s.heap a L es ep t) {x : Addr} {k : List Str} (hx : TwAt P w s.heap k x) (hu : A.units < cLine) (away : ∀ p ∈ L, p.2 ≠ k) {K : Nat} (hK : K < 10 * SetTable.turns t.mask)
    (hfree : way t.mask (hs P w k) K ∉ t.place.toList) (hbusy : ∀ c, c < K → way t.mask (hs P w k) c ∈ t.place.toList) {Q : SetFound → Shared → Prop} (q : Q (.free (way t.mask (hs P w k) K) false) s) :
    ∀ (f c : Nat) (st : Option SetTable.Probe), st.getD (t.probeStart (hs P w k)) = nth t.mask (go0 t (hs P w k)) c → c ≤ K → K - c < f → wpAny (model P w) A (setSearchFrom a (.ref x) (hs P w k) true f st) Q E s := by
  intro f
  induction f with
  | zero => intro c st _ _ h; exact absurd h (Nat.not_lt_zero _)
  | succ f ih =>
    intro c st hst hc hf
    obtain ⟨o, ho, hex, hd⟩ := B.obj
    rw [setSearchFrom_succ]
    refine wpAny_bind (wpAny_setState_of ho hd B.fit ?_)
    dsimp only
    refine wp_if_neg (by unfold SetTable.gaveWay; rw [mask_odd B.tab.mok]; decide) ?_
    try refine wpAny_bind (wpAny_pure ?_)
    have shift : ∀ n, nth t.mask (nth t.mask (go0 t (hs P w k)) c) n = nth t.mask (go0 t (hs P w k)) (c + n) := fun n => (nth_add t.mask c _ n).symm
    have at_ : ∀ n, (nth t.mask (nth t.mask (go0 t (hs P w k)) c) n).j = way t.mask (hs P w k) (c + n) := fun n => congrArg SetTable.Probe.j (shift n)
    have back : c + (K - c) = K := by omega
    rcases go_spec t B.tab.ris B.tab.dm (fun i => (es[i]?.map (·.1)).getD 0) (hs P w k) (10 * SetTable.turns t.mask) (K - c) _ (nth_plain t.mask c _ rfl) (by omega) (fun n hn => by rw [at_]; exact hbusy _ (by omega)) (by rw [at_, back]; exact hfree) with ⟨n, i, hn, hi, _, _, e⟩ | ⟨_, e⟩
    · have e' : t.probe (fun i => (es[i]?.map (·.1)).getD 0) (hs P w k) (st.getD (t.probeStart (hs P w k))) = some (.candidate (way t.mask (hs P w k) (c + n)) i (nth t.mask (go0 t (hs P w k)) (c + (n + 1)))) := by
        rw [hst, ← at_, ← shift]
        exact e
      rw [e']
      dsimp only
      rw [at_] at hi
      have il : i < L.length := by
        rw [← B.places]
        exact (List.getElem?_eq_some_iff.mp hi).1
      obtain ⟨p, hp⟩ : ∃ p, L[i]? = some p := ⟨_, List.getElem?_eq_getElem il⟩
      have pin := List.mem_of_getElem? hp
      have other := away p pin
      have go : wpAny (model P w) A (searchRest a (.ref x) (hs P w k) true f es t (way t.mask (hs P w k) (c + n)) i (nth t.mask (go0 t (hs P w k)) (c + (n + 1)))) Q E s := by
        unfold searchRest
        rw [B.cell hp]
        dsimp only
        refine wpAny_bind (wpAny_holding (wpAny_eqBool_tuple hu (B.key p pin) hx ?_))
        refine wpAny_bind (wpAny_setState_of ho hd B.fit ?_)
        dsimp only
        refine wp_if_neg (by simp [other]) ?_
        try refine wpAny_bind (wpAny_pure ?_)
        rw [sameMem]
        dsimp only
        simp only [if_true, slot_live B.tab.ris hi, B.cell hp]
        refine wpAny_bind (wpAny_isSame_ref_self (wpAny_bind (wpAny_pure ?_)))
        simp only [if_true]
        refine wp_if_neg (by simp [other]) ?_
        exact ih (c + (n + 1)) _ rfl (by omega) (by omega)
      by_cases hl : t.led = true
      · refine wp_if_neg (by simp [hl]) ?_
        try refine wpAny_bind (wpAny_pure ?_)
        exact go
      · refine wp_if_pos (by simp [hl]) (wpAny_bind (hidden hx (fun y hy => ?_) ?_))
        · obtain ⟨d, hd1, hd2⟩ := List.mem_map.mp hy
          have m1 : d ∈ es.toList := by
            have : d ∈ es ∧ d.1 = hs P w k := by simpa using hd1
            simpa using this.1
          rw [B.cel] at m1
          obtain ⟨p2, m2, e2⟩ := List.mem_map.mp m1
          exact ⟨p2.1, p2.2, by rw [← hd2, ← e2], B.key p2 m2⟩
        · refine wp_if_neg (by decide) ?_
          try refine wpAny_bind (wpAny_pure ?_)
          exact go
    · have e' : t.probe (fun i => (es[i]?.map (·.1)).getD 0) (hs P w k) (st.getD (t.probeStart (hs P w k))) = some (.empty (way t.mask (hs P w k) K) none) := by
        have z := at_ (K - c)
        rw [back] at z
        rw [hst, ← z]
        exact e
      rw [e']
      dsimp only
      exact wpAny_pure q
/-! ### the set grows by one -/
theorem still {h h' : Heap} {k : List Str} {c : Addr} {o : Obj} (hk : TwAt P w h k c) (ho : h.get? a = some o) (hd : o.data = .set es ep t) (sb : Heap.SameBut a h h') : TwAt P w h' k c := by
  obtain ⟨u, its, n, hu, hc, hi, hw⟩ := hk
  refine ⟨u, its, n, ?_, hc, hi, hw⟩
  rw [sb.2 c fun z => ?_]
  · exact hu
  · rw [z, ho] at hu
    rw [← Option.some.inj hu, hd] at hi
    cases hi
theorem range_get {α : Type} (L : List α) : ∀ n, n ≤ L.length → (List.range n).filterMap (fun i => L[i]?) = L.take n
  | 0, _ => rfl
  | n + 1, h => by
    have lt : n < L.length := h
    rw [List.range_succ, List.filterMap_append, range_get L n (Nat.le_of_lt lt), List.take_add_one, List.getElem?_eq_getElem lt]
    simp [List.getElem?_eq_getElem lt]
theorem chosen (hc : es.toList = cells P w L) : ∀ l : List Nat, (∀ i ∈ l, i < L.length) → l.filterMap (fun i => es[i]?) = cells P w (l.filterMap fun i => L[i]?) ∧ (l.filterMap fun i => L[i]?).map (fun p => hs P w p.2) = l.map fun i => (es.map (·.1)).getD i 0
  | [], _ => ⟨rfl, rfl⟩
  | i :: l, h => by
    obtain ⟨e1, e2⟩ := chosen hc l fun j hj => h j (List.mem_cons_of_mem _ hj)
    have il := h i List.mem_cons_self
    have gL : L[i]? = some L[i] := List.getElem?_eq_getElem il
    have gE : es[i]? = some (hs P w (L[i]).2, Value.ref (L[i]).1) := by
      rw [← Array.getElem?_toList, hc]
      unfold cells
      rw [List.getElem?_map, gL]
      rfl
    have gD : (es.map (·.1)).getD i 0 = hs P w (L[i]).2 := by
      have z : (es.map (·.1))[i]? = some (hs P w (L[i]).2) := by
        rw [Array.getElem?_map, gE]
        rfl
      rw [Array.getD_eq_getD_getElem?, z]
      rfl
    rw [List.filterMap_cons_some gE, List.filterMap_cons_some gL, e1, List.map_cons, List.map_cons, e2, gD]
    exact ⟨rfl, rfl⟩
/-- the table is laid anew, larger -/
theorem relaid_new {o : Obj} (ho : s.heap.get? a = some o) (hex : o.ExactSet) (hd : o.data = .set es ep t) (hc : es.toList = cells P w L) (hp : t.place.size = es.size) (hdm : t.dummies = #[]) (hfl : es.size ≤ t.mask)
    (key : ∀ p ∈ L, TwAt P w s.heap p.2 p.1) (ld : w.params.followText "set-order" = true ∨ t.led = true) (few : L.length < 64) {wanted M : Nat} (hw : SetTable.sizeAbove wanted - 1 = M) (hM : MaskOk M) (hw2 : SetTable.sizeAbove wanted ≤ 128)
    (hn : L.length * 5 < M * 3) {Q : Unit → Shared → Prop} (q : ∀ h' L' es' ep' t', Heap.SameBut a s.heap h' → Bag P w h' a L' es' ep' t' → L'.Perm L → Q () { s with heap := h' }) : wpAny (model P w) A (setRelay a wanted) Q E s := by
  have hl : es.size = L.length := by rw [← Array.length_toList, hc, cells_len]
  have hfit : t.fits es.size = true := by
    unfold SetTable.fits SetTable.fill
    rw [hdm, Bool.and_eq_true, beq_iff_eq, decide_eq_true_eq]
    exact ⟨hp, by show t.place.size + 0 ≤ t.mask; omega⟩
  have hsz : (es.map (·.1)).size = L.length := by rw [Array.size_map, hl]
  obtain ⟨t', ord, e, pm, T, em, el, _, _⟩ := relaid_ok t (hs := es.map (·.1)) (wanted := wanted) hw hM (by rw [hsz]; omega)
  rw [hsz] at pm
  obtain ⟨c1, c2⟩ := chosen (P := P) (w := w) (L := L) hc ord.toList fun i hi => List.mem_range.mp (pm.mem_iff.mp hi)
  have pL : (ord.toList.filterMap fun i => L[i]?).Perm L := by
    have z := pm.filterMap fun i => L[i]?
    rw [range_get L L.length (Nat.le_refl _), List.take_length] at z
    exact z
  generalize ord.toList.filterMap (fun i => L[i]?) = L2 at c1 c2 pL
  rw [← c2] at T
  have cl : (ord.filterMap (es[·]?)).toList = cells P w L2 := by first | (rw [Array.toList_filterMap]; exact c1) | simpa using c1
  have sz2 : (ord.filterMap (es[·]?)).size = es.size := by rw [← Array.length_toList, cl, cells_len, pL.length_eq, hl]
  rw [setRelay_eq]
  refine wpAny_bind (wpAny_setState_of ho hd hfit ?_)
  dsimp only
  refine wp_if_neg (by rw [sizeLine_eq]; omega) ?_
  try refine wpAny_bind (wpAny_pure ?_)
  rw [e]
  dsimp only
  refine wpAny_bind ?_
  refine wp_if_neg (by rw [sz2]; simp) ?_
  try refine wpAny_bind (wpAny_pure ?_)
  refine wpAny_pure ?_
  dsimp only
  refine wpAny_storeSet_of ho hd ?_ (by rw [sz2, hl, sizeLine_eq]; omega)
  have sb : Heap.SameBut a s.heap (s.heap.update a (Obj.putSet (ord.filterMap (es[·]?)) t')) := Heap.SameBut.update ..
  refine q _ L2 (ord.filterMap (es[·]?)) (ep + 1) t' sb ⟨⟨_, store_at ho hd, ⟨hex.1, hex.2.1, hex.2.2⟩, rfl⟩, cl, T, fun p hp => still (key p (pL.mem_iff.mp hp)) ho hd sb, by rw [el]; exact ld, by rw [pL.length_eq, em]; exact hn, by rw [pL.length_eq]; exact few⟩ pL
theorem add_new (B : Bag P w s.heap a L es ep t) {x : Addr} {k : List Str} (hx : TwAt P w s.heap k x) (hu : A.units < cLine) (away : ∀ p ∈ L, p.2 ≠ k) (few : L.length + 1 < 64) {Q : Bool → Shared → Prop}
    (q : ∀ h' L' es' ep' t', Heap.SameBut a s.heap h' → Bag P w h' a L' es' ep' t' → L'.Perm ((x, k) :: L) → Q true { s with heap := h' }) : wpAny (model P w) A (setAddHashed a (.ref x) (hs P w k)) Q E s := by
  obtain ⟨o, ho, hex, hd⟩ := B.obj
  have hl := B.size
  have rom := B.rom
  have lenT : (L.map fun p => hs P w p.2).length = L.length := List.length_map ..
  obtain ⟨K, hK, hfree, hbusy⟩ := B.tab.first (by rw [lenT]; omega) (hs P w k)
  have big : K < 100000 := by
    have z : 10 * SetTable.turns t.mask ≤ 1420 := by
      unfold SetTable.turns
      rcases B.tab.mok with e | e | e <;> omega
    omega
  unfold setAddHashed
  refine wpAny_holding ?_
  rw [show (100000 : Nat) = 99999 + 1 from rfl, setAddHashedIn_succ]
  refine wpAny_bind (wpAny_setState_of ho hd B.fit ?_)
  dsimp only
  refine wp_if_neg (by simp [byScan, Value.scannable]) ?_
  try refine wpAny_bind (wpAny_pure ?_)
  refine wpAny_bind (m := setSearch a (.ref x) (hs P w k) true) ?_
  unfold setSearch
  refine seek B hx hu away hK hfree hbusy ?_ 100000 0 none rfl (Nat.zero_le _) (by omega)
  dsimp only
  refine wpAny_bind (wpAny_setState_of ho hd B.fit ?_)
  dsimp only
  obtain ⟨g1, g2, g3, g4, g5, _, _, _, g9⟩ := B.tab.put hfree hbusy
  generalize hpt : t.put (way t.mask (hs P w k) K) = pt at g1 g3 g4 g5 g9 ⊢
  obtain ⟨t1, p⟩ := pt
  dsimp only at g1 g3 g4 g5 g9 ⊢
  subst g1
  generalize SetTable.below t.place (way t.mask (hs P w k) K) = p at g2 g3 ⊢
  have pm : (L.take p ++ (x, k) :: L.drop p).Perm ((x, k) :: L) := put_perm L p (x, k)
  have cl : (SetTable.insertAt es p (hs P w k, Value.ref x)).toList = cells P w (L.take p ++ (x, k) :: L.drop p) := by
    rw [SetTable.toList_insertAt, B.cel]
    unfold cells
    rw [List.map_append, List.map_cons, List.map_take, List.map_drop]
  have ht : (L.take p ++ (x, k) :: L.drop p).map (fun p => hs P w p.2) = (L.map fun p => hs P w p.2).take p ++ hs P w k :: (L.map fun p => hs P w p.2).drop p := by
    rw [List.map_append, List.map_cons, List.map_take, List.map_drop]
  rw [← ht] at g3
  rw [lenT] at g9
  generalize L.take p ++ (x, k) :: L.drop p = L1 at pm cl g3
  have len1 : L1.length = L.length + 1 := pm.length_eq
  have sz1 : (SetTable.insertAt es p (hs P w k, Value.ref x)).size = L.length + 1 := by rw [← Array.length_toList, cl, cells_len, len1]
  generalize SetTable.insertAt es p (hs P w k, Value.ref x) = es1 at cl sz1 ⊢
  -- behind the question whether its hash goes by value
  have rest : ∀ t2 : SetTable, TabOk t2 (L1.map fun p => hs P w p.2) → t2.mask = t.mask → t2.led = t.led → t2.fill = L.length + 1 → wpAny (model P w) A (do
      storeSet a es1 t2
      if !false && t2.tooFull then setRelay a (SetTable.grown (es.size + 1))
      return true) Q E s := fun t2 T2 m2 l2 f2 => by
    refine wpAny_bind (wpAny_storeSet_of ho hd ?_ (by rw [sz1, sizeLine_eq]; omega))
    have sb : Heap.SameBut a s.heap (s.heap.update a (Obj.putSet es1 t2)) := Heap.SameBut.update ..
    have ho1 := store_at (es' := es1) (t' := t2) ho hd
    generalize s.heap.update a (Obj.putSet es1 t2) = h1 at sb ho1 ⊢
    have key1 : ∀ p ∈ L1, TwAt P w h1 p.2 p.1 := fun p hp => by
      rcases List.mem_cons.mp (pm.mem_iff.mp hp) with e | hp
      · rw [e]
        exact still hx ho hd sb
      · exact still (B.key p hp) ho hd sb
    have ld1 : w.params.followText "set-order" = true ∨ t2.led = true := by rw [l2]; exact B.lrn
    by_cases hf : t2.tooFull = true
    · have full : (L.length + 1) * 5 ≥ t2.mask * 3 := by
        have z := hf
        unfold SetTable.tooFull at z
        rw [decide_eq_true_eq, f2] at z
        exact z
      have places : t2.place.size = es1.size := by
        have z := T2.sz
        rw [List.length_map, len1] at z
        rw [z, sz1]
      have two : (t.mask = 7 ∧ L.length = 4) ∨ (t.mask = 31 ∧ L.length = 18) := by
        rw [m2] at full
        rcases B.tab.mok with e | e | e <;> rw [e] at full rom
        · exact .inl ⟨e, by omega⟩
        · exact .inr ⟨e, by omega⟩
        · omega
      have laid : ∀ M, SetTable.sizeAbove (SetTable.grown (es.size + 1)) - 1 = M → MaskOk M → SetTable.sizeAbove (SetTable.grown (es.size + 1)) ≤ 128 → (L.length + 1) * 5 < M * 3 →
          wpAny (model P w) A (setRelay a (SetTable.grown (es.size + 1))) (fun _ s' => wpAny (model P w) A (pure true) Q E s') E { s with heap := h1 } := fun M z1 z2 z3 z4 => by
        refine relaid_new (s := { s with heap := h1 }) ho1 ⟨hex.1, hex.2.1, hex.2.2⟩ rfl cl places T2.dm (by rw [sz1, m2]; rcases two with ⟨y1, y2⟩ | ⟨y1, y2⟩ <;> omega) key1 ld1 (by rw [len1]; exact few) z1 z2 z3 (by rw [len1]; exact z4) ?_
        exact fun h2 L2 es2 ep2 t3 sb2 B2 pm2 => wpAny_pure (q h2 L2 es2 ep2 t3 (sb.trans sb2) B2 (pm2.trans pm))
      have fin : wpAny (model P w) A (setRelay a (SetTable.grown (es.size + 1))) (fun _ s' => wpAny (model P w) A (pure true) Q E s') E { s with heap := h1 } := by
        rcases two with ⟨_, y⟩ | ⟨_, y⟩
        · exact laid 31 (by rw [hl, y, size_20]) (.inr (.inl rfl)) (by rw [hl, y, size_20]; decide) (by omega)
        · exact laid 127 (by rw [hl, y, size_76]) (.inr (.inr rfl)) (by rw [hl, y, size_76]; decide) (by omega)
      first
        | (refine wpAny_bind ?_; refine wp_if_pos (by simp [hf]) ?_; exact fin)
        | (refine wp_if_pos (by simp [hf]) ?_; refine wpAny_bind ?_; exact fin)
    · have done := q h1 L1 es1 (ep + 1) t2 sb ⟨⟨_, ho1, ⟨hex.1, hex.2.1, hex.2.2⟩, rfl⟩, cl, T2, key1, ld1, (by
          have z := hf
          unfold SetTable.tooFull at z
          rw [decide_eq_true_eq, f2] at z
          rw [len1]
          omega), by rw [len1]; exact few⟩ pm
      first
        | (refine wp_if_neg (by simp [hf]) ?_; exact wpAny_pure done)
        | (refine wpAny_bind ?_; refine wp_if_neg (by simp [hf]) ?_; refine wpAny_pure ?_; exact wpAny_pure done)
  have both : ∀ v : Bool, wpAny (model P w) A (do
      storeSet a es1 (if v then t1 else { t1 with plain := false })
      if !false && (if v then t1 else { t1 with plain := false }).tooFull then setRelay a (SetTable.grown (es.size + 1))
      return true) Q E s := fun v => by
    cases v with
    | true => exact rest t1 g3 g4 g5 g9
    | false => exact rest { t1 with plain := false } ⟨g3.ris, g3.dm, g3.sz, g3.mok, g3.bd, g3.reach⟩ g4 g5 g9
  by_cases hpl : t1.plain = true
  · first
      | (refine wpAny_bind ?_; refine wp_if_pos hpl ?_; exact byValT hx both)
      | exact wp_if_pos hpl (wpAny_bind (byValT hx both))
  · first
      | (refine wpAny_bind ?_; refine wp_if_neg hpl ?_; exact wpAny_pure (both true))
      | exact wp_if_neg hpl (wpAny_bind (wpAny_pure (both true)))
/-! ### set(xs) -/
def fresh0 (w : World) : Obj := { cls := .type "set", dict := none, data := .set #[] 0 (.fresh 0 0 (!w.params.followText "set-order")) }
theorem bag0 {h : Heap} (ho : h.get? a = some (fresh0 w)) : Bag P w h a [] #[] 0 (.fresh 0 0 (!w.params.followText "set-order")) where
  obj := ⟨_, ho, ⟨rfl, rfl, rfl⟩, rfl⟩
  cel := rfl
  tab := ⟨List.Pairwise.nil, rfl, rfl, .inl rfl, fun x hx => (by cases hx), fun i h j hi => (by simp at hi)⟩
  key := fun p hp => (by cases hp)
  lrn := by
    show _ ∨ (!w.params.followText "set-order") = true
    cases w.params.followText "set-order"
    · exact .inr rfl
    · exact .inl rfl
  rom := by
    show 0 * 5 < 7 * 3
    decide
  sml := by
    show 0 < 64
    decide
theorem there {h h' : Heap} {k : List Str} {c : Addr} (hk : TwAt P w h k c) (kp : ∀ b o, h.get? b = some o → h'.get? b = some o) : TwAt P w h' k c := by
  obtain ⟨u, its, n, hu, more⟩ := hk
  exact ⟨u, its, n, kp c u hu, more⟩
theorem grow {I : Addr} {fp wr : List Addr} {G : Array GenState → Array GenState → Prop} {n : Nat} {Pv : Nat → Value → Prop} {St : Nat → Shared → Prop} {R : Result → Shared → Prop}
    (W : WalksS P w A.in1 I fp wr G n Pv St) (S : Addr) (nf : S ∉ fp) (ks : List (Addr × List Str)) (hn : ks.length = n) (few : n < 64) (diff : (ks.map (·.2)).Nodup) (hat : ∀ i v, Pv i v → ∃ p, ks[i]? = some p ∧ v = .ref p.1)
    (g : Heap) (hk : ∀ p ∈ ks, TwAt P w g p.2 p.1) (gS : g.get? S = none) (gw : ∀ b ∈ wr, g.get? b = none) (hu : A.in1.units < cLine) :
    ∀ (m i : Nat) (s : Shared), n - i = m → i ≤ n → St i s → (∀ b o, g.get? b = some o → s.heap.get? b = some o) → (∃ L es ep t, Bag P w s.heap S L es ep t ∧ L.Perm (ks.take i)) →
      (∀ s' L es ep t, Moved (S :: wr) G s s' → Bag P w s'.heap S L es ep t → L.Perm ks → R (.ok (.ret .none)) s') → codeAny (model P w) A (.builtin "set.update.loop" ⟨[.ref S, .ref I], []⟩) R s := by
  have nw : S ∉ wr := fun q => nf (W.sub _ q)
  have up : ∀ c ∈ wr, c ∈ S :: wr := fun c hc => List.mem_cons_of_mem _ hc
  have onward : ∀ {s s' : Shared}, Moved wr G s s' → (∀ b o, g.get? b = some o → s.heap.get? b = some o) → ∀ b o, g.get? b = some o → s'.heap.get? b = some o := fun mv kp b o e => by
    refine mv.heap b o (fun hb => ?_) (kp b o e)
    rw [gw b hb] at e
    cases e
  have hold : ∀ {s s' : Shared} {L : List (Addr × List Str)} {es : Array (Int × Value)} {ep : Nat} {t : SetTable} {i : Nat}, Moved wr G s s' → (∀ b o, g.get? b = some o → s'.heap.get? b = some o) → L.Perm (ks.take i) → Bag P w s.heap S L es ep t → Bag P w s'.heap S L es ep t := fun {s s' L es ep t i} mv kp pm B => by
    obtain ⟨o, ho, more⟩ := B.obj
    exact ⟨⟨o, mv.heap S o nw ho, more⟩, B.cel, B.tab, fun p hp => there (hk p (List.mem_of_mem_take (pm.mem_iff.mp hp))) kp, B.lrn, B.rom, B.sml⟩
  intro m
  induction m with
  | zero =>
    intro i s hm hi hst kp ⟨L, es, ep, t, B, pm⟩ hR
    obtain rfl : i = n := by omega
    refine codeAny_builtin F.entry_set_update_loop ?_
    rw [Around.under_plainId F.plain_set_update_loop _]
    refine wpAny_bind (m := pyNext (.ref I)) (W.done s _ _ hst fun s1 mv => ?_)
    have B1 := hold mv (onward mv kp) pm B
    rw [← hn, List.take_length] at pm
    exact wpAny_pure (hR s1 L es ep t (mv.mono up) B1 pm)
  | succ m ih =>
    intro i s hm hi hst kp ⟨L, es, ep, t, B, pm⟩ hR
    have lt : i < n := by omega
    refine codeAny_builtin F.entry_set_update_loop ?_
    rw [Around.under_plainId F.plain_set_update_loop _]
    refine wpAny_bind (m := pyNext (.ref I)) (W.item i s _ _ lt hst fun v s1 hP hst1 mv => ?_)
    obtain ⟨p, hp, rfl⟩ := hat i v hP
    have kp1 := onward mv kp
    have B1 := hold mv kp1 pm B
    have hx : TwAt P w s1.heap p.2 p.1 := there (hk p (List.mem_of_getElem? hp)) kp1
    have nxt : ks.take (i + 1) = ks.take i ++ [p] := by
      rw [List.take_add_one, hp]
      rfl
    have away : ∀ q ∈ L, q.2 ≠ p.2 := fun q hq e => by
      have d := diff.sublist (((List.take_sublist (i + 1) ks).map (·.2)))
      rw [nxt, List.map_append, List.nodup_append] at d
      exact d.2.2 q.2 (List.mem_map.mpr ⟨q, pm.mem_iff.mp hq, rfl⟩) p.2 (by simp) e
    have ll : L.length ≤ i := by
      rw [pm.length_eq, List.length_take]
      omega
    show wpAny _ A.in1 (holding [Value.ref p.1] (setAdd S (.ref p.1)) >>= _) _ _ s1
    refine wpAny_bind (wpAny_holding ?_)
    unfold setAdd
    refine wpAny_holding (wpAny_bind (wpAny_pyHash_tuple hu hx ?_))
    refine add_new (s := { s1 with toks := s1.toks + (p.2.length + 1) }) B1 hx hu away (by omega) fun h2 L2 es2 ep2 t2 sb B2 pm2 => ?_
    have pm3 : L2.Perm (ks.take (i + 1)) := by
      rw [nxt]
      exact pm2.trans ((pm.cons p).trans (List.perm_append_singleton p (ks.take i)).symm)
    have kp2 : ∀ b o, g.get? b = some o → h2.get? b = some o := fun b o e => by
      refine (sb.2 b fun z => ?_).trans (kp1 b o e)
      rw [z, gS] at e
      cases e
    refine wpAny_pure ⟨plainId_quiet F.plain_set_update_loop _, ih (i + 1) _ (by omega) lt (W.frame _ s1 _ _ hst1 (Nat.le_add_right _ _) fun c hc o e => ?_) kp2 ⟨L2, es2, ep2, t2, B2, pm3⟩ fun s3 L3 es3 ep3 t3 mv3 B3 pm4 => ?_⟩
    · rw [sb.2 c (fun z : c = S => nf (by rw [← z]; exact hc))]
      exact e
    · refine hR s3 L3 es3 ep3 t3 (Moved.trans W.gtrans ((mv.mono up).then_heap (Nat.le_add_right _ _) fun c o hc e => ?_) mv3) B3 pm4
      rw [sb.2 c (fun z : c = S => hc (by rw [z]; exact List.mem_cons_self))]
      exact e
theorem call_setT {l : Addr} {its : Array Value} (ks : List (Addr × List Str)) {Q : Value → Shared → Prop} (hA : A.handled = none) (hl : s.heap.IsList l its) (hit : its.toList = ks.map fun p => Value.ref p.1) (hk : ∀ p ∈ ks, TwAt P w s.heap p.2 p.1)
    (few : ks.length < 64) (diff : (ks.map (·.2)).Nodup) (hu : A.units + 3 < cLine)
    (q : ∀ (h' : Heap) (tk : Nat) L es ep t, Bag P w h' s.heap.objs.size L es ep t → L.Perm ks → (∀ c o, c < s.heap.objs.size → s.heap.get? c = some o → h'.get? c = some o) → Q (.ref s.heap.objs.size) { s with heap := h', toks := tk }) :
    wpAny (model P w) A (call (.type "set") [.ref l]) Q E s := by
  have hlen : ks.length = its.size := by
    have z := congrArg List.length hit
    rw [Array.length_toList, List.length_map] at z
    exact z.symm
  obtain ⟨c, tl, hmro⟩ := PySem.F.called_set.mro
  have hmade := PySem.F.called_set.made
  have hsub := PySem.F.called_set.sub
  refine wpAny_call (codeAny_of_tree ?_)
  show wpAny _ _ (callAny (.type "set") _) _ _ _
  refine wpAny_pure ⟨Code.quiet_builtin _ (by decide +kernel), codeAny_builtin PySem.F.entry_type_call ?_⟩
  rw [Around.under_plain (weight_type_call_type "set" [.ref l] []) rfl]
  have h1 := PySem.F.called_set.notType
  have h2 := PySem.F.called_set.canCreate
  have hct := PySem.F.typeCall_set_1 (.ref l)
  repeat (any_goals (first | assumption | wp_step))
  refine codeAny_mono (code_set_led1 (.ref l) (E := E) (Q₁ := fun b s₁ => b = .ref s.heap.objs.size ∧ s₁ = { s with heap := s.heap.push (fresh0 w) }) ⟨rfl, rfl⟩) fun r s₁ hr => ?_
  cases r with
  | error e => exact hr
  | ok fl =>
    cases fl with
    | ret b =>
      obtain ⟨rfl, rfl⟩ := hr
      have hS : (s.heap.push (fresh0 w)).get? s.heap.objs.size = some (fresh0 w) := Heap.get?_push_size _ rfl
      have hT : Shared.TypeIs { s with heap := s.heap.push (fresh0 w) } (.ref s.heap.objs.size) "set" := ⟨_, hS, rfl⟩
      have hli := PySem.F.called_set.init.lookup
      have hbi := PySem.F.called_set.init.bind (.ref s.heap.objs.size)
      repeat (any_goals (first | assumption | wp_step))
      refine codeAny_mono (codeAny_call_builtin (R := wants (fun r s₂ => r = .none ∧ ∃ h' tk L es ep t, s₂ = { s with heap := h', toks := tk } ∧ Bag P w h' s.heap.objs.size L es ep t ∧ L.Perm ks ∧
          (∀ c o, c < s.heap.objs.size → s.heap.get? c = some o → h'.get? c = some o)) E) PySem.F.called_set.init.plain PySem.F.entry_set_init (check_set_init_1 hT ?_)) fun r₂ s₂ hr₂ => ?_
      · obtain ⟨ol, hol, hcl, nl, hdl⟩ := hl
        obtain ⟨ocls, odict, odata, oslots⟩ := ol
        simp only at hcl hdl
        subst hcl; subst hdl
        have hol' : (s.heap.push (fresh0 w)).get? l = some { cls := .type "list", dict := odict, data := .seq its nl, slots := oslots } := Heap.get?_push_of_some _ hol
        have hsls := PySem.F.sub_list_set
        have hslf := PySem.F.sub_list_frozenset
        have hne : (Value.type "list" == Value.type "dict") = false := by decide
        have hl1 : (s.heap.push (fresh0 w)).IsList l its := ⟨_, hol', rfl, nl, rfl⟩
        unfold Builtin.«set.__init__» noKeywords Builtin.Frozenset.updateFrom
        generalize hPI : pyIter = PI
        wp_walk
        subst hPI
        refine wpAny_pyIter_list hl1 ?_
        refine wpAny_bind (wpAny_runValue ?_)
        have hlS : l < s.heap.objs.size := Heap.lt_size hol
        have h3 : A.in1.in1.in1.handled = none := by simp [hA]
        have nI : l ≠ (s.heap.push (fresh0 w)).objs.size := by
          rw [Heap.size_push]; exact Nat.ne_of_lt (Nat.lt_succ_of_lt hlS)
        have nS : s.heap.objs.size ∉ [(s.heap.push (fresh0 w)).objs.size, l] := by
          rw [Heap.size_push]; simp only [List.mem_cons, List.mem_singleton, List.not_mem_nil, or_false, not_or]
          exact ⟨Nat.ne_of_lt (Nat.lt_succ_self _), Nat.ne_of_gt hlS⟩
        have none_of : ∀ b, s.heap.objs.size ≤ b → s.heap.get? b = none := fun b hb => by
          cases z : s.heap.get? b with
          | none => rfl
          | some o => exact absurd (Nat.lt_of_lt_of_le (Heap.lt_size z) hb) (Nat.lt_irrefl _)
        have hat : ∀ (i : Nat) (v : Value), its[i]? = some v → ∃ p, ks[i]? = some p ∧ v = .ref p.1 := fun i v hv => by
          have z : its.toList[i]? = some v := by rw [Array.getElem?_toList]; exact hv
          rw [hit, List.getElem?_map] at z
          cases y : ks[i]? with
          | none =>
            rw [y] at z
            cases z
          | some p =>
            rw [y] at z
            exact ⟨p, rfl, (Option.some.inj z).symm⟩
        refine grow ((Walks.list h3 _ l nI its).toS) s.heap.objs.size nS ks hlen (by rw [← hlen]; exact few) diff hat s.heap hk (none_of _ (Nat.le_refl _)) (fun b hb => none_of b (by
            rw [List.mem_singleton.mp hb, Heap.size_push]
            exact Nat.le_succ _)) hu (its.size - 0) 0 _ (by omega) (Nat.zero_le _) ⟨⟨_, Heap.get?_push_size _ rfl, rfl, rfl⟩, (hl1.push _)⟩ (fun b o e => Heap.get?_push_of_some _ (Heap.get?_push_of_some _ e)) ?hS0 ?hR
        case hS0 =>
          have hget : ((s.heap.push (fresh0 w)).push { cls := .type "list_iterator", data := .fields #[.ref l, .int 0 0] }).get? s.heap.objs.size = some (fresh0 w) := Heap.get?_push_of_some _ hS
          exact ⟨[], #[], 0, _, bag0 hget, by rw [List.take_zero]⟩
        case hR =>
          intro s' L es ep t mv B pm
          obtain ⟨h', g', d', tk', os'⟩ := s'
          obtain rfl : g' = s.gens := mv.gens
          obtain rfl : d' = s.drawn := mv.drawn
          obtain rfl : os' = s.os := mv.os
          show wpAny _ _ _ _ _ _
          refine wpAny_pure ?_
          show wpAny _ _ (ret Value.none) _ _ _
          refine wpAny_pure ⟨rfl, h', tk', L, es, ep, t, rfl, B, pm, fun c o hc e => ?_⟩
          have n1 : c ≠ s.heap.objs.size := Nat.ne_of_lt hc
          have n2 : c ≠ (s.heap.push (fresh0 w)).objs.size := by
            rw [Heap.size_push]; exact Nat.ne_of_lt (Nat.lt_succ_of_lt hc)
          exact mv.heap c o (by simp only [List.mem_cons, List.mem_singleton, List.not_mem_nil, or_false, not_or]; exact ⟨n1, n2⟩) (Heap.get?_push_of_some _ (Heap.get?_push_of_some _ e))
      · cases r₂ with
        | error e => exact hr₂
        | ok fl₂ =>
          cases fl₂ with
          | ret r =>
            obtain ⟨rfl, h', tk, L, es, ep, t, rfl, B, pm, hk'⟩ := hr₂
            repeat (any_goals (first | assumption | wp_step))
            exact q _ _ _ _ _ _ B pm hk'
          | _ => exact hr₂.elim
    | _ => exact hr.elim
end
section
variable {X : Cx}
/-- len(set(xs)), xs a list of different tuples of texts -/
def tLenSetT (K : PySem.W.Frag) (ta : TE) : TE := fun σ H Q => ta σ H fun x H1 => ∃ (l : Addr) (ks : List (Addr × List Str)), x = .ref l ∧ SqL K H1 l (ks.map fun p => V.ref p.1) ∧ (∀ p ∈ ks, SqT K H1 p.1 (p.2.map V.str)) ∧ ks.length < 64 ∧ (ks.map (·.2)).Nodup ∧ Q (.int (ks.length : Nat)) H1
theorem words_is {P : Program} {w : World} : ∀ {k : List Str} {us : List Value}, Vals (k.map V.str) us → ItemsAre (PySem.strKind P w) k us
  | [], _, .nil => .nil
  | z :: k, _, .cons r t => by
    obtain ⟨tk, rfl⟩ := r
    exact .cons (strKind_is _ _ _ _) (words_is t)
theorem refs_is : ∀ {ks : List (Addr × List Str)} {us : List Value}, Vals (ks.map fun p => V.ref p.1) us → us = ks.map fun p => Value.ref p.1
  | [], _, .nil => rfl
  | p :: ks, _, .cons r t => by
    cases r
    rw [List.map_cons, ← refs_is t]
theorem pe_lenSetT {a : Expr} {ta : TE} {p p2 q pos : Pos} {k : Nat} (hr : Room k X.A) (hc : X.calm = true) (hg : Gl X "len") (hm : X.mg "len" = none) (hg2 : Gl X "set") (hm2 : X.mg "set" = none) (ha : PE X a ta)
    (na : starEach [a] X.env = (false, eval a X.env) :: starEach [] X.env := by rfl) : PE X (.Call (.Name "len" p) [.Call (.Name "set" p2) [a] [] q] [] pos) (tLenSetT X.K ta) := by
  refine ⟨fun pins s σ H Q I h => ?_⟩
  refine Call_ (ld_blt I hg hm boot_len ?_)
  refine PyProof.Rows.callWith_builtin1 (PyProof.Rows.args_cons ?_ rfl) rfl rfl
  refine Call_ (ld_blt I hg2 hm2 boot_set ?_)
  refine PyProof.Rows.callWith_type1 (PyProof.Rows.args_cons (thn (ha.run pins s σ H _ I h) fun v s1 ⟨x, H1, I1, r1, q1⟩ => PyProof.Rows.args_nil ?_) na) na rfl
  obtain ⟨l, ks, rfl, hq, ht, few, diff, q1⟩ := q1
  cases r1
  obtain ⟨its, r, pl, hz⟩ := I1.list hq
  have hu := hr.units
  refine call_setT (P := X.prog) (w := X.w) ks (I1.ok.hd hc) pl.isList (by simpa using refs_is r) (fun p hp => ?_) few diff (by omega) fun h' tk L es ep t B pm hk => ?_
  · obtain ⟨ts, rt, pt, _⟩ := I1.tuple (ht p hp)
    obtain ⟨o, ho, hcl, n, hd⟩ := pt
    exact ⟨o, ts.toArray, n, ho, hcl, hd, words_is rt⟩
  · refine PyProof.Rows.args_nil ?_
    obtain ⟨o, ho, hex, hd⟩ := B.obj
    have I2 : Inv X pins σ H1 { s1 with heap := h', toks := tk } := I1.kept fun c o e => hk c o (Heap.lt_size e) e
    have hn : es.size = ks.length := by
      have z : es.size = L.length := by rw [← Array.length_toList, B.cel, cells_len]
      rw [z, pm.length_eq]
    refine call_len_set ho hex hd (B.fit (s := { s1 with heap := h', toks := tk })) (by rw [hn] <;> omega) ⟨.int (ks.length : Nat), H1, I2.tok _, ⟨_, by rw [hn]⟩, q1⟩
end
end TxSet

set_option Elab.async false
set_option linter.all false
set_option maxRecDepth 100000
set_option maxHeartbeats 4000000
/-! Tuples whose object is known: their methods can be found. -/
namespace TupX
open PySem PySem.Spec PyProof.Rows L2
/-- a tuple whose object is known to be bare -/
def Bare (H : Hp) (a : Addr) (xs : List V) : Prop := ∃ o : Obj, H a = some (.frz o (.tup xs)) ∧ o.cls = .type "tuple" ∧ o.dict = none
theorem Bare.ex {H H' : Hp} {a : Addr} {xs : List V} (e : Evl.Ex H H') (h : Bare H a xs) : Bare H' a xs := by
  obtain ⟨o, h1, h2⟩ := h
  exact ⟨o, e _ _ h1, h2⟩
theorem Bare.sq {K : PySem.W.Frag} {H : Hp} {a : Addr} {xs : List V} (h : Bare H a xs) : SqT K H a xs := by
  obtain ⟨o, h1, _⟩ := h
  exact .inl (.inr ⟨o, h1⟩)
/-- tuple(a list) -/
def rTupF (K : PySem.W.Frag) : List V → Hp → VK → Prop := fun xs H Q => ∃ p ys, xs = [.ref p] ∧ SqL K H p ys ∧ ∀ l H', H l = none → Evl.Ex H H' → Bare H' l ys → Q (.ref l) H'
theorem call_tupF {X : Cx} : CallR X (.type "tuple") (rTupF X.K) := by
  intro pins s σ H xs us Q I r h
  obtain ⟨p, ys, rfl, hq, q⟩ := h
  obtain ⟨u, rfl, rx⟩ := vals1 r
  cases rx
  obtain ⟨its, vs, pl, hz⟩ := I.list hq
  have hlen := vs.length
  apply call_tuple_list pl.isList _ (by simp only [List.size_toArray] <;> omega)
  intro h' kp
  have I1 : Inv X pins σ H { s with heap := h' } := I.kept (t' := s.toks) kp
  have fr : H h'.objs.size = none := I1.hok.fresh (Nat.le_refl _)
  refine ⟨.ref h'.objs.size, upd H h'.objs.size (.frz { cls := .type "tuple", data := .seq its.toArray } (.tup ys)), I1.laid (t' := s.toks) (fun b o e => Heap.get?_push_of_some _ e) (Nat.le_refl _) ⟨?_, hz, its, vs, IsTup.new _ _⟩, rfl, q _ _ fr (Evl.Ex.new fr) ⟨_, upd_same, rfl, rfl⟩⟩
  exact Heap.get?_push_size _ rfl
/-- the receiver of a tuple's method -/
theorem bare_ty {X : Cx} {pins : List (Addr × Obj)} {σ : L2.St} {H : Hp} {s : Shared} {p : Addr} {xs : List V} (I : Inv X pins σ H s) (h : Bare H p xs) : s.TypeIs (.ref p) "tuple" ∧ ∀ a, Value.ref p = .ref a → ∃ ob, s.heap.get? a = some ob ∧ ob.dict = none := by
  obtain ⟨o, h1, hc, hd⟩ := h
  have g : s.heap.get? p = some o := (I.hok p _ h1).1
  exact ⟨⟨o, g, hc⟩, fun a e => by cases e; exact ⟨o, g, hd⟩⟩
def tBMt (r : V → List V → Hp → VK → Prop) (to : TE) (t : TA) : TE := fun σ H Q => to σ H fun x H1 => ∃ (p : Addr) (ys : List V), x = .ref p ∧ Bare H1 p ys ∧ t σ H1 fun xs H2 => r x xs H2 Q
theorem pe_bmT {X : Cx} {o e : Expr} {es : List Expr} {to : TE} {t : TA} {name : Str} {apos cpos : Pos} {id : String} {r : V → List V → Hp → VK → Prop} (pa : PlainAttrs "tuple") (slot : Slot "tuple" name id) (hty : typeOf (.builtin id) = pure (.type "method_descriptor")) (hm : MtR X id r) (ho : PE X o to) (ha : PA X (e :: es) t)
    (hbase : attributeBase o name X.env (eval o X.env) = eval o X.env := by rfl)
    (hfew : ((backTo cpos (starEach (e :: es) X.env)).all (fun x => !x.1) && (backToKw cpos (keywordEach [] X.env)).all (fun x => x.1.isSome)
      && decide ((e :: es).length + ([] : List Keyword).length + (if ([] : List Keyword).isEmpty then 0 else 1) < 30)) = true := by rfl)
    (hline : (apos.endLine == cpos.line) = true := by rfl) (hs : starEach (e :: es) X.env = (false, eval e X.env) :: starEach es X.env := by rfl) (hplain : (backTo cpos (starEach es X.env)).any (·.1) = false := by rfl) :
    PE X (.Call (.Attribute o name apos) (e :: es) [] cpos) (tBMt r to t) := by
  constructor
  intro pins s σ H Q I h
  apply wpAny_Call_method_late hbase hfew hline rfl
  apply thn (ho.run pins s σ H _ I h)
  rintro v s1 ⟨x, H1, I1, r1, p, ys, rfl, hb, q1⟩
  cases r1
  obtain ⟨h1, h2⟩ := bare_ty I1 hb
  refine ⟨"tuple", id, pa, slot, hty, h1, h2, ?_⟩
  have hA := ha.run cpos pins s1 σ H1 _ I1 q1
  rw [hs] at hA ⊢
  refine Calls.callWith_builtin (by show (false || (backTo cpos (starEach es X.env)).any (·.1)) = false; rw [hplain] <;> rfl) (Calls.evalArgs_plain ?_)
  apply thn hA
  rintro us s2 ⟨vs, H2, I2, r2, q2⟩
  exact hm pins s2 σ H2 (.ref p) vs (.ref p) us Q I2 rfl r2 q2
end TupX

set_option Elab.async false
set_option linter.all false
set_option maxRecDepth 100000
set_option maxHeartbeats 4000000
/-! An own exception's __init__ over ValueError: super().__init__(e), then one more statement. -/
namespace SupX
open PySem PySem.Spec PyProof.Rows L2 NdefX LamX
/-- the body of such an __init__ -/
abbrev supBody (e : Expr) (st2 : Stmt) (p0 p1 p2 p3 p4 : Pos) : List Stmt :=
  [.Expr (.Call (.Attribute (.Call (.Name "super" p0) [] [] p1) "__init__" p2) [e] [] p3) p4, st2]
abbrev supF (name qual : Str) (params : Arguments) (body : List Stmt) (scope : Scope) (cc cda : Addr) : NF := ⟨name, qual, params, body, scope, [("__class__", cc)], cda⟩
/-- what the written part says of it -/
structure SupC (P : Program) (K : PySem.W.Frag) (mg : Str → Option Value) (C f cc cda : Addr) (name qual arg2 : Str) (params : Arguments) (body : List Stmt) (scope : Scope) (fd : FuncData) : Prop where
  lk : ∃ (oc : Value) (od : Option Addr) (dV kV doc pm : Value) (an : Option Addr) (ct : Value) (osl : Array (Option Value)), fd = PySem.W.fnX name qual params body scope [("__class__", cc)] dV kV doc pm an (.ref cda) ct ∧ K.lookup f = some ⟨oc, od, .func fd, osl⟩
  hcd : PySem.W.codeIn K (.ref cda) qual = true
  code : ∃ (ccl : Value) (cdd : Option Addr) (vs : Array Value) (ccs : Array (Option Value)) (file : Str) (tf : Tok), K.lookup cda = some ⟨ccl, cdd, .fields vs, ccs⟩ ∧ vs[2]? = some (.str file tf) ∧ ((P.main.file : Str) == file) = true
  cell : ∃ (cl : Value) (cld : Option Addr) (csl : Array (Option Value)), K.lookup cc = some ⟨cl, cld, .cell (some (.ref C)), csl⟩
  S : NScope ["self", arg2, "__class__"] ["self", arg2] ["__class__"] scope
  hp : ∃ ar : Arg, (params.posonlyargs ++ params.args).head? = some ar ∧ ar.arg = "self"
  hsup : scope.names.lookup ("super" : Str) = some .globalImplicit
  T : OexC K C
  cls : ∃ cd, PySem.W.clsIn K C = some cd
  sub : PySem.W.mroIn K C (.ref C) = some true
  ve : PySem.W.subIn K (.ref C) (.type "ValueError") = some true
  along : PySem.W.ks_superIn K C C "__init__" = some (some (.builtin "ValueError.__init__"))
  opq : PySem.W.nsIn K cStatics "thirdparty.any" = some none
  msup : mg "super" = none
  top : (P.main.scope.names.lookup ("super" : Str)).isSome = false
section
variable {P : Program} {w : World} {K : PySem.W.Frag} {mg : Str → Option Value} {base : Heap} {CX : CXT} {k : Nat}
/-- the built-in __init__ by its method-wrapper, upon an exception that is being made -/
theorem call_mw {X : Cx} {pins : List (Addr × Obj)} {σ : L2.St} {H : Hp} {s : Shared} {a C u : Addr} {us : List Value} {A : Around} {E : Value → Shared → Prop} {Q : Value → Shared → Prop} (T : OexC X.K C) (I : Inv X pins σ H s) (e : H a = some (exo a C none)) (hl : us.length ≤ sizeLine)
    (hu : s.heap.get? u = some (PySem.W.kxs_mw "ValueError.__init__" a)) (h : ∀ s', Inv X pins σ H s' → Q .none s') : wpAny (model X.prog X.w) A (call (.ref u) us) Q E s := by
  obtain ⟨nm, q, N, bs, bm, sn, sub, ab, col, dd, k0, k1, k2, k3, k5, hC, hbm⟩ := T.cls
  obtain ⟨t1, ho⟩ := exo_at I.hok e
  have hC' := I.kIn _ _ hC
  obtain ⟨hh, g, d, t, os⟩ := s
  refine wpAny_call (codeAny_of_tree ?_)
  show wpAny _ A.in1 (callAny (.ref u) ⟨us, []⟩) _ _ _
  simp only [callAny]
  refine wpAny_bind (wpAny_load hu ?_)
  simp only [PySem.W.kxs_mw, show (Value.type "method-wrapper" == Value.type "method" || Value.type "method-wrapper" == Value.type "builtin_function_or_method" || Value.type "method-wrapper" == Value.type "method-wrapper") = true by decide, if_true]
  refine PySem.W.KFB.if_so (by decide) ?_
  refine wpAny_bind (PySem.W.check_bound_init PySem.F.excBase_ValueError.toExcCallFacts hC' ho rfl ?_)
  refine wpAny_bind (wpAny_pure (wpAny_pure ?_))
  refine ⟨plainId_quiet PySem.F.excBase_ValueError.init.plain _, codeAny_builtin PySem.F.excBase_ValueError.initEntry ?_⟩
  refine PySem.W.exc_init_tree (cls := .ref C) (t0 := t1) (dv := none) (c2 := .none) (c3 := .none) (b4 := .bool false) ho hl (fun h' k hx _ => ?_)
  have J := I.write (t' := t) (x := a) (e := a) (o := exo a C none) (by rw [e]; exact True.intro) (.inl rfl) k ⟨_, hx⟩ (exo_ok hx)
  have eu : upd H a (exo a C none) = H := by
    funext b
    by_cases hb : b = a
    · rw [hb, upd_same, e]
    · rw [upd_ne hb]
  rw [eu] at J
  exact h _ J
theorem callWith_mw {M : Model} {A : Around} {E : Value → Shared → Prop} {s : Shared} {i : String} {u x : Addr} {pos : Pos} {env : Env} {e : Expr} {Q : Value → Shared → Prop}
    (h : wpAny M A (spliced (backTo pos (starEach [e] env))) (fun vs s₁ => PySem.W.KxsAt i u x s₁.heap ∧ wpAny M A (call (.ref u) vs) Q E s₁) E s)
    (he : starEach [e] env = [(false, eval e env)]) : wpAny M A (callWith pos (.ref u) [] (backTo pos (starEach [e] env)) []) Q E s := by
  rw [he] at h ⊢
  refine PySem.W.kxs_callWith (i := i) (x := x) rfl ?_
  exact PySem.Calls.evalArgs_plain h
/-- THE RULE: such an __init__ as a def -/
theorem sup_ok {C f cc cda : Addr} {name qual arg2 : Str} {params : Arguments} {e : Expr} {st2 : Stmt} {p0 p1 p2 p3 p4 : Pos} {scope : Scope} {fd : FuncData} {sp : Sp} (W0 : SupC P K mg C f cc cda name qual arg2 params (supBody e st2 p0 p1 p2 p3 p4) scope fd)
    (len : ∀ vs H Q E, sp vs H Q E → vs.length = 2)
    (hbody : ∀ (A : Around) (outer : List Env) (s : Shared) (H : Hp) (vs : List V) (Q : VK) (E : XK), Room k (A.deeper (envF (supF name qual params (supBody e st2 p0 p1 p2 p3 p4) scope cc cda) f s.heap.objs.size)) → sp vs H Q E →
      ∃ (a : Addr) (y : V) (ta : TA) (t2 : TS), vs = [.ref a, y] ∧ H a = some (exo a C none) ∧ PA (ncx CX P w K mg base ["self", arg2, "__class__"] (supF name qual params (supBody e st2 p0 p1 p2 p3 p4) scope cc cda) f A outer s H E) [e] ta ∧
        PS (ncx CX P w K mg base ["self", arg2, "__class__"] (supF name qual params (supBody e st2 p0 p1 p2 p3 p4) scope cc cda) f A outer s H E) st2 t2 ∧
        ta (startF ["self", arg2, "__class__"] vs [none]) H fun ws H1 => ws.length ≤ 1000 ∧ H1 a = some (exo a C none) ∧ t2 { nx := fun _ H' => Q .non H', rt := Q } (startF ["self", arg2, "__class__"] vs [none]) H1)
    (he : ∀ env : Env, starEach [e] env = [(false, eval e env)]) (hcall : ∀ env : Env, ∃ pl : Sem Bool, eval (.Call (.Attribute (.Call (.Name "super" p0) [] [] p1) "__init__" p2) [e] [] p3) env = (do
      let ov ← attributeBase (.Call (.Name "super" p0) [] [] p1) "__init__" env (eval (.Call (.Name "super" p0) [] [] p1) env)
      standAt p2.atName
      let (f, first) ← holding [ov] (getMethod ov "__init__" pl)
      callWith p3 f first (backTo p3 (starEach [e] env)) [])) : FnOk P w K mg base CX (k + 1) f fd ["self", arg2] sp := by
  obtain ⟨⟨oc, od, dV, kV, doc, pm, an, ct, osl, rfl, lk⟩, hcd, ⟨ccl, cdd, cvs, ccs, file, tf, hcode, hvs, hfile⟩, ⟨cl, cld, csl, hcell⟩, S, ⟨ar, hp1, hp2⟩, hsup, T, ⟨cd, hcls⟩, hsub, hve, halong, hopq, msup, htop⟩ := W0
  refine ⟨len, fun A outer s H args us vs Q E hr e0 hb r hsp => ?_⟩
  have hl := len _ _ _ _ hsp
  have KX : K.In s.heap := e0.mod.kin.keeps fun b o e => (e0.bs b o e).1
  have lim : s.heap.NoLimit := e0.mod.nolimit.keeps fun b o e => (e0.bs b o e).1
  refine PySem.ks_codeAny_call_defAt (body := supBody e st2 p0 p1 p2 p3 p4) hr.depth (KX _ _ lk) rfl lim (PySem.W.codeRec_of KX hcd) rfl hb S.nocell (fun ⟨n, _⟩ hy => S.par n (List.of_mem_zip hy).1) (fun h₁ hns kp => ?_) S.co S.gen S.kind
  obtain ⟨a, y, ta, t2, rfl, ea, hPA, hPS, hq⟩ := hbody A outer s H vs Q E (hr.deeper _) hsp
  have kb : ∀ b o, base.get? b = some o → H b = none := fun b o z => (e0.bs b o z).2
  have kcell : s.heap.IsCell cc (some (.ref C)) := ⟨_, KX _ _ hcell, rfl⟩
  have nocc : H cc = none := kb cc _ (e0.mod.kin _ _ hcell)
  have CA : CellsAt (supF name qual params (supBody e st2 p0 p1 p2 p3 p4) scope cc cda).cl ["__class__"] [none] s.heap H := by
    have one : ∀ {y c}, List.lookup y [(("__class__" : Str), cc)] = some c → y = "__class__" ∧ c = cc := fun {y c} z => by
      rw [List.lookup_cons] at z
      by_cases q : (y == ("__class__" : Str)) = true
      · rw [q] at z
        exact ⟨eq_of_beq q, (Option.some.inj z).symm⟩
      · rw [Bool.not_eq_true] at q
        rw [q] at z
        cases z
    refine ⟨rfl, fun y c z => ?_, fun x y c z1 z2 => (one z1).1.trans (one z2).1.symm, fun i y hi => ?_⟩
    · obtain ⟨_, rfl⟩ := one z
      exact ⟨nocc, _, kcell⟩
    · cases i with
      | zero =>
        obtain rfl := Option.some.inj hi
        exact ⟨cc, by rw [List.lookup_cons, show (("__class__" : Str) == ("__class__" : Str)) = true from beq_self_eq_true _], fun v hv => by simp at hv⟩
      | succ i => simp at hi
  have I : L2.Inv (ncx CX P w K mg base ["self", arg2, "__class__"] (supF name qual params (supBody e st2 p0 p1 p2 p3 p4) scope cc cda) f A outer s H E) [] (startF ["self", arg2, "__class__"] [.ref a, y] [none]) H { s with heap := h₁, toks := s.toks + (((["self", arg2] : List Str).zip us)).length } := inv_startN (F := supF name qual params (supBody e st2 p0 p1 p2 p3 p4) scope cc cda) S hr.hd e0 hl r CA hns kp
  have K1 : K.In h₁ := KX.keeps kp
  obtain ⟨ua, uy, rfl, ra, ry⟩ : ∃ ua uy, us = [ua, uy] ∧ ua = Value.ref a ∧ RelV y uy := by
    cases r with
    | cons h1 h2 =>
      cases h2 with
      | cons h3 h4 =>
        cases h4
        exact ⟨_, _, rfl, h1, h3⟩
  subst ra
  have hself : ((["self", arg2] : List Str).zip [Value.ref a, uy]).reverse.lookup ar.arg = some (.ref a) := by
    rw [hp2]
    have nd := S.nd
    exact zip_look (i := 0) (ps := (["self", arg2] : List Str)) (us := [Value.ref a, uy]) (by
      have q := nd.sublist (List.take_sublist 2 (["self", arg2, "__class__"] : List Str))
      exact q) rfl rfl
  obtain ⟨t1, hoe⟩ := exo_at I.hok ea
  obtain ⟨oC, hC1, hC2⟩ : ∃ oC, h₁.get? C = some oC ∧ oC.data = .cls cd := by
    unfold PySem.W.clsIn at hcls
    split at hcls
    · rename_i c d cd' sl ho
      cases hcls
      exact ⟨_, K1 _ _ ho, rfl⟩
    · cases hcls
  have hself2 : scope.names.lookup ar.arg = some .local := by rw [hp2]; exact S.par "self" List.mem_cons_self
  obtain ⟨mb, hm1, hm2⟩ := I.mod.blt
  obtain ⟨pl, hpl⟩ := hcall (envF (supF name qual params (supBody e st2 p0 p1 p2 p3 p4) scope cc cda) f s.heap.objs.size)
  refine PySem.ks_wpAt_execs_cons (PySem.ks_wpAt_Expr_any (PySem.ks_wpAt_MethodCall ?_ hpl) (hi := I.quiet))
  refine PySem.ks_wpAt_super_base (f := f) hsup (S.frk "__class__" List.mem_cons_self) (by decide) rfl (kp _ _ (KX _ _ lk)) rfl hp1 rfl (K1 _ _ hcode) rfl hvs hfile htop ?_
  refine PySem.W.ks_loadName_global S.kind hsup (Calls.loadGlobal_builtin (I.mod.glob.keeps I.bk) msup (hm1.keeps I.bk) ((hm2 "super" (by decide)).trans (show bootBuiltins "super" = some (.type "super") by decide +kernel)) ⟨rfl, ?_⟩)
  refine wpAny_loadName_free S.kind (S.frk "__class__" List.mem_cons_self) rfl ⟨_, K1 _ _ hcell, rfl⟩ ?_
  refine wpAny_loadName_local S.kind hself2 hns hself ?_
  refine PySem.ks_wpAny_isType_cls hC1 hC2 ⟨rfl, ?_⟩
  refine PySem.ks_wpAny_call_super hC1 hC2 hoe rfl (fun c z => by cases z) (PySem.W.looks_mroIn K1 hsub) (fun h2 hso k2 => ?_)
  have K2 : K.In h2 := K1.keeps k2
  have I2 := I.kept (h' := h2) (t' := s.toks + (((["self", arg2] : List Str).zip [Value.ref a, uy])).length) k2
  have IA : PySem.W.InstAt h2 a _ C none := ⟨k2 _ _ hoe, rfl, rfl, trivial⟩
  have halong' : PySem.W.alongIn K "__init__" ((cd.mro.dropWhile (· != .ref C)).drop 1) = some (some (.builtin "ValueError.__init__")) := by
    unfold PySem.W.ks_superIn at halong
    rw [hcls] at halong
    exact halong
  refine PySem.W.kxs_getMethod PySem.W.kxs_ValueError hso (PySem.W.looks_opaque K2 hopq) (l₀ := cd.mro) (fun A Q E s k q => wpAny_bind ((PySem.W.looks_clsIn K2 hcls) A _ E s k (wpAny_pure q))) rfl K2 halong' (IA.type.andThen (PySem.W.looks_subIn K2 hve)) (PySem.W.ks_ne K2 IA hcls) (by decide) ?_
  have k3 : ∀ b o, h2.get? b = some o → (h2.push (PySem.W.kxs_mw "ValueError.__init__" a)).get? b = some o := fun b o z => Heap.get?_push_of_some _ z
  have I3 := I2.kept (h' := h2.push (PySem.W.kxs_mw "ValueError.__init__" a)) (t' := s.toks + (((["self", arg2] : List Str).zip [Value.ref a, uy])).length + 1) k3
  have hu : (h2.push (PySem.W.kxs_mw "ValueError.__init__" a)).get? h2.objs.size = some (PySem.W.kxs_mw "ValueError.__init__" a) := Heap.get?_push_size _ rfl
  have I4 := I3.pins_of (pins' := [(h2.objs.size, PySem.W.kxs_mw "ValueError.__init__" a)]) fun p hp => by
    obtain rfl := List.mem_singleton.mp hp
    refine ⟨hu, I2.hok.fresh (Nat.le_refl _), fun z => ?_, I2.nofs (Nat.le_refl _), fun v z => by cases z⟩
    have := I2.lt
    rw [← z] at this
    exact absurd this (Nat.lt_irrefl _)
  refine callWith_mw (i := "ValueError.__init__") (x := a) (thn (hPA.run p3 _ _ _ H _ I4 hq) fun us' s5 ⟨vs', H5, I5, r5, hlen, ea5, q5⟩ => ⟨(I5.pin _ (List.mem_append_right _ List.mem_cons_self)).1, ?_⟩) (he _)
  have hlen' : us'.length ≤ sizeLine := by
    rw [← Paired.length r5, sizeLine_eq]
    omega
  refine call_mw (X := ncx CX P w K mg base ["self", arg2, "__class__"] (supF name qual params (supBody e st2 p0 p1 p2 p3 p4) scope cc cda) f A outer s H E) T I5 ea5 hlen' (I5.pin _ (List.mem_append_right _ List.mem_cons_self)).1 (fun s6 I6 => ?_)
  have I7 := I6.pins_of (pins' := []) fun p hp => by cases hp
  refine wpAt_of_wpAny (wpAny_mono ((pss_one hPS).run [] s6 _ H5 _ I7 q5) (fun fl s' hs => ?_) fun e s' hs => hs)
  have fin : ∀ {σ' : L2.St} {H' : Hp} {v : V} {u : Value}, L2.Inv (ncx CX P w K mg base ["self", arg2, "__class__"] (supF name qual params (supBody e st2 p0 p1 p2 p3 p4) scope cc cda) f A outer s H E) [] σ' H' s' → L2.RelV v u → Q v H' → CE outer P w H s Q u s' :=
    fun {σ' H' v u} J rv q => ⟨v, H', J.os, J.bare, J.base, J.hok, rv, q⟩
  cases fl with
  | ret u =>
    obtain ⟨v, σ', H', J, rv, q⟩ := hs
    exact fin J rv q
  | next =>
    obtain ⟨σ', H', J, q⟩ := hs
    exact fin (v := V.non) (u := Value.none) J rfl q
  | brk =>
    obtain ⟨_, _, _, q⟩ := hs
    exact False.elim q
  | cont =>
    obtain ⟨_, _, _, q⟩ := hs
    exact False.elim q
end
end SupX

set_option Elab.async false
set_option linter.all false
set_option maxRecDepth 100000
set_option maxHeartbeats 4000000
namespace SupX
open PySem PySem.Spec PyProof.Rows L2 NdefX LamX
/-- isinstance(e, c), e the exception that the suite holds, with or without a dict of its own -/
def rIsX (K : PySem.W.Frag) (a : Addr) (cls : Value) (d : Option Addr) : List V → Hp → VK → Prop := fun xs H Q => ∃ (c : V) (cv : Value) (b : Bool) (D : Addr), xs = [.ref a, c] ∧ cls = .ref D ∧ ExcC K D ∧ (∀ u, L2.RelV c u → u = cv) ∧ PySem.W.kitOne K (.ref D) cv = some b ∧ (∀ dd, d = some dd → ∃ fs, H dd = some (.xd fs)) ∧ Q (.bl b) H
theorem call_isX {X : Cx} {a : Addr} {cls : Value} {d : Option Addr} {oe : Obj} {pn : List (Addr × Obj)} (hz : Zc cls d oe) (hf : ∃ vs, oe.data = .fields vs) : CallR (X.suite a ((a, oe) :: pn)) (.builtin "isinstance") (rIsX X.K a cls d) := by
  intro pins s σ H xs us Q I r h
  obtain ⟨c, cv, b, D, rfl, rfl, C, hcv, e, hd, q⟩ := h
  cases r with
  | cons rx rr =>
    cases rr with
    | cons rt rr =>
      cases rr
      cases rx
      obtain rfl := hcv _ rt
      obtain ⟨hget, _⟩ := I.pin (a, oe) (List.mem_append_left _ List.mem_cons_self)
      obtain ⟨vs, hv⟩ := hf
      obtain ⟨od, J⟩ : ∃ od, PySem.W.InstAt s.heap a oe D od := by
        have no : PySem.W.notCls oe = true := by unfold PySem.W.notCls; rw [hv]
        cases hdd : d with
        | none => exact ⟨none, hget, hz.1, no, by rw [hz.2, hdd]; trivial⟩
        | some dd =>
          obtain ⟨fs, hx⟩ := hd dd hdd
          have hx' : ObjOk X.prog X.w H s.heap dd (.xd fs) := I.hok dd _ hx
          obtain ⟨mA, ⟨o, es, ep, ho, _⟩, _⟩ := hx'
          exact ⟨some o, hget, hz.1, no, by rw [hz.2, hdd]; exact ho⟩
      have hcl : (PySem.W.clsIn X.K D).isSome = true := by
        obtain ⟨cd, hc, _⟩ := PySem.W.any_some C.hd
        rw [hc]
        rfl
      exact PySem.W.kia_one (PySem.W.kitx_exc hcl C.hg C.hk C.hs C.ha C.hn C.ht C.hm) I.kIn J e (fun z => nomatch z) fun tk => ⟨.bl b, H, I.kept (t' := tk) fun _ _ z => z, rfl, q⟩
/-- such an __init__ that keeps its one argument as the field fld -/
def spKeep (C : Addr) (fld : Str) : Sp := fun vs H Q _ => ∃ (a : Addr) (y : V), vs = [.ref a, y] ∧ (∃ z : Str, y = .str z ∧ z.length ≤ 100000 ∨ ∃ i : Int, y = .int i ∧ i.natAbs.log2 < 1920) ∧ H a = some (exo a C none) ∧
  ∀ dx, H dx = none → dx ≠ a → Q .non (upd (upd H dx (exd dx [(fld, y)])) a (exo a C (some dx)))
/-- C(e): what its making asks behind the argument -/
theorem keep_post {C : Addr} {fld : Str} {y : V} {H1 : Hp} {Q : XK} (hy : ∃ z : Str, y = .str z ∧ z.length ≤ 100000 ∨ ∃ i : Int, y = .int i ∧ i.natAbs.log2 < 1920) (q : ∀ d H', H1 d = none → Evl.Ex H1 H' → H' d = some (.xd [(fld, y)]) → Q (.ref C) (some d) H') :
    ([y] : List V).length ≤ 1000 ∧ ∀ a, H1 a = none → spKeep C fld (.ref a :: ([y] ++ [])) (upd H1 a (exo a C none))
      (fun v H2 => v = .non ∧ ∃ (d : Addr) (fs : List (Str × V)), H2 a = some (exo a C (some d)) ∧ H2 d = some (exd d fs) ∧ H1 d = none ∧ Q (.ref C) (some d) (upd (L2.del H2 a) d (.xd fs))) (fun _ _ _ => False) := by
  refine ⟨by show 1 ≤ 1000; decide, fun a ha => ⟨a, y, rfl, hy, upd_same, fun dx hd ne => ⟨rfl, dx, [(fld, y)], upd_same, ?_, ?_, ?_⟩⟩⟩
  · rw [upd_ne ne, upd_same]
  · rw [upd_ne ne] at hd
    exact hd
  · have hd1 : H1 dx = none := by rw [upd_ne ne] at hd; exact hd
    refine q dx _ hd1 (fun b o hb => ?_) upd_same
    have nb : b ≠ dx := fun z => by rw [z, hd1] at hb; cases hb
    have na : b ≠ a := fun z => by rw [z, ha] at hb; cases hb
    rw [upd_ne nb, L2.del_ne na, upd_ne na, upd_ne nb, upd_ne na]
    exact hb
theorem pmk_keep {X : Cx} {x : Str} {C fI : Addr} {k : Nat} {fd : FuncData} {e : Expr} {es : List Expr} {ta : TA} {p pos : Pos} {ps : List Str} {fld : Str} (T : OexC X.K C) (iC : PySem.W.findIn X.K (.ref C) "__init__" = some (some (.ref fI))) (tI : PySem.W.typeIn X.K (.ref fI) = some (.type "function"))
    (F1 : FnOk X.prog X.w X.K X.mg X.base CX0 k fI fd ps (spKeep C fld)) (hr : Room (k + 1) X.A) (hb : Binds X.K fd ps []) (hg : Gl X x) (hm : X.mg x = some (.ref C)) (ha : PA X (e :: es) ta)
    (hdb : (x == ("__debug__" : Str)) = false := by decide) (he : starEach (e :: es) X.env = (false, eval e X.env) :: starEach es X.env := by rfl) (hpl : (backTo pos (starEach es X.env)).any (·.1) = false := by rfl) :
    PMk X (.Call (.Name x p) (e :: es) [] pos) (tMkO C (spKeep C fld) [] ta) :=
  pmk_oex T iC tI F1 hr hb .nil pass0 hg hm ha hdb he hpl
end SupX

set_option linter.all false
/-! A binary heap, without any program: what the sifting of heapq keeps. -/
namespace HeapP
variable {α : Type}
/-- the order of the items: le x y where not y < x -/
structure Ord (lt : α → α → Bool) : Prop where
  asym : ∀ x y, lt x y = true → lt y x = false
  tr : ∀ x y z, lt y x = false → lt z y = false → lt z x = false
def par (i : Nat) : Nat := (i - 1) / 2
theorem par_lt {i : Nat} (h : 0 < i) : par i < i := by unfold par; omega
theorem par_left (i : Nat) : par (2 * i + 1) = i := by unfold par; omega
theorem par_right (i : Nat) : par (2 * i + 2) = i := by unfold par; omega
theorem kid {i p : Nat} (h : 0 < i) (e : par i = p) : i = 2 * p + 1 ∨ i = 2 * p + 2 := by unfold par at e; omega
def swp (f : Nat → α) (i j : Nat) : Nat → α := fun k => if k = i then f j else if k = j then f i else f k
theorem swp_l (f : Nat → α) (i j : Nat) : swp f i j i = f j := by unfold swp; rw [if_pos rfl]
theorem swp_r (f : Nat → α) {i j : Nat} (h : i ≠ j) : swp f i j j = f i := by unfold swp; rw [if_neg (fun e => h e.symm), if_pos rfl]
theorem swp_o (f : Nat → α) {i j k : Nat} (h1 : k ≠ i) (h2 : k ≠ j) : swp f i j k = f k := by unfold swp; rw [if_neg h1, if_neg h2]
/-- the items from top on stand in order: each is no less than the one above it, where that one is at top or behind it -/
def Heap (lt : α → α → Bool) (top n : Nat) (f : Nat → α) : Prop := ∀ i, 0 < i → i < n → top ≤ par i → lt (f i) (f (par i)) = false
/-- the same but at the place pos, whose item may be less or greater: what is below it is no less than what is above it -/
def Hole (lt : α → α → Bool) (top n pos : Nat) (f : Nat → α) : Prop :=
  (∀ i, 0 < i → i < n → top ≤ par i → i ≠ pos → par i ≠ pos → lt (f i) (f (par i)) = false) ∧
  (∀ c, 0 < c → c < n → par c = pos → 0 < pos → top ≤ par pos → lt (f c) (f (par pos)) = false)
/-- the same where the item is no greater than what is below it -/
def Low (lt : α → α → Bool) (top n pos : Nat) (f : Nat → α) : Prop :=
  (∀ i, 0 < i → i < n → top ≤ par i → i ≠ pos → lt (f i) (f (par i)) = false) ∧
  (∀ c, 0 < c → c < n → par c = pos → 0 < pos → top ≤ par pos → lt (f c) (f (par pos)) = false)
theorem hole_of_heap {lt : α → α → Bool} {top n : Nat} {f g : Nat → α} (h : Heap lt (top + 1) n f) (e : ∀ i, i ≠ top → i < n → g i = f i) : Hole lt top n top g := by
  refine ⟨fun i h0 hn ht hi hp => ?_, fun c h0 hn hc hp ht => ?_⟩
  · rw [e i hi hn, e (par i) hp (by have := par_lt h0; omega)]
    exact h i h0 hn (by omega)
  · have := par_lt hp
    omega
/-- one step down: the lesser of the two below comes up -/
theorem hole_down {lt : α → α → Bool} (O : Ord lt) {top n pos c : Nat} {f : Nat → α} (h : Hole lt top n pos f) (tp : top ≤ pos) (hc0 : 0 < c) (hc : c < n) (pc : par c = pos) (least : ∀ d, 0 < d → d < n → par d = pos → lt (f d) (f c) = false) :
    Hole lt top n c (swp f c pos) := by
  have ne : c ≠ pos := by have := par_lt hc0; omega
  refine ⟨fun i h0 hn ht hi hp => ?_, fun d h0 hn hd _ ht => ?_⟩
  · by_cases e1 : i = pos
    · have pp : par i ≠ pos := by have := par_lt h0; omega
      have pc' : par i ≠ c := by have := par_lt h0; have := par_lt hc0; omega
      subst e1
      rw [swp_r f ne, swp_o f pc' pp]
      exact h.2 c hc0 hc pc (by omega) ht
    · by_cases e2 : par i = pos
      · rw [swp_o f hi e1, e2, swp_r f ne]
        exact least i h0 hn e2
      · rw [swp_o f hi e1, swp_o f hp e2]
        exact h.1 i h0 hn ht e1 e2
  · have dn : d ≠ pos := by have := par_lt h0; have := par_lt hc0; omega
    have dc : d ≠ c := by have := par_lt h0; omega
    rw [swp_o f dc dn, pc, swp_r f ne]
    have cp := par_lt hc0
    rw [← hd]
    exact h.1 d h0 hn (by omega) dn (by rw [hd]; exact ne)
/-- at a place without any below it -/
theorem low_of_hole {lt : α → α → Bool} {top n pos : Nat} {f : Nat → α} (h : Hole lt top n pos f) (leaf : ∀ c, 0 < c → c < n → par c ≠ pos) : Low lt top n pos f :=
  ⟨fun i h0 hn ht hi => h.1 i h0 hn ht hi (leaf i h0 hn), fun c h0 hn hc => absurd hc (leaf c h0 hn)⟩
/-- one step up -/
theorem low_up {lt : α → α → Bool} (O : Ord lt) {top n pos : Nat} {f : Nat → α} (h : Low lt top n pos f) (h0 : 0 < pos) (hn : pos < n) (tp : top ≤ par pos) (less : lt (f pos) (f (par pos)) = true) :
    Low lt top n (par pos) (swp f (par pos) pos) := by
  have ne : par pos ≠ pos := by have := par_lt h0; omega
  have lp := par_lt h0
  have down : lt (f (par pos)) (f pos) = false := O.asym _ _ less
  refine ⟨fun i i0 hi ht hp => ?_, fun c c0 hc pc pp ht => ?_⟩
  · by_cases e1 : i = pos
    · rw [e1, swp_r f ne, swp_l]
      exact down
    · by_cases e2 : par i = par pos
      · rw [swp_o f hp e1, e2, swp_l]
        exact O.tr _ _ _ down (by rw [← e2]; exact h.1 i i0 hi ht e1)
      · by_cases e3 : par i = pos
        · rw [swp_o f hp e1, e3, swp_r f ne]
          exact h.2 i i0 hi e3 h0 tp
        · rw [swp_o f hp e1, swp_o f e2 e3]
          exact h.1 i i0 hi ht e1
  · have q := par_lt pp
    have gp1 : par (par pos) ≠ par pos := by omega
    have gp2 : par (par pos) ≠ pos := by omega
    have up : lt (f (par pos)) (f (par (par pos))) = false := h.1 (par pos) pp (by omega) ht (by omega)
    rw [swp_o f gp1 gp2]
    by_cases e1 : c = pos
    · rw [e1, swp_r f ne]
      exact up
    · rw [swp_o f (by have := par_lt c0; omega) e1]
      exact O.tr _ _ _ up (by rw [← pc]; exact h.1 c c0 hc (by rw [pc]; exact tp) e1)
/-- where the sifting stops -/
theorem heap_of_low {lt : α → α → Bool} {top n pos : Nat} {f : Nat → α} (h : Low lt top n pos f) (stop : 0 < pos → top ≤ par pos → lt (f pos) (f (par pos)) = false) : Heap lt top n f := fun i h0 hn ht => by
  by_cases e : i = pos
  · rw [e] at h0 ht ⊢
    exact stop h0 ht
  · exact h.1 i h0 hn ht e
/-- the first item of a heap is the least -/
theorem first_least {lt : α → α → Bool} (O : Ord lt) (irr : ∀ x, lt x x = false) {n : Nat} {f : Nat → α} (h : Heap lt 0 n f) : ∀ i, i < n → lt (f i) (f 0) = false := by
  intro i
  induction i using Nat.strongRecOn with
  | _ i ih =>
    intro hn
    by_cases z : i = 0
    · rw [z]; exact irr _
    · have p := par_lt (i := i) (by omega)
      exact O.tr _ _ _ (ih (par i) p (by omega)) (h i (by omega) hn (Nat.zero_le _))
/-- an item more -/
theorem low_push {lt : α → α → Bool} {n : Nat} {f : Nat → α} (h : Heap lt 0 n f) : Low lt 0 (n + 1) n f :=
  ⟨fun i h0 hn ht hi => h i h0 (by omega) ht, fun c h0 hn hc => by have := par_lt h0; omega⟩
/-- no two places from the half on stand above one another -/
theorem heap_half {lt : α → α → Bool} {n : Nat} (f : Nat → α) : Heap lt (n / 2) n f := fun i h0 hn ht => by
  unfold par at ht
  omega
theorem leaf_half {n pos : Nat} (h : ¬ pos < n / 2) : ∀ c, 0 < c → c < n → par c ≠ pos := fun c h0 hn e => by
  unfold par at e
  omega
end HeapP

set_option Elab.async false
set_option linter.all false
set_option maxRecDepth 100000
set_option maxHeartbeats 4000000
namespace HeapM
open PySem L2 PySem.Spec PyProof.Rows
open AutoSeq1 (wpAny_loadPart')
theorem entry_sift : entryFor table "_heapq.heapify.sift" = some Builtin.«_heapq.heapify.sift» := entryFor_of_tree (by kernel_rfl)
theorem entry_push : entryFor table "_heapq.heappush" = some Builtin.«_heapq.heappush» := entryFor_of_tree (by kernel_rfl)
theorem entry_pop : entryFor table "_heapq.heappop" = some Builtin.«_heapq.heappop» := entryFor_of_tree (by kernel_rfl)
theorem entry_heapify : entryFor table "_heapq.heapify" = some Builtin.«_heapq.heapify» := entryFor_of_tree (by kernel_rfl)
theorem leaf_step {prog : Program} {w : World} {A : Around} {R : PySem.Fin → Shared → Prop} {E : Value → Shared → Prop} {s : Shared} {a : Addr} {xs : Array Value} {n pos top : Nat} {res : Value} {t1 t2 t3 : Tok} {after : Int}
    (h : s.heap.get? a = some { cls := .type "list", data := .seq xs n }) (hl : ¬ pos < xs.size / 2) (q : R (.again (.builtin "_heapq.heapify.sift" ⟨[.ref a, .bool false, .bool false, rawInt pos, rawInt top, res, rawInt after], []⟩)) s) :
    wpAny (model prog w) A (Builtin.«_heapq.heapify.sift» ⟨[.ref a, .bool false, .bool true, .int pos t1, .int top t2, res, .int after t3], []⟩) R E s := by
  obtain ⟨hp, g, d, tk, os⟩ := s
  have e1 : ((pos : Int)).toNat = pos := rfl
  have e2 : ((top : Int)).toNat = top := rfl
  unfold Builtin.«_heapq.heapify.sift»
  dsimp only
  refine wpAny_bind ?_
  wp_walk using wpAny_loadPart' h
  exact q
/-- a child comes up -/
theorem down_step {prog : Program} {w : World} {A : Around} {R : PySem.Fin → Shared → Prop} {E : Value → Shared → Prop} {s : Shared} {a : Addr} {xs : Array Value} {n pos top : Nat} {res : Value} {t1 t2 t3 : Tok} {after : Int} {lt : Value → Value → Bool}
    (h : s.heap.get? a = some { cls := .type "list", data := .seq xs n }) (hz : xs.size ≤ 100000) (hl : pos < xs.size / 2)
    (hlt : ∀ x y, x ∈ xs → y ∈ xs → SeqAt.RcLt A s x y (lt x y))
    (q : ∀ c (hc : c < xs.size) (hp : pos < xs.size), 0 < c → HeapP.par c = pos → (∀ d (hd : d < xs.size), 0 < d → HeapP.par d = pos → d ≠ c → lt xs[d] xs[c] = false ∨ lt xs[c] xs[d] = true) →
      R (.again (.builtin "_heapq.heapify.sift" ⟨[.ref a, .bool false, .bool true, rawInt c, rawInt top, res, rawInt after], []⟩)) { s with heap := s.heap.update a (Obj.mapSeq fun ys => (ys.setIfInBounds c xs[pos]).setIfInBounds pos xs[c]) }) :
    wpAny (model prog w) A (Builtin.«_heapq.heapify.sift» ⟨[.ref a, .bool false, .bool true, .int pos t1, .int top t2, res, .int after t3], []⟩) R E s := by
  have hp0 : pos < xs.size := by omega
  have hl0 : 2 * pos + 1 < xs.size := by omega
  have gl : xs[2 * pos + 1]? = some xs[2 * pos + 1] := by simp [hl0]
  have gp : xs[pos]? = some xs[pos] := by simp [hp0]
  obtain ⟨hp, g, d, tk, os⟩ := s
  unfold Builtin.«_heapq.heapify.sift»
  dsimp only
  refine wpAny_bind ?_
  wp_walk using wpAny_loadPart' h
  have ep : ((pos : Int)).toNat = pos := rfl
  have et : ((top : Int)).toNat = top := rfl
  rw [ep, et]
  by_cases two : 2 * pos + 1 + 1 < xs.size
  · have gr : xs[2 * pos + 1 + 1]? = some xs[2 * pos + 1 + 1] := by simp [two]
    rw [if_pos two]
    wp_walk using wpAny_loadPart' h
    rw [gl]
    wp_walk using wpAny_loadPart' h
    rw [gr]
    have cmp := hlt _ _ (Array.getElem_mem hl0) (Array.getElem_mem two) prog w
    wp_walk using cmp _ _, wpAny_loadPart' h
    cases e : lt xs[2 * pos + 1] xs[2 * pos + 1 + 1] with
    | true =>
      rw [if_neg (by decide)]
      refine wpAny_bind ?_
      wp_walk using wpAny_loadPart' h
      rw [gl]
      wp_walk using wpAny_loadPart' h
      rw [gp]
      have z1 : xs.size ≤ sizeLine := by rw [sizeLine_eq]; omega
      have z2 : ((xs.setIfInBounds (2 * pos + 1) xs[pos]).setIfInBounds pos xs[2 * pos + 1]).size ≤ sizeLine + 1 := by rw [Array.size_setIfInBounds, Array.size_setIfInBounds, sizeLine_eq]; omega
      wp_walk using (wpAny_updateSeq h rfl (hz := z1) (_hz' := z2)), wpAny_loadPart' h
      refine q (2 * pos + 1) hl0 hp0 (by omega) (HeapP.par_left pos) fun d hd d0 pd ne => .inr ?_
      rcases HeapP.kid d0 pd with z | z
      · exact absurd z ne
      · subst z; exact e
    | false =>
      rw [if_pos (show (!false) = true from rfl)]
      refine wpAny_bind ?_
      wp_walk using wpAny_loadPart' h
      rw [gr]
      wp_walk using wpAny_loadPart' h
      rw [gp]
      have z1 : xs.size ≤ sizeLine := by rw [sizeLine_eq]; omega
      have z2 : ((xs.setIfInBounds (2 * pos + 1 + 1) xs[pos]).setIfInBounds pos xs[2 * pos + 1 + 1]).size ≤ sizeLine + 1 := by rw [Array.size_setIfInBounds, Array.size_setIfInBounds, sizeLine_eq]; omega
      wp_walk using (wpAny_updateSeq h rfl (hz := z1) (_hz' := z2)), wpAny_loadPart' h
      refine q (2 * pos + 1 + 1) two hp0 (by omega) (HeapP.par_right pos) fun d hd d0 pd ne => .inl ?_
      rcases HeapP.kid d0 pd with z | z
      · subst z; exact e
      · exact absurd z ne
  · rw [if_neg two]
    refine wpAny_bind ?_
    wp_walk using wpAny_loadPart' h
    rw [gl]
    wp_walk using wpAny_loadPart' h
    rw [gp]
    have z1 : xs.size ≤ sizeLine := by rw [sizeLine_eq]; omega
    have z2 : ((xs.setIfInBounds (2 * pos + 1) xs[pos]).setIfInBounds pos xs[2 * pos + 1]).size ≤ sizeLine + 1 := by rw [Array.size_setIfInBounds, Array.size_setIfInBounds, sizeLine_eq]; omega
    wp_walk using (wpAny_updateSeq h rfl (hz := z1) (_hz' := z2)), wpAny_loadPart' h
    refine q (2 * pos + 1) hl0 hp0 (by omega) (HeapP.par_left pos) fun d hd d0 pd ne => ?_
    rcases HeapP.kid d0 pd with z | z
    · exact absurd z ne
    · omega
/-- an item goes up -/
theorem up_step {prog : Program} {w : World} {A : Around} {R : PySem.Fin → Shared → Prop} {E : Value → Shared → Prop} {s : Shared} {a : Addr} {xs : Array Value} {n pos top : Nat} {res : Value} {t1 t2 t3 : Tok} {after : Int} {lt : Value → Value → Bool}
    (h : s.heap.get? a = some { cls := .type "list", data := .seq xs n }) (hz : xs.size ≤ 100000) (hp : pos < xs.size) (tp : top < pos) (hp2 : (pos - 1) / 2 < xs.size)
    (hlt : ∀ x y, x ∈ xs → y ∈ xs → SeqAt.RcLt A s x y (lt x y))
    (yes : lt xs[pos] xs[(pos - 1) / 2] = true → R (.again (.builtin "_heapq.heapify.sift" ⟨[.ref a, .bool false, .bool false, rawInt ((pos - 1) / 2 : Nat), rawInt top, res, rawInt after], []⟩)) { s with heap := s.heap.update a (Obj.mapSeq fun ys => (ys.setIfInBounds ((pos - 1) / 2) xs[pos]).setIfInBounds pos xs[(pos - 1) / 2]) })
    (no : lt xs[pos] xs[(pos - 1) / 2] = false → R (if after < 0 then .done (.ret res) else .again (.builtin "_heapq.heapify.sift" ⟨[.ref a, .bool false, .bool true, rawInt after.toNat, rawInt after.toNat, res, rawInt (after - 1)], []⟩)) s) :
    wpAny (model prog w) A (Builtin.«_heapq.heapify.sift» ⟨[.ref a, .bool false, .bool false, .int pos t1, .int top t2, res, .int after t3], []⟩) R E s := by
  have gp : xs[pos]? = some xs[pos] := by simp [hp]
  have gq : xs[(pos - 1) / 2]? = some xs[(pos - 1) / 2] := by simp [hp2]
  obtain ⟨hh, g, d, tk, os⟩ := s
  unfold Builtin.«_heapq.heapify.sift»
  dsimp only
  refine wpAny_bind ?_
  wp_walk using wpAny_loadPart' h
  have ep : ((pos : Int)).toNat = pos := rfl
  have et : ((top : Int)).toNat = top := rfl
  rw [ep, et, gp]
  wp_walk using wpAny_loadPart' h
  rw [gq]
  have cmp := hlt _ _ (Array.getElem_mem hp) (Array.getElem_mem hp2) prog w
  wp_walk using cmp _ _, wpAny_loadPart' h
  cases e : lt xs[pos] xs[(pos - 1) / 2] with
  | true =>
    rw [if_pos (show true = true from rfl)]
    refine wpAny_bind ?_
    wp_walk using wpAny_loadPart' h
    rw [gq]
    wp_walk using wpAny_loadPart' h
    rw [gp]
    have z1 : xs.size ≤ sizeLine := by rw [sizeLine_eq]; omega
    have z2 : ((xs.setIfInBounds ((pos - 1) / 2) xs[pos]).setIfInBounds pos xs[(pos - 1) / 2]).size ≤ sizeLine + 1 := by rw [Array.size_setIfInBounds, Array.size_setIfInBounds, sizeLine_eq]; omega
    wp_walk using (wpAny_updateSeq h rfl (hz := z1) (_hz' := z2)), wpAny_loadPart' h
    exact yes e
  | false =>
    rw [if_neg Bool.false_ne_true]
    have no := no e
    by_cases a0 : after < 0
    · rw [if_pos a0] at no ⊢
      wp_walk
      exact no
    · rw [if_neg a0] at no ⊢
      wp_walk
      exact no
/-- the sifting is at its top -/
theorem stop_step {prog : Program} {w : World} {A : Around} {R : PySem.Fin → Shared → Prop} {E : Value → Shared → Prop} {s : Shared} {a : Addr} {xs : Array Value} {n pos top : Nat} {res : Value} {t1 t2 t3 : Tok} {after : Int}
    (h : s.heap.get? a = some { cls := .type "list", data := .seq xs n }) (tp : ¬ top < pos)
    (no : R (if after < 0 then .done (.ret res) else .again (.builtin "_heapq.heapify.sift" ⟨[.ref a, .bool false, .bool true, rawInt after.toNat, rawInt after.toNat, res, rawInt (after - 1)], []⟩)) s) :
    wpAny (model prog w) A (Builtin.«_heapq.heapify.sift» ⟨[.ref a, .bool false, .bool false, .int pos t1, .int top t2, res, .int after t3], []⟩) R E s := by
  obtain ⟨hh, g, d, tk, os⟩ := s
  unfold Builtin.«_heapq.heapify.sift»
  dsimp only
  refine wpAny_bind ?_
  wp_walk using wpAny_loadPart' h
  have tp' : ¬ ((pos : Int)).toNat > ((top : Int)).toNat := tp
  first | rw [if_neg tp'] | skip
  by_cases a0 : after < 0
  · rw [if_pos a0] at no ⊢
    wp_walk
    exact no
  · rw [if_neg a0] at no ⊢
    wp_walk
    exact no
end HeapM

set_option Elab.async false
set_option linter.all false
set_option maxRecDepth 100000
set_option maxHeartbeats 4000000
namespace HeapM
open PySem L2 PySem.Spec PyProof.Rows
def fn (xs : Array Value) : Nat → Value := fun k => xs.toList.getD k .none
theorem fn_at {xs : Array Value} {k : Nat} (h : k < xs.size) : fn xs k = xs[k] := by
  unfold fn
  rw [List.getD_eq_getElem?_getD, List.getElem?_eq_getElem (by simpa using h)]
  simp
def swapped (xs : Array Value) (i j : Nat) (x y : Value) : Array Value := (xs.setIfInBounds i x).setIfInBounds j y
theorem swapped_size (xs : Array Value) (i j : Nat) (x y : Value) : (swapped xs i j x y).size = xs.size := by
  unfold swapped; rw [Array.size_setIfInBounds, Array.size_setIfInBounds]
theorem swapped_list (xs : Array Value) (i j : Nat) (x y : Value) : (swapped xs i j x y).toList = (xs.toList.set i x).set j y := by
  unfold swapped; rw [Array.toList_setIfInBounds, Array.toList_setIfInBounds]
theorem swapped_fn {xs : Array Value} {i j : Nat} (hi : i < xs.size) (hj : j < xs.size) (ne : i ≠ j) : fn (swapped xs i j xs[j] xs[i]) = HeapP.swp (fn xs) i j := by
  funext k
  have li : i < xs.toList.length := by simpa using hi
  have lj : j < xs.toList.length := by simpa using hj
  unfold fn HeapP.swp
  rw [swapped_list, List.getD_eq_getElem?_getD]
  by_cases e1 : k = j
  · subst e1
    rw [List.getElem?_set_self (by rw [List.length_set]; exact lj), if_neg (fun z => ne z.symm), if_pos rfl]
    exact (fn_at hi).symm
  · rw [List.getElem?_set_ne (fun z => e1 z.symm)]
    by_cases e2 : k = i
    · subst e2
      rw [List.getElem?_set_self li, if_pos rfl]
      exact (fn_at hj).symm
    · rw [List.getElem?_set_ne (fun z => e2 z.symm), if_neg e2, if_neg e1]
      rfl
theorem swapped_perm {xs : Array Value} {i j : Nat} (hi : i < xs.size) (hj : j < xs.size) : (swapped xs i j xs[j] xs[i]).toList.Perm xs.toList := by
  rw [swapped_list]
  have li : i < xs.toList.length := by simpa using hi
  have lj : j < xs.toList.length := by simpa using hj
  have := List.set_set_perm (as := xs.toList) li lj
  simpa using this
/-- a place below or at top -/
inductive Sub (top : Nat) : Nat → Prop
  | refl : Sub top top
  | step {p : Nat} : 0 < p → Sub top (HeapP.par p) → Sub top p
theorem Sub.le {top p : Nat} (h : Sub top p) : top ≤ p := by
  induction h with
  | refl => exact Nat.le_refl _
  | step h0 _ ih => have := HeapP.par_lt h0; omega
theorem Sub.up {top p : Nat} (h : Sub top p) (lt : top < p) : Sub top (HeapP.par p) := by
  cases h with
  | refl => omega
  | step _ h => exact h
/-- the same state but for the list at a -/
def Sb (a : Addr) (s s' : Shared) : Prop := ∃ h', s' = { s with heap := h' } ∧ Heap.SameBut a s.heap h'
theorem Sb.refl {a : Addr} {s : Shared} : Sb a s s := ⟨s.heap, rfl, Heap.SameBut.refl ..⟩
theorem Sb.upd {a : Addr} {s s' : Shared} {f : Obj → Obj} (h : Sb a s s') : Sb a s { s' with heap := s'.heap.update a f } := by
  obtain ⟨h', rfl, sb⟩ := h
  exact ⟨_, rfl, sb.trans (Heap.SameBut.update ..)⟩
theorem Sb.heap {a : Addr} {s s' : Shared} (h : Sb a s s') : Heap.SameBut a s.heap s'.heap := by
  obtain ⟨h', rfl, sb⟩ := h
  exact sb
def LS (h : Heap) (a : Addr) (xs : Array Value) : Prop := ∃ n, h.get? a = some { cls := .type "list", data := .seq xs n }
/-- what is behind the sifting -/
def After (prog : Program) (w : World) (A : Around) (R : Result → Shared → Prop) (a : Addr) (res : Value) (after : Int) (s' : Shared) : Prop :=
  if after < 0 then R (.ok (.ret res)) s' else codeAny (model prog w) A (.builtin "_heapq.heapify.sift" ⟨[.ref a, .bool false, .bool true, rawInt after.toNat, rawInt after.toNat, res, rawInt (after - 1)], []⟩) R s'
theorem sift_plain : plainId "_heapq.heapify.sift" = true := by decide +kernel
section
variable {prog : Program} {w : World} {A : Around} {R : Result → Shared → Prop} {a : Addr} {res : Value} {after : Int} {lt : Value → Value → Bool} {top : Nat} {s0 : Shared} {xs0 : Array Value}
theorem go_up (O : HeapP.Ord lt) (hz : xs0.size ≤ 100000)
    (hlt : ∀ (args : Args) (s' : Shared), Sb a s0 s' → ∀ x y, x ∈ xs0.toList → y ∈ xs0.toList → SeqAt.RcLt (A.under (.builtin "_heapq.heapify.sift" args)) s' x y (lt x y))
    (K : ∀ ys s', LS s'.heap a ys → ys.toList.Perm xs0.toList → HeapP.Heap lt top ys.size (fn ys) → Sb a s0 s' → After prog w A R a res after s') :
    ∀ (pos : Nat) (xs : Array Value) (s : Shared), LS s.heap a xs → xs.toList.Perm xs0.toList → Sb a s0 s → pos < xs.size → Sub top pos → HeapP.Low lt top xs.size pos (fn xs) →
      codeAny (model prog w) A (.builtin "_heapq.heapify.sift" ⟨[.ref a, .bool false, .bool false, rawInt pos, rawInt top, res, rawInt after], []⟩) R s := by
  intro pos
  induction pos using Nat.strongRecOn with
  | _ pos ih =>
    intro xs s ⟨n, h⟩ pm sb hp sub low
    have sz : xs.size = xs0.size := by have := pm.length_eq; simpa using this
    refine codeAny_builtin entry_sift ?_
    have fin : ∀ s', After prog w A R a res after s' → (match (if after < 0 then PySem.Fin.done (.ret res) else .again (.builtin "_heapq.heapify.sift" ⟨[.ref a, .bool false, .bool true, rawInt after.toNat, rawInt after.toNat, res, rawInt (after - 1)], []⟩)) with
        | .done f => R (.ok f) s'
        | .again c' => c'.quiet = true ∧ codeAny (model prog w) A c' R s') := fun s' k => by
      unfold After at k
      by_cases a0 : after < 0
      · rw [if_pos a0] at k ⊢; exact k
      · rw [if_neg a0] at k ⊢; exact ⟨plainId_quiet sift_plain _, k⟩
    by_cases tp : top < pos
    · have h0 : 0 < pos := by omega
      have pl := HeapP.par_lt h0
      have hp2 : (pos - 1) / 2 < xs.size := by show HeapP.par pos < _; omega
      refine up_step (lt := lt) h (by omega) hp tp hp2 (fun x y hx hy => hlt _ s sb x y (pm.mem_iff.mp (by simpa using hx)) (pm.mem_iff.mp (by simpa using hy))) (fun less => ?_) (fun no => ?_)
      · refine ⟨plainId_quiet sift_plain _, ?_⟩
        have ne : HeapP.par pos ≠ pos := by omega
        have g := Heap.get?_update_self (Obj.mapSeq fun ys => (ys.setIfInBounds ((pos - 1) / 2) xs[pos]).setIfInBounds pos xs[(pos - 1) / 2]) h rfl
        refine ih (HeapP.par pos) pl (swapped xs (HeapP.par pos) pos xs[pos] xs[(pos - 1) / 2]) _ ⟨_, g⟩ ((swapped_perm hp2 hp).trans pm) sb.upd (by rw [swapped_size]; exact hp2) (sub.up tp) ?_
        show HeapP.Low lt top (swapped xs ((pos - 1) / 2) pos xs[pos] xs[(pos - 1) / 2]).size (HeapP.par pos) (fn (swapped xs ((pos - 1) / 2) pos xs[pos] xs[(pos - 1) / 2]))
        rw [swapped_size, swapped_fn hp2 hp ne]
        refine HeapP.low_up O low h0 hp (sub.up tp).le ?_
        rw [fn_at hp]
        show lt xs[pos] (fn xs ((pos - 1) / 2)) = true
        rw [fn_at hp2]
        exact less
      · refine fin s (K xs s ⟨n, h⟩ pm (HeapP.heap_of_low low fun _ _ => ?_) sb)
        rw [fn_at hp]
        show lt xs[pos] (fn xs ((pos - 1) / 2)) = false
        rw [fn_at hp2]
        exact no
    · refine stop_step h tp (fin s (K xs s ⟨n, h⟩ pm (HeapP.heap_of_low low fun q0 q => ?_) sb))
      have := HeapP.par_lt q0
      omega
theorem go_down (O : HeapP.Ord lt) (irr : ∀ x, lt x x = false) (hz : xs0.size ≤ 100000)
    (hlt : ∀ (args : Args) (s' : Shared), Sb a s0 s' → ∀ x y, x ∈ xs0.toList → y ∈ xs0.toList → SeqAt.RcLt (A.under (.builtin "_heapq.heapify.sift" args)) s' x y (lt x y))
    (K : ∀ ys s', LS s'.heap a ys → ys.toList.Perm xs0.toList → HeapP.Heap lt top ys.size (fn ys) → Sb a s0 s' → After prog w A R a res after s') :
    ∀ (m pos : Nat) (xs : Array Value) (s : Shared), xs.size - pos = m → LS s.heap a xs → xs.toList.Perm xs0.toList → Sb a s0 s → pos < xs.size → Sub top pos → HeapP.Hole lt top xs.size pos (fn xs) →
      codeAny (model prog w) A (.builtin "_heapq.heapify.sift" ⟨[.ref a, .bool false, .bool true, rawInt pos, rawInt top, res, rawInt after], []⟩) R s := by
  intro m
  induction m using Nat.strongRecOn with
  | _ m ih =>
    intro pos xs s hm ⟨n, h⟩ pm sb hp sub hole
    have sz : xs.size = xs0.size := by have := pm.length_eq; simpa using this
    refine codeAny_builtin entry_sift ?_
    by_cases hl : pos < xs.size / 2
    · refine down_step (lt := lt) h (by omega) hl (fun x y hx hy => hlt _ s sb x y (pm.mem_iff.mp (by simpa using hx)) (pm.mem_iff.mp (by simpa using hy))) fun c hc _ c0 pc least => ?_
      refine ⟨plainId_quiet sift_plain _, ?_⟩
      have cp := HeapP.par_lt c0
      have ne : c ≠ pos := by omega
      have g := Heap.get?_update_self (Obj.mapSeq fun ys => (ys.setIfInBounds c xs[pos]).setIfInBounds pos xs[c]) h rfl
      refine ih (xs.size - c) (by omega) c (swapped xs c pos xs[pos] xs[c]) _ (by rw [swapped_size]) ⟨_, g⟩ ((swapped_perm hc hp).trans pm) sb.upd (by rw [swapped_size]; exact hc) (.step c0 (by rw [pc]; exact sub)) ?_
      rw [swapped_size, swapped_fn hc hp ne]
      refine HeapP.hole_down O hole sub.le c0 hc pc fun d d0 hd pd => ?_
      rw [fn_at hd, fn_at hc]
      by_cases e : d = c
      · subst e; exact irr _
      · rcases least d hd d0 pd e with q | q
        · exact q
        · exact O.asym _ _ q
    · refine leaf_step h hl ⟨plainId_quiet sift_plain _, ?_⟩
      exact go_up O hz hlt K pos xs s ⟨n, h⟩ pm sb hp sub (HeapP.low_of_hole hole (HeapP.leaf_half hl))
end
end HeapM

set_option Elab.async false
set_option linter.all false
set_option maxRecDepth 100000
set_option maxHeartbeats 4000000
namespace HeapM
open PySem L2 PySem.Spec PyProof.Rows
open AutoSeq1 (wpAny_loadPart')
theorem sub0 : ∀ p, Sub 0 p := fun p => by
  induction p using Nat.strongRecOn with
  | _ p ih =>
    by_cases z : p = 0
    · subst z; exact .refl
    · exact .step (by omega) (ih _ (HeapP.par_lt (by omega)))
theorem ends_perm {α : Type} (L : List α) (h : 2 ≤ L.length) : (L[0] :: L.dropLast.set 0 (L[L.length - 1])).Perm L := by
  match L, h with
  | x :: y :: t, _ =>
    have e : (x :: y :: t).dropLast = x :: (y :: t).dropLast := rfl
    rw [e, List.set_cons_zero]
    show (x :: (x :: y :: t)[(x :: y :: t).length - 1] :: (y :: t).dropLast).Perm (x :: y :: t)
    refine .cons x ?_
    have e2 : (x :: y :: t)[(x :: y :: t).length - 1] = (y :: t).getLast (by simp) := by
      rw [List.getLast_eq_getElem]
      simp
    rw [e2]
    have e3 := List.dropLast_concat_getLast (l := y :: t) (by simp)
    have e4 : ((y :: t).getLast (by simp) :: (y :: t).dropLast).Perm ((y :: t).dropLast ++ [(y :: t).getLast (by simp)]) := (List.perm_append_singleton _ _).symm
    rwa [e3] at e4
section
variable {prog : Program} {w : World} {A : Around} {R : Result → Shared → Prop} {a : Addr} {lt : Value → Value → Bool} {s : Shared} {xs : Array Value} {v : Value}
theorem push_any (O : HeapP.Ord lt) (hz : xs.size < 1000) (h : LS s.heap a xs) (hh : HeapP.Heap lt 0 xs.size (fn xs))
    (hlt : ∀ (args : Args) (s' : Shared), Sb a s s' → ∀ x y, x ∈ (xs.push v).toList → y ∈ (xs.push v).toList → SeqAt.RcLt (A.under (.builtin "_heapq.heapify.sift" args)) s' x y (lt x y))
    (K : ∀ ys s', LS s'.heap a ys → ys.toList.Perm (xs.push v).toList → HeapP.Heap lt 0 ys.size (fn ys) → Sb a s s' → R (.ok (.ret .none)) s') :
    codeAny (model prog w) A (.builtin "_heapq.heappush" ⟨[.ref a, v], []⟩) R s := by
  obtain ⟨n, h⟩ := h
  refine codeAny_builtin entry_push ?_
  obtain ⟨hp, g, d, tk, os⟩ := s
  unfold Builtin.«_heapq.heappush»
  dsimp only
  refine wpAny_bind ?_
  have z1 : xs.size ≤ sizeLine := by rw [sizeLine_eq]; omega
  have z2 : (xs.push v).size ≤ sizeLine + 1 := by rw [Array.size_push, sizeLine_eq]; omega
  have sub : isSubtype (.type "list") (.type "list") = pure true := by rw [isSubtype_type]; kernel_rfl
  wp_walk using (wpAny_updateSeq h rfl (hz := z1) (_hz' := z2)), wpAny_loadPart' h
  refine ⟨plainId_quiet sift_plain _, ?_⟩
  have gg := Heap.get?_update_self (Obj.mapSeq fun x => x.push v) h rfl
  have ps : (xs.push v).size = xs.size + 1 := Array.size_push ..
  have same : ∀ k, k < xs.size → fn (xs.push v) k = fn xs k := fun k hk => by
    rw [fn_at hk, fn_at (by omega), Array.getElem_push_lt hk]
  have ho : HeapP.Heap lt 0 xs.size (fn (xs.push v)) := fun i h0 hn ht => by
    have := HeapP.par_lt h0
    rw [same i hn, same _ (by omega)]
    exact hh i h0 hn ht
  have low := HeapP.low_push ho
  rw [← ps] at low
  have e0 : (xs.push v).size - 1 = xs.size := by omega
  show codeAny (model prog w) A (.builtin "_heapq.heapify.sift" ⟨[.ref a, .bool false, .bool false, rawInt ((xs.push v).size - 1 : Nat), rawInt (0 : Nat), .none, rawInt (-1)], []⟩) R _
  rw [e0]
  exact go_up (lt := lt) (top := 0) (s0 := ⟨hp, g, d, tk, os⟩) (xs0 := xs.push v) O (by omega) hlt (fun ys s' l p hq sb => by unfold After; rw [if_pos (by decide)]; exact K ys s' l p hq sb) xs.size (xs.push v) _ ⟨_, gg⟩ (.refl _) Sb.refl.upd (by omega) (sub0 _) low
theorem pop_any (O : HeapP.Ord lt) (irr : ∀ x, lt x x = false) (hz : xs.size < 1000) (pos : 0 < xs.size) (h : LS s.heap a xs) (hh : HeapP.Heap lt 0 xs.size (fn xs))
    (hlt : ∀ (args : Args) (s' : Shared), Sb a s s' → ∀ x y, x ∈ xs.toList → y ∈ xs.toList → SeqAt.RcLt (A.under (.builtin "_heapq.heapify.sift" args)) s' x y (lt x y))
    (K : ∀ ys s', LS s'.heap a ys → (fn xs 0 :: ys.toList).Perm xs.toList → HeapP.Heap lt 0 ys.size (fn ys) → Sb a s s' → R (.ok (.ret (fn xs 0))) s') :
    codeAny (model prog w) A (.builtin "_heapq.heappop" ⟨[.ref a], []⟩) R s := by
  obtain ⟨n, h⟩ := h
  refine codeAny_builtin entry_pop ?_
  have gb : xs.back? = some xs[xs.size - 1] := by rw [Array.back?_eq_getElem?]; exact Array.getElem?_eq_getElem (by omega)
  have g0 : xs[0]? = some xs[0] := Array.getElem?_eq_getElem pos
  obtain ⟨hp, g, d, tk, os⟩ := s
  unfold Builtin.«_heapq.heappop»
  have z1 : xs.size ≤ sizeLine := by rw [sizeLine_eq]; omega
  have z2 : xs.pop.size ≤ sizeLine + 1 := by rw [Array.size_pop, sizeLine_eq]; omega
  have sub : isSubtype (.type "list") (.type "list") = pure true := by rw [isSubtype_type]; kernel_rfl
  refine wpAny_bind ?_
  wp_walk using (wpAny_updateSeq h rfl (hz := z1) (_hz' := z2)), wpAny_loadPart' h
  rw [gb]
  wp_walk using (wpAny_updateSeq h rfl (hz := z1) (_hz' := z2)), wpAny_loadPart' h
  have gg := Heap.get?_update_self (Obj.mapSeq fun x => x.pop) h rfl
  by_cases e1 : xs.size = 1
  · rw [if_pos (by simp [e1])]
    wp_walk
    have e2 : xs[xs.size - 1] = fn xs 0 := by rw [fn_at pos]; congr 1; omega
    rw [e2]
    refine K xs.pop _ ⟨_, gg⟩ ?_ (fun i h0 hn => by rw [Array.size_pop] at hn; omega) Sb.refl.upd
    rw [fn_at pos, Array.toList_pop]
    have ll : xs.toList.length = 1 := by simpa using e1
    obtain ⟨x, hx⟩ := List.length_eq_one_iff.mp ll
    have e3 : xs[0] = x := by rw [← Array.getElem_toList (by simpa using pos)]; simp [hx]
    rw [hx, e3]
    exact .refl _
  · rw [if_neg (by simpa using e1)]
    wp_walk using wpAny_loadPart' gg
    rw [g0]
    have z3 : xs.pop.size ≤ sizeLine := by rw [Array.size_pop, sizeLine_eq]; omega
    have z4 : (xs.pop.setIfInBounds 0 xs[xs.size - 1]).size ≤ sizeLine + 1 := by rw [Array.size_setIfInBounds, Array.size_pop, sizeLine_eq]; omega
    wp_walk using (wpAny_updateSeq gg rfl (hz := z3) (_hz' := z4)), wpAny_loadPart' gg
    refine ⟨plainId_quiet sift_plain _, ?_⟩
    have g3 := Heap.get?_update_self (Obj.mapSeq fun x => x.setIfInBounds 0 xs[xs.size - 1]) gg rfl
    have ps : (xs.pop.setIfInBounds 0 xs[xs.size - 1]).size = xs.size - 1 := by rw [Array.size_setIfInBounds, Array.size_pop]
    have list : (xs.pop.setIfInBounds 0 xs[xs.size - 1]).toList = xs.toList.dropLast.set 0 xs[xs.size - 1] := by rw [Array.toList_setIfInBounds, Array.toList_pop]
    have perm : (xs[0] :: (xs.pop.setIfInBounds 0 xs[xs.size - 1]).toList).Perm xs.toList := by
      rw [list]
      have ls : xs.toList.length = xs.size := Array.length_toList
      have key := ends_perm xs.toList (by omega)
      have k0 : xs.toList[0]'(by omega) = xs[0] := Array.getElem_toList ..
      have k9 : xs.toList[xs.toList.length - 1]'(by omega) = xs[xs.size - 1] := by simp
      rw [k0, k9] at key
      exact key
    have mem : ∀ x, x ∈ (xs.pop.setIfInBounds 0 xs[xs.size - 1]).toList → x ∈ xs.toList := fun x hx => perm.mem_iff.mp (List.mem_cons_of_mem _ hx)
    have same : ∀ k, k ≠ 0 → k < xs.size - 1 → fn (xs.pop.setIfInBounds 0 xs[xs.size - 1]) k = fn xs k := fun k k0 hk => by
      rw [fn_at (by omega), fn_at (by omega), Array.getElem_setIfInBounds_ne (by rw [Array.size_pop]; exact hk) (fun z => k0 z.symm), Array.getElem_pop]
    have hole : HeapP.Hole lt 0 (xs.size - 1) 0 (fn (xs.pop.setIfInBounds 0 xs[xs.size - 1])) := HeapP.hole_of_heap (f := fn xs) (fun i h0 hn ht => hh i h0 (by omega) (Nat.zero_le _)) same
    have hole2 : ∀ m, m = xs.size - 1 → HeapP.Hole lt 0 m 0 (fn (xs.pop.setIfInBounds 0 xs[xs.size - 1])) := fun m e => by rw [e]; exact hole
    refine go_down (lt := lt) (top := 0) (s0 := ⟨hp, g, d, tk, os⟩) (xs0 := xs.pop.setIfInBounds 0 xs[xs.size - 1]) O irr (by omega) (fun args s' sb x y hx hy => hlt args s' sb x y (mem x hx) (mem y hy)) (fun ys s' l p hq sb => ?_) _ 0 (xs.pop.setIfInBounds 0 xs[xs.size - 1]) _ rfl ⟨_, g3⟩ (.refl _) (Sb.refl.upd.upd) (by omega) .refl (hole2 _ ps)
    unfold After
    rw [if_pos (by decide)]
    have k := K ys s' l ?_ hq sb
    · rw [fn_at pos] at k; exact k
    · rw [fn_at pos]
      exact (p.cons _).trans perm
theorem down_all (O : HeapP.Ord lt) (irr : ∀ x, lt x x = false) (hz : xs.size < 1000)
    (hlt : ∀ (args : Args) (s' : Shared), Sb a s s' → ∀ x y, x ∈ xs.toList → y ∈ xs.toList → SeqAt.RcLt (A.under (.builtin "_heapq.heapify.sift" args)) s' x y (lt x y))
    (K : ∀ ys s', LS s'.heap a ys → ys.toList.Perm xs.toList → HeapP.Heap lt 0 ys.size (fn ys) → Sb a s s' → R (.ok (.ret .none)) s') :
    ∀ (k : Nat) (ys : Array Value) (s1 : Shared), LS s1.heap a ys → ys.toList.Perm xs.toList → Sb a s s1 → k < ys.size → HeapP.Heap lt (k + 1) ys.size (fn ys) →
      codeAny (model prog w) A (.builtin "_heapq.heapify.sift" ⟨[.ref a, .bool false, .bool true, rawInt k, rawInt k, .none, rawInt ((k : Int) - 1)], []⟩) R s1
  | 0, ys, s1, h, pm, sb, hk, hp => by
    have sz : ys.size = xs.size := by have := pm.length_eq; simpa using this
    exact go_down (lt := lt) (top := 0) (s0 := s) (xs0 := xs) O irr (by omega) hlt (fun zs s' l p hq sb => by unfold After; rw [if_pos (by decide)]; exact K zs s' l p hq sb) _ 0 ys s1 rfl h pm sb hk .refl (HeapP.hole_of_heap (f := fn ys) hp fun _ _ _ => rfl)
  | k + 1, ys, s1, h, pm, sb, hk, hp => by
    have sz : ys.size = xs.size := by have := pm.length_eq; simpa using this
    refine go_down (lt := lt) (top := k + 1) (s0 := s) (xs0 := xs) O irr (by omega) hlt (fun zs s' l p hq sb => ?_) _ (k + 1) ys s1 rfl h pm sb hk .refl (HeapP.hole_of_heap (f := fn ys) hp fun _ _ _ => rfl)
    unfold After
    have e1 : ((k + 1 : Nat) : Int) - 1 = (k : Int) := by omega
    rw [e1, if_neg (by omega)]
    have sz2 : zs.size = xs.size := by have := p.length_eq; simpa using this
    exact down_all O irr hz hlt K k zs s' l p sb (by omega) hq
theorem heapify_any (O : HeapP.Ord lt) (irr : ∀ x, lt x x = false) (hz : xs.size < 1000) (h : LS s.heap a xs)
    (hlt : ∀ (args : Args) (s' : Shared), Sb a s s' → ∀ x y, x ∈ xs.toList → y ∈ xs.toList → SeqAt.RcLt (A.under (.builtin "_heapq.heapify.sift" args)) s' x y (lt x y))
    (K : ∀ ys s', LS s'.heap a ys → ys.toList.Perm xs.toList → HeapP.Heap lt 0 ys.size (fn ys) → Sb a s s' → R (.ok (.ret .none)) s') :
    codeAny (model prog w) A (.builtin "_heapq.heapify" ⟨[.ref a], []⟩) R s := by
  obtain ⟨n, h⟩ := h
  refine codeAny_builtin entry_heapify ?_
  obtain ⟨hp, g, d, tk, os⟩ := s
  unfold Builtin.«_heapq.heapify»
  have sub : isSubtype (.type "list") (.type "list") = pure true := by rw [isSubtype_type]; kernel_rfl
  refine wpAny_bind ?_
  wp_walk using wpAny_loadPart' h
  rw [if_neg (by omega)]
  have sb0 : Sb a ⟨hp, g, d, tk, os⟩ ⟨hp, g, d, tk, os⟩ := .refl
  by_cases e1 : xs.size < 2
  · show wpAny _ _ (if xs.size < 2 then ret Value.none else _) _ _ _
    rw [if_pos e1]
    wp_walk
    exact K xs _ ⟨n, h⟩ (.refl _) (fun i h0 hn ht => by
      have : HeapP.par i = 0 := by unfold HeapP.par; omega
      omega) sb0
  · show wpAny _ _ (if xs.size < 2 then ret Value.none else _) _ _ _
    rw [if_neg e1]
    wp_walk
    refine ⟨plainId_quiet sift_plain _, ?_⟩
    obtain ⟨k, hk⟩ : ∃ k, xs.size / 2 = k + 1 := ⟨xs.size / 2 - 1, by omega⟩
    have hf := HeapP.heap_half (lt := lt) (n := xs.size) (fn xs)
    have e2 : xs.size / 2 - 1 = k := by omega
    have e3 : ((xs.size / 2 : Nat) : Int) - 2 = (k : Int) - 1 := by omega
    rw [hk] at hf
    have := down_all (R := R) (A := A) (prog := prog) (w := w) (s := ⟨hp, g, d, tk, os⟩) O irr hz hlt K k xs ⟨hp, g, d, tk, os⟩ ⟨n, h⟩ (.refl _) sb0 (by omega) hf
    rw [e2, e3]
    exact this
end
end HeapM

set_option Elab.async false
set_option linter.all false
set_option maxRecDepth 100000
set_option maxHeartbeats 4000000
namespace HeapM
open PySem L2 PySem.Spec PyProof.Rows
/-- what rows (minute, place, link) are compared by -/
abbrev Key := Int × List Nat × List Nat
def lLt (a b : List Nat) : Bool := decide (a < b)
theorem lLt_irr (a : List Nat) : lLt a a = false := decide_eq_false (List.lt_irrefl a)
theorem lLt_asym {a b : List Nat} (h : lLt a b = true) : lLt b a = false := decide_eq_false (List.lt_asymm (of_decide_eq_true h))
theorem lLt_tr {a b c : List Nat} (h1 : lLt a b = true) (h2 : lLt b c = true) : lLt a c = true := decide_eq_true (List.lt_trans (of_decide_eq_true h1) (of_decide_eq_true h2))
theorem lLt_tri {a b : List Nat} (h1 : lLt a b = false) (ne : a ≠ b) : lLt b a = true := by
  refine decide_eq_true ?_
  have n1 : ¬ a < b := of_decide_eq_false h1
  have n2 : b ≤ a := n1
  by_cases h : b < a
  · exact h
  · exact absurd (List.le_antisymm h n2) ne
def keyLt (x y : Key) : Bool := if x.1 = y.1 then (if x.2.1 = y.2.1 then (if x.2.2 = y.2.2 then false else lLt x.2.2 y.2.2) else lLt x.2.1 y.2.1) else decide (x.1 < y.1)
theorem keyLt_irr (x : Key) : keyLt x x = false := by unfold keyLt; rw [if_pos rfl, if_pos rfl, if_pos rfl]
theorem keyLt_asym {x y : Key} (h : keyLt x y = true) : keyLt y x = false := by
  obtain ⟨m, s, t⟩ := x
  obtain ⟨m', s', t'⟩ := y
  unfold keyLt at *
  simp only at *
  by_cases e1 : m = m'
  · subst e1
    rw [if_pos rfl] at *
    by_cases e2 : s = s'
    · subst e2
      rw [if_pos rfl] at *
      by_cases e3 : t = t'
      · rw [if_pos e3] at h; cases h
      · rw [if_neg e3] at h
        rw [if_neg fun z => e3 z.symm]
        exact lLt_asym h
    · rw [if_neg e2] at h
      rw [if_neg fun z => e2 z.symm]
      exact lLt_asym h
  · rw [if_neg e1] at h
    rw [if_neg fun z => e1 z.symm]
    have := of_decide_eq_true h
    exact decide_eq_false (by omega)
theorem keyLt_tr {x y z : Key} (h1 : keyLt x y = true) (h2 : keyLt y z = true) : keyLt x z = true := by
  obtain ⟨m, s, t⟩ := x
  obtain ⟨m', s', t'⟩ := y
  obtain ⟨m2, s2, t2⟩ := z
  unfold keyLt at *
  simp only at *
  by_cases e1 : m = m'
  · subst e1
    rw [if_pos rfl] at h1
    by_cases f1 : m = m2
    · subst f1
      rw [if_pos rfl] at h2 ⊢
      by_cases e2 : s = s'
      · subst e2
        rw [if_pos rfl] at h1
        by_cases f2 : s = s2
        · subst f2
          rw [if_pos rfl] at h2 ⊢
          by_cases e3 : t = t'
          · rw [if_pos e3] at h1; cases h1
          · rw [if_neg e3] at h1
            by_cases f3 : t' = t2
            · rw [if_pos f3] at h2; cases h2
            · rw [if_neg f3] at h2
              have g := lLt_tr h1 h2
              by_cases g3 : t = t2
              · rw [g3, lLt_irr] at g; cases g
              · rw [if_neg g3]; exact g
        · rw [if_neg f2] at h2 ⊢; exact h2
      · rw [if_neg e2] at h1
        by_cases f2 : s' = s2
        · subst f2
          rw [if_neg e2]; exact h1
        · rw [if_neg f2] at h2
          have g := lLt_tr h1 h2
          by_cases g2 : s = s2
          · rw [g2, lLt_irr] at g; cases g
          · rw [if_neg g2]; exact g
    · rw [if_neg f1] at h2 ⊢; exact h2
  · rw [if_neg e1] at h1
    have a := of_decide_eq_true h1
    by_cases f1 : m' = m2
    · subst f1
      rw [if_neg e1]; exact h1
    · rw [if_neg f1] at h2
      have b := of_decide_eq_true h2
      rw [if_neg (by omega)]
      exact decide_eq_true (by omega)
theorem keyLt_tri {x y : Key} (h : keyLt x y = false) (ne : x ≠ y) : keyLt y x = true := by
  obtain ⟨m, s, t⟩ := x
  obtain ⟨m', s', t'⟩ := y
  unfold keyLt at *
  simp only at *
  by_cases e1 : m = m'
  · subst e1
    rw [if_pos rfl] at *
    by_cases e2 : s = s'
    · subst e2
      rw [if_pos rfl] at *
      by_cases e3 : t = t'
      · subst e3; exact absurd rfl ne
      · rw [if_neg e3] at h
        rw [if_neg fun z => e3 z.symm]
        exact lLt_tri h e3
    · rw [if_neg e2] at h
      rw [if_neg fun z => e2 z.symm]
      exact lLt_tri h e2
  · rw [if_neg e1] at h
    rw [if_neg fun z => e1 z.symm]
    have := of_decide_eq_false h
    exact decide_eq_true (by omega)
/-- the order of items by their keys -/
theorem ord_key (key : Value → Key) : HeapP.Ord fun x y => keyLt (key x) (key y) where
  asym := fun _ _ h => keyLt_asym h
  tr := fun x y z h1 h2 => by
    show keyLt (key z) (key x) = false
    cases h : keyLt (key z) (key x) with
    | false => rfl
    | true =>
      by_cases e : key y = key x
      · rw [e, h] at h2; cases h2
      · have h1 : keyLt (key y) (key x) = false := h1
        have := keyLt_tr (keyLt_tri h1 e |> fun g => h) (keyLt_tri h1 e)
        rw [h2] at this; cases this
theorem irr_key (key : Value → Key) (x : Value) : (fun x y => keyLt (key x) (key y)) x x = false := keyLt_irr _
/-- a row (minute, text, text) in the model's heap -/
def RowAt (h : Heap) (v : Value) (k : Key) : Prop := ∃ (t : Addr) (m : Int) (x y : Str) (t1 t2 t3 : Tok), v = .ref t ∧ h.IsTuple t #[.int m t1, .str x t2, .str y t3] ∧ k = (m, x.cps.toList, y.cps.toList)
theorem str_eq (x y : Str) : (x == y) = decide (x.cps.toList = y.cps.toList) := by
  by_cases e : x = y
  · rw [e]; simp
  · have : x.cps.toList ≠ y.cps.toList := fun z => e (Str.ext' (Array.toList_inj.mp z))
    rw [decide_eq_false this]
    simpa using e
theorem rc_rows {A : Around} {s : Shared} {v u : Value} {k j : Key} (hu : A.units < cLine) (hv : RowAt s.heap v k) (hw : RowAt s.heap u j) : SeqAt.RcLt A s v u (keyLt k j) := by
  obtain ⟨t, m, x, y, t1, t2, t3, rfl, h1, rfl⟩ := hv
  obtain ⟨t', m', x', y', t1', t2', t3', rfl, h2, rfl⟩ := hw
  have key := SeqAt.RcLt.tuples (A := A) (s := s) (e := fun i => if i = 0 then m == m' else if i = 1 then x == x' else y == y') (r := fun i => if i = 0 then decide (m < m') else if i = 1 then decide (x.cps.toList < x'.cps.toList) else decide (y.cps.toList < y'.cps.toList)) h1 h2 hu
    (fun i i1 i2 => by
      match i, i1 with
      | 0, _ => exact SeqAt.EqAt.int_int m t1 m' t1'
      | 1, _ => exact SeqAt.EqAt.str_str x t2 x' t2'
      | 2, _ => exact SeqAt.EqAt.str_str y t3 y' t3')
    (fun i i1 i2 _ => by
      match i, i1 with
      | 0, _ => exact fun prog w E Q q => PyProof.Rows.lt_int q
      | 1, _ => exact fun prog w E Q q => PyProof.Rows.lt_str q
      | 2, _ => exact fun prog w E Q q => PyProof.Rows.lt_str q)
  have e : SeqAt.firstLt (fun i => if i = 0 then m == m' else if i = 1 then x == x' else y == y') (fun i => if i = 0 then decide (m < m') else if i = 1 then decide (x.cps.toList < x'.cps.toList) else decide (y.cps.toList < y'.cps.toList)) (decide (3 < 3)) (List.range (min 3 3)) = keyLt (m, x.cps.toList, y.cps.toList) (m', x'.cps.toList, y'.cps.toList) := by
    show SeqAt.firstLt _ _ _ [0, 1, 2] = _
    unfold keyLt
    simp only [SeqAt.firstLt, str_eq]
    by_cases e1 : m = m' <;> by_cases e2 : x.cps.toList = x'.cps.toList <;> by_cases e3 : y.cps.toList = y'.cps.toList <;> simp [e1, e2, e3, lLt]
  rw [← e]
  exact key
end HeapM

set_option Elab.async false
set_option linter.all false
set_option maxRecDepth 100000
set_option maxHeartbeats 4000000
namespace HeapM
open PySem L2 PySem.Spec PyProof.Rows
def ad : Value → Addr | .ref a => a | _ => 0
/-- a row (minute, text, text) with its key -/
def RowV (K : PySem.W.Frag) (H : Hp) (t : Addr) (k : Key) : Prop := ∃ (m : Int) (x y : Str), SqT K H t [.int m, .str x, .str y] ∧ k = (m, x.cps.toList, y.cps.toList)
/-- the rows at these addresses stand as a heap -/
def HeapA (key : Addr → Key) (ts : List Addr) : Prop := HeapP.Heap keyLt 0 ts.length (fun i => key (ts.getD i 0))
theorem heapA_least {key : Addr → Key} {t : Addr} {ts : List Addr} (h : HeapA key (t :: ts)) : ∀ b ∈ t :: ts, keyLt (key b) (key t) = false := fun b hb => by
  obtain ⟨i, hi, e⟩ := List.getElem_of_mem hb
  have z := HeapP.first_least (lt := keyLt) ⟨fun _ _ h => keyLt_asym h, fun x y z h1 h2 => (ord_key fun v => if ad v = 0 then x else if ad v = 1 then y else z).tr (.ref 0) (.ref 1) (.ref 2) h1 h2⟩ keyLt_irr h i hi
  have e2 : (t :: ts).getD i 0 = b := by rw [List.getD_eq_getElem?_getD, List.getElem?_eq_getElem hi, e]; rfl
  rw [← e2]
  exact z
theorem refs_vals : ∀ {ts : List Addr} {us : List Value}, Vals (ts.map V.ref) us → us = ts.map Value.ref
  | [], _, .nil => rfl
  | t :: ts, _, .cons r rr => by cases r; rw [refs_vals rr]; rfl
theorem vals_refs : ∀ ts : List Addr, Vals (ts.map V.ref) (ts.map Value.ref)
  | [] => .nil
  | _ :: ts => .cons rfl (vals_refs ts)
theorem perm_refs {vs : List Value} {ts : List Addr} (h : vs.Perm (ts.map Value.ref)) : ∃ ts' : List Addr, vs = ts'.map Value.ref ∧ ts'.Perm ts := by
  refine ⟨vs.map ad, ?_, ?_⟩
  · have all : ∀ v ∈ vs, Value.ref (ad v) = v := fun v hv => by
      obtain ⟨t, _, rfl⟩ := List.mem_map.mp (h.mem_iff.mp hv)
      rfl
    clear h
    induction vs with
    | nil => rfl
    | cons v vs ih =>
      rw [List.map_cons, List.map_cons, ← ih (fun u hu => all u (List.mem_cons_of_mem _ hu)), all v List.mem_cons_self]
  · have := h.map ad
    rwa [List.map_map, show (ad ∘ Value.ref) = id from rfl, List.map_id] at this
def rPush (K : PySem.W.Frag) : List V → Hp → VK → Prop := fun xs H Q => ∃ (p t : Addr) (ts : List Addr) (key : Addr → Key), xs = [.ref p, .ref t] ∧ H p = some (.lst (ts.map V.ref)) ∧ ts.length < 900 ∧ (∀ b ∈ t :: ts, RowV K H b (key b)) ∧ HeapA key ts ∧
  ∀ ts', ts'.Perm (t :: ts) → HeapA key ts' → Q .non (upd H p (.lst (ts'.map V.ref)))
def rPop (K : PySem.W.Frag) : List V → Hp → VK → Prop := fun xs H Q => ∃ (p t : Addr) (ts : List Addr) (key : Addr → Key), xs = [.ref p] ∧ H p = some (.lst ((t :: ts).map V.ref)) ∧ ts.length < 900 ∧ (∀ b ∈ t :: ts, RowV K H b (key b)) ∧ HeapA key (t :: ts) ∧
  ∀ ts', ts'.Perm ts → HeapA key ts' → Q (.ref t) (upd H p (.lst (ts'.map V.ref)))
def rHeapify (K : PySem.W.Frag) : List V → Hp → VK → Prop := fun xs H Q => ∃ (p : Addr) (ts : List Addr) (key : Addr → Key), xs = [.ref p] ∧ H p = some (.lst (ts.map V.ref)) ∧ ts.length < 900 ∧ (∀ b ∈ ts, RowV K H b (key b)) ∧
  ∀ ts', ts'.Perm ts → HeapA key ts' → Q .non (upd H p (.lst (ts'.map V.ref)))
/-- the order of values -/
def ltV (key : Addr → Key) (x y : Value) : Bool := keyLt (key (ad x)) (key (ad y))
theorem row_model {X : Cx} {pins : List (Addr × Obj)} {σ : L2.St} {H : Hp} {s s' : Shared} {p t : Addr} {k : Key} (I : Inv X pins σ H s) (h : RowV X.K H t k) (ne : t ≠ p) (sb : Sb p s s') : RowAt s'.heap (.ref t) k := by
  obtain ⟨m, x, y, st, rfl⟩ := h
  obtain ⟨its, vs, tp, _⟩ := I.tuple st
  cases vs with
  | cons r1 vs => cases vs with
    | cons r2 vs => cases vs with
      | cons r3 vs =>
        cases vs
        obtain ⟨t1, rfl⟩ := r1
        obtain ⟨t2, rfl⟩ := r2
        obtain ⟨t3, rfl⟩ := r3
        obtain ⟨o, ho, hc, n, hd⟩ := tp
        exact ⟨t, m, x, y, t1, t2, t3, rfl, ⟨o, sb.heap.extBut _ _ ne ho, hc, n, hd⟩, rfl⟩
theorem heap_fn {key : Addr → Key} {ts : List Addr} : HeapP.Heap (ltV key) 0 (ts.map Value.ref).toArray.size (fn (ts.map Value.ref).toArray) ↔ HeapA key ts := by
  have sz : (ts.map Value.ref).toArray.size = ts.length := by simp
  have at_ : ∀ i, i < ts.length → ad (fn (ts.map Value.ref).toArray i) = ts.getD i 0 := fun i hi => by
    unfold fn
    rw [List.getD_eq_getElem?_getD, List.getD_eq_getElem?_getD]
    simp [hi, ad]
  unfold HeapA HeapP.Heap
  rw [sz]
  refine ⟨fun h i h0 hn ht => ?_, fun h i h0 hn ht => ?_⟩
  · have := HeapP.par_lt h0
    have z := h i h0 hn ht
    unfold ltV at z
    rw [at_ i hn, at_ _ (by omega)] at z
    exact z
  · have := HeapP.par_lt h0
    unfold ltV
    rw [at_ i hn, at_ _ (by omega)]
    exact h i h0 hn ht
theorem args_push (a b : Value) : checkBuiltinCall "_heapq.heappush" ⟨[a, b], []⟩ = pure () := by kernel_rfl
theorem args_pop (a : Value) : checkBuiltinCall "_heapq.heappop" ⟨[a], []⟩ = pure () := by kernel_rfl
theorem args_heapify (a : Value) : checkBuiltinCall "_heapq.heapify" ⟨[a], []⟩ = pure () := by kernel_rfl
section
variable {X : Cx}
theorem row_ne {pins : List (Addr × Obj)} {σ : L2.St} {H : Hp} {s : Shared} {p t : Addr} {k : Key} {d : Data} (I : Inv X pins σ H s) (h : RowV X.K H t k) (g : s.heap.get? p = some { cls := .type "list", data := d }) : t ≠ p := fun e => by
  obtain ⟨m, x, y, st, rfl⟩ := h
  obtain ⟨its, vs, ⟨o, ho, hc, _⟩, _⟩ := I.tuple st
  rw [e, g] at ho
  rw [← Option.some.inj ho] at hc
  exact absurd hc (by simp)
theorem rc_of {pins : List (Addr × Obj)} {σ : L2.St} {H : Hp} {s : Shared} {p : Addr} {ts : List Addr} {key : Addr → Key} {d : Data} (hu : X.A.units + 65 < cLine) (I : Inv X pins σ H s) (rows : ∀ b ∈ ts, RowV X.K H b (key b)) (g : s.heap.get? p = some { cls := .type "list", data := d }) (args : Args) (s' : Shared) (sb : Sb p s s') (x y : Value) (hx : x ∈ ts.map Value.ref) (hy : y ∈ ts.map Value.ref) :
    SeqAt.RcLt (X.A.under (.builtin "_heapq.heapify.sift" args)) s' x y (ltV key x y) := by
  obtain ⟨b, hb, rfl⟩ := List.mem_map.mp hx
  obtain ⟨c, hc, rfl⟩ := List.mem_map.mp hy
  rw [Around.under_plainId sift_plain]
  exact rc_rows (by show X.A.units + 1 < cLine; omega) (row_model I (rows b hb) (row_ne I (rows b hb) g) sb) (row_model I (rows c hc) (row_ne I (rows c hc) g) sb)
theorem done_list {pins : List (Addr × Obj)} {σ : L2.St} {H : Hp} {s s' : Shared} {p : Addr} {ts ts' : List Addr} {ys : Array Value} (I : Inv X pins σ H s) (hp : H p = some (.lst (ts.map V.ref))) (l : LS s'.heap p ys) (e : ys.toList = ts'.map Value.ref) (ln : ts'.length ≤ 1000) (sb : Sb p s s') : Inv X pins σ (upd H p (.lst (ts'.map V.ref))) s' := by
  obtain ⟨h', rfl, sh⟩ := sb
  obtain ⟨n, g⟩ := l
  refine I.write (x := p) (e := p) (t' := s.toks) (by rw [hp]; trivial) (.inl rfl) (fun b u hb hu => sh.extBut _ _ hb hu) ⟨_, g⟩ ⟨by rw [List.length_map, sizeLine_eq]; omega, ts'.map Value.ref, n, vals_refs _, ?_⟩
  rw [← e]
  exact g
theorem call_push (hu : X.A.units + 65 < cLine) : CallR X (.builtin "_heapq.heappush") (rPush X.K) := by
  intro pins s σ H xs us Q I r h
  obtain ⟨p, t, ts, key, rfl, hp, ln, rows, hh, q⟩ := h
  cases r with
  | cons rp r => cases r with
    | cons rt r =>
      cases r
      cases rp
      cases rt
      obtain ⟨hz, its, n, vs, g⟩ := I.hok p _ hp
      obtain rfl := refs_vals vs
      have ep : ((ts.map Value.ref).toArray.push (.ref t)).toList = (ts ++ [t]).map Value.ref := by simp
      have pt : (ts ++ [t]).Perm (t :: ts) := List.perm_append_singleton t ts
      refine wpAny_call (codeAny_call_builtin_code (plainId_quiet (by decide +kernel) _) (wpAny_of_eq (args_push _ _) ?_))
      refine push_any (lt := ltV key) (ord_key fun v => key (ad v)) (by simp; omega) ⟨n, g⟩ (heap_fn.mpr hh) (fun args s' sb x y hx hy => ?_) (fun ys s' l pm hq sb => ?_)
      · rw [ep] at hx hy
        exact rc_of hu I (fun b hb => rows b (pt.mem_iff.mp hb)) g args s' sb x y hx hy
      · rw [ep] at pm
        obtain ⟨ts', e, pm'⟩ := perm_refs pm
        have l2 := (pm'.trans pt).length_eq
        rw [List.length_cons] at l2
        refine ⟨.non, _, done_list I hp l e (by omega) sb, rfl, q ts' (pm'.trans pt) (heap_fn.mp ?_)⟩
        rw [← e]
        exact hq
theorem call_heapify (hu : X.A.units + 65 < cLine) : CallR X (.builtin "_heapq.heapify") (rHeapify X.K) := by
  intro pins s σ H xs us Q I r h
  obtain ⟨p, ts, key, rfl, hp, ln, rows, q⟩ := h
  cases r with
  | cons rp r =>
    cases r
    cases rp
    obtain ⟨hz, its, n, vs, g⟩ := I.hok p _ hp
    obtain rfl := refs_vals vs
    refine wpAny_call (codeAny_call_builtin_code (plainId_quiet (by decide +kernel) _) (wpAny_of_eq (args_heapify _) ?_))
    refine heapify_any (lt := ltV key) (ord_key fun v => key (ad v)) (fun x => keyLt_irr _) (by simp; omega) ⟨n, g⟩ (fun args s' sb x y hx hy => rc_of hu I rows g args s' sb x y hx hy) (fun ys s' l pm hq sb => ?_)
    obtain ⟨ts', e, pm'⟩ := perm_refs pm
    have l2 := pm'.length_eq
    refine ⟨.non, _, done_list I hp l e (by omega) sb, rfl, q ts' pm' (heap_fn.mp ?_)⟩
    rw [← e]
    exact hq
theorem call_pop (hu : X.A.units + 65 < cLine) : CallR X (.builtin "_heapq.heappop") (rPop X.K) := by
  intro pins s σ H xs us Q I r h
  obtain ⟨p, t, ts, key, rfl, hp, ln, rows, hh, q⟩ := h
  cases r with
  | cons rp r =>
    cases r
    cases rp
    obtain ⟨hz, its, n, vs, g⟩ := I.hok p _ hp
    obtain rfl := refs_vals vs
    refine wpAny_call (codeAny_call_builtin_code (plainId_quiet (by decide +kernel) _) (wpAny_of_eq (args_pop _) ?_))
    have f0 : fn ((t :: ts).map Value.ref).toArray 0 = .ref t := rfl
    refine pop_any (lt := ltV key) (ord_key fun v => key (ad v)) (fun x => keyLt_irr _) (by simp; omega) (by simp) ⟨n, g⟩ (heap_fn.mpr hh) (fun args s' sb x y hx hy => rc_of hu I rows g args s' sb x y hx hy) (fun ys s' l pm hq sb => ?_)
    rw [f0] at pm ⊢
    have pm2 : ys.toList.Perm (ts.map Value.ref) := List.Perm.cons_inv (a := .ref t) pm
    obtain ⟨ts', e, pm'⟩ := perm_refs pm2
    have l2 := pm'.length_eq
    refine ⟨.ref t, _, done_list I hp l e (by omega) sb, rfl, q ts' pm' (heap_fn.mp ?_)⟩
    rw [← e]
    exact hq
end
end HeapM

set_option Elab.async false
set_option linter.all false
set_option maxRecDepth 100000
set_option maxHeartbeats 4000000
namespace TX
open PySem PySem.Spec PyProof.Rows L2 EvS Evl
mutual
theorem dp_ex {K : PySem.W.Frag} {H H' : Hp} (e : Ex H H') : ∀ {v : V} {d : PyData}, Dp K H v d → Dp K H' v d
  | _, _, .non => .non
  | _, _, .bl b => .bl b
  | _, _, .int i => .int i
  | _, _, .str x => .str x
  | _, _, .lst h r => .lst (ex_l e h) (dps_ex e r)
  | _, _, .tup h r => .tup (ex_t e h) (dps_ex e r)
theorem dps_ex {K : PySem.W.Frag} {H H' : Hp} (e : Ex H H') : ∀ {vs : List V} {ds : List PyData}, DpAll K H vs ds → DpAll K H' vs ds
  | _, _, .nil => .nil
  | _, _, .cons h r => .cons (dp_ex e h) (dps_ex e r)
end
theorem dps_len {K : PySem.W.Frag} {H : Hp} : ∀ {vs : List V} {ds : List PyData}, DpAll K H vs ds → vs.length = ds.length
  | _, _, .nil => rfl
  | _, _, .cons _ r => congrArg Nat.succ (dps_len r)
theorem dps_at {K : PySem.W.Frag} {H : Hp} : ∀ {vs : List V} {ds : List PyData} {i : Nat} {v : V}, DpAll K H vs ds → vs[i]? = some v → ∃ d, ds[i]? = some d ∧ Dp K H v d
  | _, _, _, _, .nil, h => by simp at h
  | _, _, 0, _, .cons h _, e => by
    simp only [List.getElem?_cons_zero, Option.some.injEq] at e
    subst e
    exact ⟨_, rfl, h⟩
  | _, _, i + 1, _, .cons _ r, e => by
    simp only [List.getElem?_cons_succ] at e
    exact dps_at (i := i) r e
theorem dps_app {K : PySem.W.Frag} {H : Hp} : ∀ {vs us : List V} {ds es : List PyData}, DpAll K H vs ds → DpAll K H us es → DpAll K H (vs ++ us) (ds ++ es)
  | _, _, _, _, .nil, b => b
  | _, _, _, _, .cons h r, b => .cons h (dps_app r b)
theorem dps_one {K : PySem.W.Frag} {H : Hp} {v : V} {d : PyData} (h : Dp K H v d) : DpAll K H [v] [d] := .cons h .nil
theorem dps_str {K : PySem.W.Frag} {H : Hp} : ∀ ns : List Str, DpAll K H (ns.map V.str) (ns.map PyData.str)
  | [] => .nil
  | n :: r => .cons (.str n) (dps_str r)
theorem dps_strs {K : PySem.W.Frag} {H : Hp} : ∀ {ns : List Str} {vs : List V}, DpAll K H vs (ns.map PyData.str) → vs = ns.map V.str
  | [], _, .nil => rfl
  | n :: r, _, .cons h t => by
    cases h
    rw [dps_strs t]
    rfl
def Seq2 (K : PySem.W.Frag) (H : Hp) (p : Addr) (xs : List V) : Prop := SqL K H p xs ∨ SqT K H p xs
theorem Seq2.ex {K : PySem.W.Frag} {H H' : Hp} {p : Addr} {xs : List V} (e : Ex H H') (h : Seq2 K H p xs) : Seq2 K H' p xs := h.elim (fun q => .inl (ex_l e q)) (fun q => .inr (ex_t e q))
mutual
def frozen : PyData → Bool
  | .none => true
  | .bool _ => true
  | .int _ => true
  | .str _ => true
  | .tuple ds => frozenAll ds
  | .list _ => false
  | .dict _ => false
def frozenAll : List PyData → Bool
  | [] => true
  | d :: ds => frozen d && frozenAll ds
end
theorem frozenAll_of : ∀ {ds : List PyData}, (∀ d ∈ ds, frozen d = true) → frozenAll ds = true
  | [], _ => by simp [frozenAll]
  | d :: ds, h => by
    rw [frozenAll, h d List.mem_cons_self, frozenAll_of fun x hx => h x (List.mem_cons_of_mem _ hx)]
    rfl
theorem frozen_strs (ls : List Str) : frozenAll (ls.map PyData.str) = true := frozenAll_of fun d hd => by
  obtain ⟨b, _, rfl⟩ := List.mem_map.mp hd
  simp [frozen]
def ExT (H H' : Hp) : Prop := ∀ a xs, Rd H a (.tup xs) → Rd H' a (.tup xs)
theorem exT_of {H H' : Hp} (e : Ex H H') : ExT H H' := fun _ _ h => ex_rd e h
theorem ExT.trans {H H1 H2 : Hp} (a : ExT H H1) (b : ExT H1 H2) : ExT H H2 := fun x y h => b x y (a x y h)
theorem exT_mut {H : Hp} {l : Addr} {xs ys : List V} (h : H l = some (.lst xs)) : ExT H (upd H l (.lst ys)) := fun a zs r => by
  rcases r with r | ⟨o, r⟩
  · exact .inl (by rw [upd_ne (ne_of r h (by intro z; cases z))]; exact r)
  · exact .inr ⟨o, by rw [upd_ne (ne_of r h (by intro z; cases z))]; exact r⟩
theorem exT_t {K : PySem.W.Frag} {H H' : Hp} {p : Addr} {xs : List V} (e : ExT H H') (h : SqT K H p xs) : SqT K H' p xs := h.elim (fun r => .inl (e _ _ r)) .inr
mutual
theorem dp_exT {K : PySem.W.Frag} {H H' : Hp} (e : ExT H H') : ∀ {v : V} {d : PyData}, Dp K H v d → frozen d = true → Dp K H' v d
  | _, _, .non, _ => .non
  | _, _, .bl b, _ => .bl b
  | _, _, .int i, _ => .int i
  | _, _, .str x, _ => .str x
  | _, _, .lst _ _, f => by simp [frozen] at f
  | _, _, .tup h r, f => .tup (exT_t e h) (dps_exT e r (by simpa [frozen] using f))
theorem dps_exT {K : PySem.W.Frag} {H H' : Hp} (e : ExT H H') : ∀ {vs : List V} {ds : List PyData}, DpAll K H vs ds → frozenAll ds = true → DpAll K H' vs ds
  | _, _, .nil, _ => .nil
  | _, _, .cons h r, f => by
    simp only [frozenAll, Bool.and_eq_true] at f
    exact .cons (dp_exT e h f.1) (dps_exT e r f.2)
end
inductive All2 {α β : Type} (R : α → β → Prop) : List α → List β → Prop
  | nil : All2 R [] []
  | cons {a : α} {b : β} {as : List α} {bs : List β} : R a b → All2 R as bs → All2 R (a :: as) (b :: bs)
theorem All2.len {α β : Type} {R : α → β → Prop} : ∀ {as : List α} {bs : List β}, All2 R as bs → as.length = bs.length
  | _, _, .nil => rfl
  | _, _, .cons _ r => congrArg Nat.succ r.len
def del (H : Hp) (D : Addr) : Hp := fun a => if a = D then none else H a
theorem del_upd {H : Hp} {D : Addr} {o : HO} : del (upd H D o) D = del H D := by
  funext a
  unfold del
  by_cases h : a = D
  · rw [if_pos h, if_pos h]
  · rw [if_neg h, if_neg h, upd_ne h]
theorem del_ex {H : Hp} {D : Addr} : Ex (del H D) H := fun a o h => by
  unfold del at h
  split at h
  · cases h
  · exact h
theorem ex_del {H H' : Hp} {D : Addr} (e : Ex H H') : Ex (del H D) (del H' D) := fun a o h => by
  unfold del at h ⊢
  split at h
  · cases h
  · rename_i n
    rw [if_neg n]
    exact e _ _ h
theorem ex_to_del {H H' : Hp} {D : Addr} (e : Ex H H') (h : H D = none) : Ex H (del H' D) := fun a o q => by
  unfold del
  rw [if_neg (ne_of_none q h)]
  exact e _ _ q
theorem del_at {H : Hp} {D a : Addr} {o : HO} (n : a ≠ D) (h : H a = some o) : del H D a = some o := by
  unfold del
  rw [if_neg n]
  exact h
theorem dps_drop {K : PySem.W.Frag} {H : Hp} : ∀ {vs : List V} {ds : List PyData} (n : Nat), DpAll K H vs ds → DpAll K H (vs.drop n) (ds.drop n)
  | _, _, 0, h => h
  | _, _, _ + 1, .nil => .nil
  | _, _, n + 1, .cons _ r => dps_drop n r
theorem dps_take {K : PySem.W.Frag} {H : Hp} : ∀ {vs : List V} {ds : List PyData} (n : Nat), DpAll K H vs ds → DpAll K H (vs.take n) (ds.take n)
  | _, _, 0, _ => .nil
  | _, _, _ + 1, .nil => .nil
  | _, _, n + 1, .cons h r => .cons h (dps_take n r)
theorem cut_from (xs : List V) (n : Nat) : cutV xs (some (n : Int)) none = xs.drop n := by
  unfold cutV
  rw [HT.sIx_nat, HT.sIx_none]
  rcases Nat.le_total n xs.length with h | h
  · rw [Nat.min_eq_left h, List.take_of_length_le (by rw [List.length_drop]; exact Nat.le_refl _)]
  · rw [Nat.min_eq_right h, List.drop_length, List.drop_eq_nil_of_le h, List.take_nil]
theorem cut_to (xs : List V) (n : Nat) : cutV xs none (some (n : Int)) = xs.take n := by
  unfold cutV
  rw [HT.sIx_nat, HT.sIx_none, List.drop_zero, Nat.sub_zero]
  rcases Nat.le_total n xs.length with h | h
  · rw [Nat.min_eq_left h]
  · rw [Nat.min_eq_right h, List.take_length, List.take_of_length_le h]
theorem lay_of : ∀ {ds : List PyData}, (∀ d ∈ ds, PyData.canLay0 d = true) → PyData.canLayAll0 ds = true
  | [], _ => by simp [PyData.canLayAll0]
  | d :: ds, h => by
    rw [PyData.canLayAll0, h d List.mem_cons_self, lay_of fun x hx => h x (List.mem_cons_of_mem _ hx)]
    rfl
theorem deep_of {n : Nat} : ∀ {ds : List PyData}, (∀ d ∈ ds, PyData.depth d ≤ n) → PyData.depthAll ds ≤ n
  | [], _ => by simp [PyData.depthAll]
  | d :: ds, h => by
    have h1 := h d List.mem_cons_self
    have h2 := deep_of (n := n) (ds := ds) fun x hx => h x (List.mem_cons_of_mem _ hx)
    simp only [PyData.depthAll]
    omega
def Sh (n : Nat) (d : PyData) : Prop := PyData.canLay0 d = true ∧ PyData.depth d ≤ n
theorem sh_tup {n : Nat} {ds : List PyData} (h : ∀ d ∈ ds, Sh n d) : Sh (n + 1) (.tuple ds) := by
  have := deep_of (n := n) fun d hd => (h d hd).2
  exact ⟨by simp only [PyData.canLay0]; exact lay_of fun d hd => (h d hd).1, by simp only [PyData.depth]; omega⟩
theorem sh_lst {n : Nat} {ds : List PyData} (h : ∀ d ∈ ds, Sh n d) : Sh (n + 1) (.list ds) := by
  have := deep_of (n := n) fun d hd => (h d hd).2
  exact ⟨by simp only [PyData.canLay0]; exact lay_of fun d hd => (h d hd).1, by simp only [PyData.depth]; omega⟩
theorem sh_int (i : Int) (n : Nat) : Sh (n + 1) (.int i) := ⟨by simp only [PyData.canLay0], by simp only [PyData.depth]; omega⟩
theorem sh_up {n m : Nat} {d : PyData} (h : n ≤ m) (q : Sh n d) : Sh m d := ⟨q.1, Nat.le_trans q.2 h⟩
theorem sh_shaped {n : Nat} {d : PyData} (h : Sh n d) (hn : n ≤ 64) : SeqAt.shaped d = true := by
  show (PyData.canLay0 d && decide (PyData.depth d ≤ 64)) = true
  rw [Bool.and_eq_true]
  exact ⟨h.1, decide_eq_true (Nat.le_trans h.2 hn)⟩
theorem mem4 {α : Type} {x a b c d : α} (h : x ∈ [a, b, c, d]) : x = a ∨ x = b ∨ x = c ∨ x = d := by simpa using h
theorem eqv_self {d : PyData} (h : SeqAt.shaped d = true) : PyData.eqv d d = true := SeqAt.eqv_refl _ (SeqAt.canLay_of_shaped h)
theorem dps_set {K : PySem.W.Frag} {H : Hp} : ∀ {vs : List V} {ds : List PyData} {v : V} {d : PyData} (i : Nat), DpAll K H vs ds → Dp K H v d → DpAll K H (vs.set i v) (ds.set i d)
  | _, _, _, _, _, .nil, _ => .nil
  | _, _, _, _, 0, .cons _ r, h => .cons h r
  | _, _, _, _, i + 1, .cons a r, h => .cons a (dps_set i r h)
theorem sh_st {z : Str} {n : Nat} (h : PyData.strOk z = true) : Sh (n + 1) (.str z) := ⟨by simp only [PyData.canLay0]; exact h, by simp only [PyData.depth]; omega⟩
theorem sh_none {n : Nat} : Sh (n + 1) .none := ⟨by simp only [PyData.canLay0], by simp only [PyData.depth]; omega⟩
theorem iteNF {A B : Prop} (h : A) : if (!false) = true then A else B := by
  rw [Bool.not_false, if_pos rfl]
  exact h
theorem take_one {α : Type} {l : List α} {i : Nat} {x : α} (h : l[i]? = some x) : l.take (i + 1) = l.take i ++ [x] := by
  rw [List.take_add_one, h]
  rfl
theorem iteNT {A B : Prop} (h : B) : if (!true) = true then A else B := by
  rw [if_neg (by decide)]
  exact h
theorem exT_del {H : Hp} {A : Addr} {xs : List V} (h : H A = some (.lst xs)) : ExT H (del H A) := fun x zs r => by
  have nx : x ≠ A := fun q => by
    rcases r with r | ⟨o, r⟩
    · rw [q, h] at r; cases r
    · rw [q, h] at r; cases r
  rcases r with r | ⟨o, r⟩
  · exact .inl (del_at nx r)
  · exact .inr ⟨o, del_at nx r⟩
theorem at_in {α : Type} {xs : List α} {i : Int} (h0 : 0 ≤ i) (h : i < xs.length) : ∃ v, atI xs i = some v ∧ xs[i.toNat]? = some v ∧ v ∈ xs := by
  have hl : i.toNat < xs.length := by omega
  have e : xs[i.toNat]? = some xs[i.toNat] := List.getElem?_eq_getElem hl
  have z : atI xs ((i.toNat : Nat) : Int) = some xs[i.toNat] := atI_nat e
  rw [show ((i.toNat : Nat) : Int) = i by omega] at z
  exact ⟨xs[i.toNat], z, e, List.getElem_mem hl⟩
/-- the numbers that a law draws -/
structure Nm (K : PySem.W.Frag) (H : Hp) (p : Addr) (ks : List Int) : Prop where
  at_ : SqL K H p (ks.map V.int)
  sm : ∀ n ∈ ks, 0 ≤ n ∧ n < 1009
theorem Nm.ex {K : PySem.W.Frag} {H H' : Hp} {p : Addr} {ks : List Int} (e : Ex H H') (h : Nm K H p ks) : Nm K H' p ks := ⟨ex_l e h.at_, h.sm⟩
theorem Nm.get {K : PySem.W.Frag} {H : Hp} {p : Addr} {ks : List Int} (h : Nm K H p ks) {i : Int} (h0 : 0 ≤ i) (h1 : i < ks.length) : ∃ n, 0 ≤ n ∧ n < 1009 ∧ atI (ks.map V.int) i = some (.int n) := by
  obtain ⟨v, hv, _, hm⟩ := at_in (xs := ks.map V.int) h0 (by rw [List.length_map]; exact h1)
  obtain ⟨n, hn, rfl⟩ := List.mem_map.mp hm
  exact ⟨n, (h.sm n hn).1, (h.sm n hn).2, hv⟩
/-- an f-string as one reading -/
def tJd (ts : List TE) : TE := fun σ H Q => tJs ts Str.empty σ H fun out H1 => Q (.str out) H1
theorem pe_jd {X : Cx} {v1 v2 : Expr} {rest : List Expr} {pos : Pos} {ts : List TE} (h : PJ X (v1 :: v2 :: rest) ts) : PE X (.JoinedStr (v1 :: v2 :: rest) pos) (tJd ts) := pe_joined h
end TX

set_option Elab.async false
set_option linter.all false
set_option maxRecDepth 100000
set_option maxHeartbeats 4000000
/-! A new dict's values walked; dict comprehensions over walks; tables of minutes by place. -/
namespace FD
open PySem PySem.Spec PyProof.Rows L2 Evl
section
variable {X : Cx} {tg e : Expr} {td : TE} {apos cpos : Pos}
/-- for x in e.values(), e's value a dict that is not changed any more -/
def iValsN (td : TE) : TI := fun σ H R => td σ H fun x H1 => ∃ d kvs, x = .ref d ∧ H1 d = some (.dK kvs) ∧ ∀ od, R (Itd d od kvs) (upd H1 d (.frz od (.dK kvs)))
theorem pi_valuesN (he : PE X e td) (hbase : attributeBase e "values" X.env (eval e X.env) = eval e X.env := by rfl) (hline : (apos.endLine == cpos.line) = true := by rfl) : PI X tg (.Call (.Attribute e "values" apos) [] [] cpos) (iValsN td) := by
  refine ⟨fun pins s σ H R I h => ?_⟩
  refine wpAny_Call_method (T := "dict") (id := "dict.values") hbase rfl hline F.plainAttrs_dict F.slot_dict_values F.type_dict_values (thn (he.run pins s σ H _ I h) fun u s1 ⟨x, H1, I0, rx, d, kvs, ex, hd0, q0⟩ => ?_)
  subst ex
  obtain rfl : u = Value.ref d := rx
  obtain ⟨o, I1⟩ := I0.lock hd0 trivial
  have q := q0 o
  have hd : (upd H1 d (.frz o (.dK kvs))) d = some (.frz o (.dK kvs)) := upd_same
  generalize upd H1 d (.frz o (.dK kvs)) = H2 at I1 q hd
  obtain ⟨hs, hgd, hx, es, ep, vs, hdt, hsz, kv, hm⟩ := I1.frzK hd
  have hl : kvs.length = vs.length := Paired.length kv
  refine ⟨hm.dictOf.typeIs, hm.dictOf.mapOf.noDict, ?_⟩
  have I2 : Inv X pins σ H2 { s1 with heap := s1.heap.push { cls := .type "dict_values", data := .fields #[.ref d] } } := I1.kept (t' := s1.toks) fun b ob q => Heap.get?_push_of_some _ q
  have fin : wpAny (model X.prog X.w) X.A (pyIter (.ref s1.heap.objs.size)) (PIE X pins σ tg R) X.xe { s1 with heap := s1.heap.push { cls := .type "dict_values", data := .fields #[.ref d] } } := by
    refine wpAny_pyIter_values (d := d) (knd := mixKind X.prog X.w) ⟨_, Heap.get?_push_size _ rfl, rfl, rfl⟩ (hm.push _) (pi_one (tk := s1.toks) I2 _ (turn_vals _ hdt) ⟨_, Heap.get?_push_size _ rfl, rfl, ?_⟩ q)
    rw [hl] <;> rfl
  show wpAny _ _ (callWith cpos (.builtin "dict.values") [.ref d] [] []) _ X.xe s1
  exact method_meetsIn F.slot_dict_values F.entry_dict_values rfl (PySem.evalArgs_none ⟨rfl, hm.dictOf.typeIs, F.args_dict_values_1 _, _, meets_dict_values (mixKind X.prog X.w) d hs, ⟨vs, hm.dictOf⟩, fin⟩)
end
/-- a dict comprehension without a test over a walk -/
theorem dcY_it {J : It} {n : Nat} {G : Hp → Prop} {Y : Nat → Hp → V → Hp → Prop} (w : Walk J n G Y) {g : TG} {tk tv : TE} {vs : List Nat} {σ : L2.St} {H1 : Hp} {D : Addr} {Qd : Hp → Prop} (Pv : Nat → Hp → Prop) (h0 : Pv 0 (upd H1 D (.dK []))) (hG : ∀ i H, i ≤ n → Pv i H → G H)
    (hs : ∀ i x H H', i < n → Pv i H → Y i H x H' → g x (wipe σ vs) H' fun σ2 H2 => wipe σ2 vs = wipe σ vs ∧ tk σ2 H2 fun y H4 => tv σ2 H4 fun z H5 => ∃ kvs k, y = kV k ∧ H5 D = some (.dK kvs) ∧ kvs.length < sizeLine ∧ Pv (i + 1) (upd H5 D (.dK (putK kvs k z)))) (hd : ∀ H, Pv n H → Qd H) :
    ∃ W : Nat → Nat → Hp → Prop, (∃ m, W 0 m (upd H1 D (.dK []))) ∧ ∀ i m H, W i m H → (J.stop i H ∧ Qd H) ∨
      (J.go i H ∧ ∃ Nx : Hp → Prop, (∀ H', Nx H' → ∃ m', m' < m ∧ W (i + 1) m' H') ∧ ∀ x H', J.yld i H x H' → g x (wipe σ vs) H' fun σ2 H2 => wipe σ2 vs = wipe σ vs ∧ tYes σ2 H2 fun b H3 =>
        if b = true then tk σ2 H3 fun y H4 => tv σ2 H4 fun z H5 => ∃ kvs k, y = kV k ∧ H5 D = some (.dK kvs) ∧ kvs.length < sizeLine ∧ Nx (upd H5 D (.dK (putK kvs k z))) else Nx H3) := by
  refine ⟨fun i m H => m = n - i ∧ i ≤ n ∧ Pv i H, ⟨n, by simp, Nat.zero_le _, h0⟩, ?_⟩
  rintro i m H ⟨rfl, hi, p⟩
  have q := hG i H hi p
  by_cases hlt : i < n
  · refine .inr ⟨w.goes i H hlt q, Pv (i + 1), fun H' p' => ⟨n - (i + 1), by omega, rfl, hlt, p'⟩, fun x H' y => ?_⟩
    exact hs i x H H' hlt p (w.yields i H x H' hlt q y)
  · have e : i = n := by omega
    subst e
    exact .inl ⟨w.stops H q, hd H p⟩
/-! ### a table of minutes -/
/-- at d stands a dict that tells f for places -/
def Tab (H : Hp) (d : Addr) (f : Str → Option Int) : Prop := ∃ kvs : List (Key × V), H d = some (.dK kvs) ∧ kvs.length ≤ 100000 ∧ ∀ p : Str, valV kvs (.inr p) = (f p).map V.int
theorem Tab.ex {H H' : Hp} {d : Addr} {f : Str → Option Int} (e : Ex H H') (h : Tab H d f) : Tab H' d f := by
  obtain ⟨kvs, h1, h2, h3⟩ := h
  exact ⟨kvs, e _ _ h1, h2, h3⟩
def upd1 (f : Str → Option Int) (p : Str) (t : Int) : Str → Option Int := fun q => if q = p then some t else f q
def TabK (kvs : List (Key × V)) (f : Str → Option Int) : Prop := ∀ p : Str, valV kvs (.inr p) = (f p).map V.int
theorem TabK.nil : TabK [] fun _ => none := fun _ => rfl
theorem TabK.put {kvs : List (Key × V)} {f : Str → Option Int} (h : TabK kvs f) (p : Str) (t : Int) : TabK (putK kvs (.inr p) (.int t)) (upd1 f p t) := fun q => by
  rw [valV_put]
  unfold upd1
  by_cases c : q = p
  · rw [if_pos (congrArg Sum.inr c), if_pos c]
    rfl
  · rw [if_neg fun z => c (Sum.inr.inj z), if_neg c]
    exact h q
theorem TabK.same {kvs : List (Key × V)} {f g : Str → Option Int} (h : TabK kvs f) (e : ∀ p, f p = g p) : TabK kvs g := fun p => by rw [h p, e p]
end FD

set_option Elab.async false
set_option linter.all false
set_option maxRecDepth 100000
set_option maxHeartbeats 4000000
/-! Fires, without Python: through a link, what is reached, the first minutes (points 16 to 18). -/
namespace FP
open PySem
/-- a link as one fire passes it: the number for each wind -/
structure Lk where
  o : Str
  t : Str
  row : List (Option Int)
abbrev Wt := List (Int × Nat)
def windAt (ws : Wt) (m : Int) : Nat := ws.foldl (fun z r => if r.1 ≤ m then r.2 else z) (ws.headD (0, 0)).2
def num (row : List (Option Int)) (w : Nat) : Option Int := row.getD w none
def outs (ws : Wt) (m : Int) : List Int := m :: (ws.map (·.1)).filter fun s => decide (m < s)
def cand (ws : Wt) (row : List (Option Int)) (s : Int) : Option Int := (num row (windAt ws s)).map (s + ·)
def least : Option Int → Option Int → Option Int
  | c, none => c
  | none, some x => some x
  | some c, some x => if x < c then some x else some c
def leastL (l : List (Option Int)) : Option Int := l.foldl least none
def thr (ws : Wt) (row : List (Option Int)) (m : Int) : Option Int := leastL ((outs ws m).map (cand ws row))
theorem fold_mem : ∀ {l : List (Option Int)} {c : Option Int} {t : Int}, l.foldl least c = some t → c = some t ∨ some t ∈ l
  | [], _, _, h => .inl h
  | x :: l, c, t, h => by
    rcases fold_mem (l := l) h with q | q
    · cases x with
      | none =>
        refine .inl ?_
        cases c <;> exact q
      | some x =>
        cases c with
        | none => exact .inr (by rw [show some t = some x from q.symm]; exact List.mem_cons_self)
        | some c =>
          have q : (if x < c then some x else some c) = some t := q
          split at q
          · exact .inr (by rw [q]; exact List.mem_cons_self)
          · exact .inl q
    · exact .inr (List.mem_cons_of_mem _ q)
theorem fold_le : ∀ {l : List (Option Int)} {c : Option Int} {x : Int}, (c = some x ∨ some x ∈ l) → ∃ t, l.foldl least c = some t ∧ t ≤ x
  | [], c, x, h => by
    rcases h with h | h
    · exact ⟨x, h, Int.le_refl _⟩
    · cases h
  | y :: l, c, x, h => by
    have step : ∃ z, least c y = some z ∧ z ≤ x ∨ some x ∈ l := by
      rcases h with h | h
      · subst h
        cases y with
        | none => exact ⟨x, .inl ⟨rfl, Int.le_refl _⟩⟩
        | some y =>
          by_cases q : y < x
          · exact ⟨y, .inl ⟨by show (if y < x then _ else _) = _; rw [if_pos q], by omega⟩⟩
          · exact ⟨x, .inl ⟨by show (if y < x then _ else _) = _; rw [if_neg q], Int.le_refl _⟩⟩
      · rcases List.mem_cons.mp h with h | h
        · subst h
          cases c with
          | none => exact ⟨x, .inl ⟨rfl, Int.le_refl _⟩⟩
          | some c =>
            by_cases q : x < c
            · exact ⟨x, .inl ⟨by show (if x < c then _ else _) = _; rw [if_pos q], Int.le_refl _⟩⟩
            · exact ⟨c, .inl ⟨by show (if x < c then _ else _) = _; rw [if_neg q], by omega⟩⟩
        · exact ⟨x, .inr h⟩
    obtain ⟨z, ⟨h1, h2⟩ | h⟩ := step
    · obtain ⟨t, e, le⟩ := fold_le (l := l) (c := least c y) (x := z) (.inl h1)
      exact ⟨t, e, Int.le_trans le h2⟩
    · exact fold_le (l := l) (c := least c y) (.inr h)
theorem thr_mem {ws : Wt} {row : List (Option Int)} {m t : Int} (h : thr ws row m = some t) : ∃ s ∈ outs ws m, cand ws row s = some t := by
  rcases fold_mem h with q | q
  · cases q
  · obtain ⟨s, hs, e⟩ := List.mem_map.mp q
    exact ⟨s, hs, e⟩
theorem thr_le {ws : Wt} {row : List (Option Int)} {m s x : Int} (hs : s ∈ outs ws m) (h : cand ws row s = some x) : ∃ t, thr ws row m = some t ∧ t ≤ x :=
  fold_le (.inr (List.mem_map.mpr ⟨s, hs, h⟩))
theorem outs_le {ws : Wt} {m s : Int} (h : s ∈ outs ws m) : m ≤ s := by
  rcases List.mem_cons.mp h with h | h
  · omega
  · have := of_decide_eq_true (List.mem_filter.mp h).2
    omega
def RowOk (row : List (Option Int)) : Prop := ∀ x, some x ∈ row → 1 ≤ x
theorem num_in {row : List (Option Int)} {w : Nat} {x : Int} (h : num row w = some x) : some x ∈ row := by
  unfold num at h
  rw [List.getD_eq_getElem?_getD] at h
  cases q : row[w]? with
  | none => rw [q] at h; cases h
  | some y =>
    rw [q] at h
    have e : y = some x := h
    rw [← e]
    exact List.mem_of_getElem? q
theorem thr_gt {ws : Wt} {row : List (Option Int)} {m t : Int} (ok : RowOk row) (h : thr ws row m = some t) : m < t := by
  obtain ⟨s, hs, e⟩ := thr_mem h
  have := outs_le hs
  unfold cand at e
  obtain ⟨n, hn, rfl⟩ := Option.map_eq_some_iff.mp e
  have := ok n (num_in hn)
  omega
theorem fold_same {a b : Int} : ∀ {ws : Wt} {z : Nat}, (∀ r ∈ ws, (r.1 ≤ a ↔ r.1 ≤ b)) → ws.foldl (fun z r => if r.1 ≤ a then r.2 else z) z = ws.foldl (fun z r => if r.1 ≤ b then r.2 else z) z
  | [], _, _ => rfl
  | r :: ws, z, h => by
    have e : (if r.1 ≤ a then r.2 else z) = (if r.1 ≤ b then r.2 else z) := by
      have := h r List.mem_cons_self
      by_cases q : r.1 ≤ a
      · rw [if_pos q, if_pos (this.mp q)]
      · rw [if_neg q, if_neg fun y => q (this.mpr y)]
    rw [List.foldl_cons, List.foldl_cons, e]
    exact fold_same fun r hr => h r (List.mem_cons_of_mem _ hr)
theorem wind_same {ws : Wt} {a b : Int} (h : ∀ r ∈ ws, (r.1 ≤ a ↔ r.1 ≤ b)) : windAt ws a = windAt ws b := fold_same h
theorem max_of : ∀ {l : List Int}, l ≠ [] → ∃ x ∈ l, ∀ y ∈ l, y ≤ x
  | [], h => absurd rfl h
  | [x], _ => ⟨x, List.mem_cons_self, fun y hy => by rw [List.mem_singleton.mp hy]; exact Int.le_refl _⟩
  | x :: z :: l, _ => by
    obtain ⟨m, hm, h⟩ := max_of (l := z :: l) (by simp)
    by_cases q : m ≤ x
    · exact ⟨x, List.mem_cons_self, fun y hy => by
        rcases List.mem_cons.mp hy with rfl | hy
        · exact Int.le_refl _
        · exact Int.le_trans (h y hy) q⟩
    · exact ⟨m, List.mem_cons_of_mem _ hm, fun y hy => by
        rcases List.mem_cons.mp hy with rfl | hy
        · omega
        · exact h y hy⟩
theorem outs_back {ws : Wt} {a b : Int} (h : a ≤ b) : ∃ s ∈ outs ws a, s ≤ b ∧ windAt ws s = windAt ws b := by
  by_cases q : ((ws.map (·.1)).filter fun s => decide (a < s ∧ s ≤ b)) = []
  · refine ⟨a, List.mem_cons_self, h, wind_same fun r hr => ⟨fun z => by omega, fun z => ?_⟩⟩
    rw [List.filter_eq_nil_iff] at q
    have := q r.1 (List.mem_map.mpr ⟨r, hr, rfl⟩)
    rw [decide_eq_true_iff] at this
    omega
  · obtain ⟨s, hs, mx⟩ := max_of q
    obtain ⟨h1, h2⟩ := List.mem_filter.mp hs
    have h2 := of_decide_eq_true h2
    refine ⟨s, List.mem_cons_of_mem _ (List.mem_filter.mpr ⟨h1, decide_eq_true h2.1⟩), h2.2, wind_same fun r hr => ⟨fun z => by omega, fun z => ?_⟩⟩
    by_cases c : a < r.1
    · exact mx r.1 (List.mem_filter.mpr ⟨List.mem_map.mpr ⟨r, hr, rfl⟩, decide_eq_true ⟨c, z⟩⟩)
    · omega
theorem thr_mono {ws : Wt} {row : List (Option Int)} {a b t : Int} (le : a ≤ b) (h : thr ws row b = some t) : ∃ t', thr ws row a = some t' ∧ t' ≤ t := by
  obtain ⟨s, hs, e⟩ := thr_mem h
  rcases List.mem_cons.mp hs with rfl | hs
  · obtain ⟨u, hu, ul, uw⟩ := outs_back (ws := ws) le
    unfold cand at e
    obtain ⟨n, hn, rfl⟩ := Option.map_eq_some_iff.mp e
    obtain ⟨t', h1, h2⟩ := thr_le (row := row) (x := u + n) hu (by unfold cand; rw [uw, hn]; rfl)
    exact ⟨t', h1, by omega⟩
  · obtain ⟨h1, h2⟩ := List.mem_filter.mp hs
    have h2 := of_decide_eq_true h2
    exact thr_le (List.mem_cons_of_mem _ (List.mem_filter.mpr ⟨h1, decide_eq_true (by omega)⟩)) e
/-! ### what is reached -/
structure Fire where
  ws : Wt
  ls : List Lk
  st : List (Str × Int)
  stop : Str → Option Int
def ahead (m : Option Int) (t : Int) : Bool := match m with
  | none => true
  | some m => decide (t < m)
theorem ahead_mono {m : Option Int} {a b : Int} (le : a ≤ b) (h : ahead m b = true) : ahead m a = true := by
  cases m with
  | none => rfl
  | some m =>
    have := of_decide_eq_true h
    exact decide_eq_true (by omega)
inductive Reach (F : Fire) : Str → Int → Prop
  | start {p : Str} {t : Int} : (p, t) ∈ F.st → ahead (F.stop p) t = true → Reach F p t
  | step {l : Lk} {t t' : Int} : Reach F l.o t → l ∈ F.ls → thr F.ws l.row t = some t' → ahead (F.stop l.t) t' = true → Reach F l.t t'
structure Ok (F : Fire) (ps : List Str) : Prop where
  nn : ∀ r ∈ F.st, 0 ≤ r.2
  rows : ∀ l ∈ F.ls, RowOk l.row
  sp : ∀ r ∈ F.st, r.1 ∈ ps
  ends : ∀ l ∈ F.ls, l.o ∈ ps ∧ l.t ∈ ps
theorem Reach.nn {F : Fire} {ps : List Str} (ok : Ok F ps) {p : Str} {t : Int} (h : Reach F p t) : 0 ≤ t ∧ p ∈ ps := by
  induction h with
  | start h _ => exact ⟨ok.nn _ h, ok.sp _ h⟩
  | step _ hl ht _ ih =>
    have := thr_gt (ok.rows _ hl) ht
    exact ⟨by omega, (ok.ends _ hl).2⟩
structure IsFire (F : Fire) (f : Str → Option Int) : Prop where
  sound : ∀ p t, f p = some t → Reach F p t
  start : ∀ p t, (p, t) ∈ F.st → ahead (F.stop p) t = true → ∃ s, f p = some s ∧ s ≤ t
  step : ∀ l ∈ F.ls, ∀ t t', f l.o = some t → thr F.ws l.row t = some t' → ahead (F.stop l.t) t' = true → ∃ s, f l.t = some s ∧ s ≤ t'
theorem IsFire.le {F : Fire} {f : Str → Option Int} (h : IsFire F f) {p : Str} {t : Int} (r : Reach F p t) : ∃ s, f p = some s ∧ s ≤ t := by
  induction r with
  | start a b => exact h.start _ _ a b
  | step _ hl ht ha ih =>
    obtain ⟨s, e, le⟩ := ih
    obtain ⟨s', e', le'⟩ := thr_mono le ht
    obtain ⟨u, eu, lu⟩ := h.step _ hl _ _ e e' (ahead_mono le' ha)
    exact ⟨u, eu, Int.le_trans lu le'⟩
theorem IsFire.uniq {F : Fire} {f g : Str → Option Int} (hf : IsFire F f) (hg : IsFire F g) (p : Str) : f p = g p := by
  have one : ∀ {f g : Str → Option Int}, IsFire F f → IsFire F g → ∀ t, f p = some t → ∃ s, g p = some s ∧ s ≤ t := fun hf hg t e => hg.le (hf.sound _ _ e)
  cases ef : f p with
  | none =>
    cases eg : g p with
    | none => rfl
    | some t =>
      obtain ⟨s, e, _⟩ := one hg hf t eg
      rw [ef] at e; cases e
  | some t =>
    obtain ⟨s, e, le⟩ := one hf hg t ef
    obtain ⟨u, eu, lu⟩ := one hg hf s e
    rw [ef] at eu
    cases eu
    rw [e, show s = t by omega]
theorem reach_min {F : Fire} {ps : List Str} (ok : Ok F ps) {p : Str} : ∀ (n : Nat) {t : Int}, Reach F p t → t.toNat ≤ n → ∃ s, Reach F p s ∧ ∀ u, Reach F p u → s ≤ u
  | 0, t, h, le => ⟨t, h, fun u hu => by
    have := (h.nn ok).1
    have := (hu.nn ok).1
    omega⟩
  | n + 1, t, h, le => by
    by_cases q : ∃ u, Reach F p u ∧ u < t
    · obtain ⟨u, hu, lt⟩ := q
      have := (hu.nn ok).1
      exact reach_min ok n hu (by omega)
    · exact ⟨t, h, fun u hu => by
        have : ¬ u < t := fun z => q ⟨u, hu, z⟩
        omega⟩
open Classical in
/-- the first minutes -/
noncomputable def first (F : Fire) (p : Str) : Option Int := if h : ∃ s, Reach F p s ∧ ∀ u, Reach F p u → s ≤ u then some (Classical.choose h) else none
theorem first_some {F : Fire} {p : Str} {t : Int} (h : first F p = some t) : Reach F p t ∧ ∀ u, Reach F p u → t ≤ u := by
  unfold first at h
  split at h
  · rename_i q
    cases h
    exact Classical.choose_spec q
  · cases h
theorem first_le {F : Fire} {ps : List Str} (ok : Ok F ps) {p : Str} {t : Int} (h : Reach F p t) : ∃ s, first F p = some s ∧ s ≤ t := by
  have q := reach_min ok t.toNat h (Nat.le_refl _)
  unfold first
  rw [dif_pos q]
  exact ⟨_, rfl, (Classical.choose_spec q).2 t h⟩
theorem first_is {F : Fire} {ps : List Str} (ok : Ok F ps) : IsFire F (first F) where
  sound := fun p t h => (first_some h).1
  start := fun p t h a => first_le ok (.start h a)
  step := fun l hl t t' h ht a => first_le ok (.step (first_some h).1 hl ht a)
theorem is_first {F : Fire} {ps : List Str} (ok : Ok F ps) {f : Str → Option Int} (h : IsFire F f) (p : Str) : f p = first F p := h.uniq (first_is ok) p
theorem first_in {F : Fire} {ps : List Str} (ok : Ok F ps) {p : Str} {t : Int} (h : first F p = some t) : p ∈ ps ∧ 0 ≤ t := ⟨((first_some h).1.nn ok).2, ((first_some h).1.nn ok).1⟩
/-! ### rounds over all links -/
def Sound (F : Fire) (f : Str → Option Int) : Prop := ∀ p t, f p = some t → Reach F p t
def Starts (F : Fire) (f : Str → Option Int) : Prop := ∀ p t, (p, t) ∈ F.st → ahead (F.stop p) t = true → ∃ s, f p = some s ∧ s ≤ t
/-- g is nowhere later than f -/
def Le (g f : Str → Option Int) : Prop := ∀ p t, f p = some t → ∃ s, g p = some s ∧ s ≤ t
theorem Le.refl (f : Str → Option Int) : Le f f := fun p t h => ⟨t, h, Int.le_refl _⟩
theorem Le.trans {f g h : Str → Option Int} (a : Le h g) (b : Le g f) : Le h f := fun p t e => by
  obtain ⟨s, e1, l1⟩ := b p t e
  obtain ⟨u, e2, l2⟩ := a p s e1
  exact ⟨u, e2, Int.le_trans l2 l1⟩
/-- the links of the list are taken from f to g -/
def Taken (F : Fire) (ls : List Lk) (f g : Str → Option Int) : Prop := ∀ l ∈ ls, ∀ t t', f l.o = some t → thr F.ws l.row t = some t' → ahead (F.stop l.t) t' = true → ∃ s, g l.t = some s ∧ s ≤ t'
open Classical in
noncomputable def bad (F : Fire) (ps : List Str) (f : Str → Option Int) : List Str := ps.filter fun p => decide (f p ≠ first F p)
theorem final_stays {F : Fire} {ps : List Str} (ok : Ok F ps) {f g : Str → Option Int} (sg : Sound F g) (le : Le g f) {p : Str} (h : f p = first F p) : g p = first F p := by
  cases e : first F p with
  | none =>
    cases q : g p with
    | none => rfl
    | some t =>
      obtain ⟨s, e2, _⟩ := first_le ok (sg p t q)
      rw [e] at e2; cases e2
  | some t =>
    rw [e] at h
    obtain ⟨s, e1, l1⟩ := le p t h
    have := (first_some e).2 s (sg p s e1)
    rw [e1, show s = t by omega]
theorem round_step {F : Fire} {ps : List Str} (ok : Ok F ps) {f g : Str → Option Int} (sf : Sound F f) (sg : Sound F g) (st : Starts F f) (le : Le g f) (tk : Taken F F.ls f g) (ne : bad F ps f ≠ []) : (bad F ps g).length < (bad F ps f).length := by
  have vals : ∀ p ∈ bad F ps f, ∃ m, first F p = some m := fun p hp => by
    have hn := of_decide_eq_true (List.mem_filter.mp hp).2
    cases e : first F p with
    | some m => exact ⟨m, rfl⟩
    | none =>
      exfalso
      cases q : f p with
      | none => exact hn (by rw [q, e])
      | some t =>
        obtain ⟨s, e2, _⟩ := first_le ok (sf p t q)
        rw [e] at e2; cases e2
  obtain ⟨p, hp, mn⟩ : ∃ p ∈ bad F ps f, ∀ q ∈ bad F ps f, ∀ a b, first F p = some a → first F q = some b → a ≤ b := by
    have key : ∀ l : List Str, l ≠ [] → (∀ p ∈ l, ∃ m, first F p = some m) → ∃ p ∈ l, ∀ q ∈ l, ∀ a b, first F p = some a → first F q = some b → a ≤ b := fun l => by
      induction l with
      | nil => exact fun h => absurd rfl h
      | cons x l ih =>
        intro _ hv
        cases l with
        | nil => exact ⟨x, List.mem_cons_self, fun q hq a b ha hb => by rw [List.mem_singleton.mp hq, ha] at hb; cases hb; exact Int.le_refl _⟩
        | cons y l =>
          obtain ⟨p, hp, mn⟩ := ih (by simp) fun p hp => hv p (List.mem_cons_of_mem _ hp)
          obtain ⟨mx, ex⟩ := hv x List.mem_cons_self
          obtain ⟨mp, ep⟩ := hv p (List.mem_cons_of_mem _ hp)
          by_cases c : mx ≤ mp
          · refine ⟨x, List.mem_cons_self, fun q hq a b ha hb => ?_⟩
            rw [ex] at ha; cases ha
            rcases List.mem_cons.mp hq with rfl | hq
            · rw [ex] at hb; cases hb; exact Int.le_refl _
            · exact Int.le_trans c (mn q hq _ _ ep hb)
          · refine ⟨p, List.mem_cons_of_mem _ hp, fun q hq a b ha hb => ?_⟩
            rcases List.mem_cons.mp hq with rfl | hq
            · rw [ex] at hb; cases hb
              rw [ep] at ha; cases ha
              omega
            · exact mn q hq a b ha hb
    exact key _ ne vals
  obtain ⟨m, em⟩ := vals p hp
  have pp := (List.mem_filter.mp hp).1
  have good : g p = first F p := by
    obtain ⟨r, mr⟩ := first_some em
    cases r with
    | start a b =>
      obtain ⟨s, e, l⟩ := st _ _ a b
      have := mr s (sf _ _ e)
      exact absurd (show f p = first F p by rw [e, em, show s = m by omega]) (of_decide_eq_true (List.mem_filter.mp hp).2)
    | @step l t _ hr hl ht ha =>
      obtain ⟨t0, e0, l0⟩ := first_le ok hr
      have gt := thr_gt (ok.rows l hl) ht
      have fo : f l.o = first F l.o := Classical.byContradiction fun c => by
        have := mn l.o (List.mem_filter.mpr ⟨(ok.ends l hl).1, decide_eq_true c⟩) _ _ em e0
        omega
      obtain ⟨t1, e1, l1⟩ := thr_mono l0 ht
      obtain ⟨s, e2, l2⟩ := tk l hl t0 t1 (fo.trans e0) e1 (ahead_mono l1 ha)
      have := mr s (sg _ _ e2)
      rw [e2, em, show s = m by omega]
  have sub : ∀ q ∈ bad F ps g, q ∈ bad F ps f := fun q hq => by
    obtain ⟨h1, h2⟩ := List.mem_filter.mp hq
    exact List.mem_filter.mpr ⟨h1, decide_eq_true fun c => of_decide_eq_true h2 (final_stays ok sg le c)⟩
  have lt : ∀ (l : List Str), p ∈ l → (l.filter fun p => decide (¬ g p = first F p)).length + (if f p = first F p then 0 else 1) ≤ (l.filter fun p => decide (¬ f p = first F p)).length := fun l => by
    have all : ∀ l : List Str, (l.filter fun p => decide (¬ g p = first F p)).length ≤ (l.filter fun p => decide (¬ f p = first F p)).length := fun l => by
      induction l with
      | nil => exact Nat.le_refl _
      | cons x l ih =>
        rw [List.filter_cons, List.filter_cons]
        by_cases c : f x = first F x
        · have c2 := final_stays ok sg le c
          simp only [c, c2, not_true_eq_false, decide_false, Bool.false_eq_true, if_false]
          exact ih
        · simp only [c, not_false_eq_true, decide_true, if_true]
          split
          · rw [List.length_cons, List.length_cons]; omega
          · rw [List.length_cons]; omega
    induction l with
    | nil => exact fun h => by cases h
    | cons x l ih =>
      intro h
      have nf : ¬ f p = first F p := of_decide_eq_true (List.mem_filter.mp hp).2
      rw [if_neg nf] at ih ⊢
      rw [List.filter_cons, List.filter_cons]
      rcases List.mem_cons.mp h with rfl | h
      · simp only [good, nf, not_true_eq_false, decide_false, Bool.false_eq_true, if_false, not_false_eq_true, decide_true, if_true]
        rw [List.length_cons]
        have := all l
        omega
      · have ih := ih h
        by_cases c : f x = first F x
        · have c2 := final_stays ok sg le c
          simp only [c, c2, not_true_eq_false, decide_false, Bool.false_eq_true, if_false]
          exact ih
        · simp only [c, not_false_eq_true, decide_true, if_true]
          split
          · rw [List.length_cons, List.length_cons]; omega
          · rw [List.length_cons]; omega
  have := lt ps pp
  rw [if_neg (of_decide_eq_true (List.mem_filter.mp hp).2)] at this
  exact this
theorem bad_stays {F : Fire} {ps : List Str} (ok : Ok F ps) {f g : Str → Option Int} (sg : Sound F g) (le : Le g f) (h : bad F ps f = []) : bad F ps g = [] := by
  unfold bad at h ⊢
  rw [List.filter_eq_nil_iff] at h ⊢
  intro p hp c
  have := h p hp
  rw [decide_eq_true_iff] at this c
  exact c (final_stays ok sg le (Classical.byContradiction this))
theorem bad_none {F : Fire} {ps : List Str} (ok : Ok F ps) {f : Str → Option Int} (sf : Sound F f) (h : bad F ps f = []) (p : Str) : f p = first F p := by
  by_cases hp : p ∈ ps
  · unfold bad at h
    rw [List.filter_eq_nil_iff] at h
    have := h p hp
    rw [decide_eq_true_iff] at this
    exact Classical.byContradiction this
  · have n1 : f p = none := by
      cases e : f p with
      | none => rfl
      | some t => exact absurd ((sf p t e).nn ok).2 hp
    have n2 : first F p = none := by
      cases e : first F p with
      | none => rfl
      | some t => exact absurd (first_in ok e).1 hp
    rw [n1, n2]
theorem bad_len (F : Fire) (ps : List Str) (f : Str → Option Int) : (bad F ps f).length ≤ ps.length := List.length_filter_le _ _
end FP

set_option Elab.async false
set_option linter.all false
set_option maxRecDepth 100000
set_option maxHeartbeats 4000000
/-! Through a link by spells of wind; least minutes of rows; tables of minutes. -/
namespace FP
open PySem
abbrev Spell := Int × Option Int × Nat
def spells : Wt → List Spell
  | [] => []
  | [r] => [(r.1, none, r.2)]
  | r :: q :: l => (r.1, some q.1, r.2) :: spells (q :: l)
def over (e : Option Int) (m : Int) : Bool := match e with
  | none => false
  | some x => decide (x ≤ m)
def candS (row : List (Option Int)) (m : Int) (s : Spell) : Option Int := if over s.2.1 m = true then none else (num row s.2.2).map ((if s.1 < m then m else s.1) + ·)
def early (c : Option Int) (b : Int) : Bool := match c with
  | none => false
  | some f => decide (f ≤ b)
def goThr (row : List (Option Int)) (m : Int) : List Spell → Option Int → Option Int
  | [], c => c
  | s :: r, c => if early c s.1 = true then c else goThr row m r (least c (candS row m s))
def Asc (ws : Wt) : Prop := ws.Pairwise fun a b => a.1 < b.1
theorem spells_begin : ∀ {ws : Wt}, ∀ s ∈ spells ws, ∃ r ∈ ws, s.1 = r.1
  | [], s, h => by cases h
  | [r], s, h => ⟨r, List.mem_cons_self, by rw [List.mem_singleton.mp h]⟩
  | r :: q :: l, s, h => by
    rcases List.mem_cons.mp h with rfl | h
    · exact ⟨r, List.mem_cons_self, rfl⟩
    · obtain ⟨x, hx, e⟩ := spells_begin (ws := q :: l) s h
      exact ⟨x, List.mem_cons_of_mem _ hx, e⟩
theorem cand_ge {row : List (Option Int)} {m t : Int} {s : Spell} (ok : RowOk row) (h : candS row m s = some t) : s.1 < t := by
  unfold candS at h
  split at h
  · cases h
  · obtain ⟨n, hn, rfl⟩ := Option.map_eq_some_iff.mp h
    have := ok n (num_in hn)
    split <;> omega
theorem fold_keep {c : Int} : ∀ {l : List (Option Int)}, (∀ x, some x ∈ l → c ≤ x) → l.foldl least (some c) = some c
  | [], _ => rfl
  | none :: l, h => fold_keep (l := l) fun x hx => h x (List.mem_cons_of_mem _ hx)
  | some y :: l, h => by
    have := h y List.mem_cons_self
    show l.foldl least (if y < c then some y else some c) = _
    rw [if_neg (by omega)]
    exact fold_keep (l := l) fun x hx => h x (List.mem_cons_of_mem _ hx)
/-- to stop early changes nothing -/
theorem go_fold {row : List (Option Int)} {m : Int} (ok : RowOk row) : ∀ {ws : Wt} {c : Option Int}, Asc ws → goThr row m (spells ws) c = ((spells ws).map (candS row m)).foldl least c := by
  have key : ∀ {l : List Spell} {c : Option Int}, l.Pairwise (fun a b => a.1 < b.1) → goThr row m l c = (l.map (candS row m)).foldl least c := fun {l} => by
    induction l with
    | nil => intro c _; rfl
    | cons s r ih =>
      intro c h
      rw [List.pairwise_cons] at h
      unfold goThr
      cases e : early c s.1 with
      | false =>
        simp only [Bool.false_eq_true, if_false]
        rw [ih h.2]
        rfl
      | true =>
        simp only [if_true]
        cases c with
        | none => cases e
        | some f =>
          have le : f ≤ s.1 := of_decide_eq_true e
          refine (fold_keep fun x hx => ?_).symm
          obtain ⟨q, hq, eq⟩ := List.mem_map.mp hx
          have g := cand_ge ok eq
          rcases List.mem_cons.mp hq with rfl | hq
          · omega
          · have := h.1 q hq
            omega
  intro ws c a
  refine key ?_
  clear c
  induction ws with
  | nil => exact List.Pairwise.nil
  | cons r l ih =>
    cases l with
    | nil => exact List.pairwise_singleton _ _
    | cons q l =>
      unfold Asc at a
      rw [List.pairwise_cons] at a
      show List.Pairwise _ ((r.1, some q.1, r.2) :: spells (q :: l))
      rw [List.pairwise_cons]
      refine ⟨fun s hs => ?_, ih a.2⟩
      obtain ⟨x, hx, e⟩ := spells_begin s hs
      show r.1 < s.1
      rw [e]
      exact a.1 x hx
theorem fold_past {s : Int} : ∀ {l : Wt} {z : Nat}, (∀ r ∈ l, s < r.1) → l.foldl (fun z r => if r.1 ≤ s then r.2 else z) z = z
  | [], _, _ => rfl
  | r :: l, z, h => by
    have := h r List.mem_cons_self
    rw [List.foldl_cons, if_neg (by omega)]
    exact fold_past fun x hx => h x (List.mem_cons_of_mem _ hx)
theorem wind_at {A B : Wt} {r : Int × Nat} (a : Asc (A ++ r :: B)) : windAt (A ++ r :: B) r.1 = r.2 := by
  unfold windAt Asc at *
  rw [List.pairwise_append] at a
  obtain ⟨_, a2, _⟩ := a
  rw [List.pairwise_cons] at a2
  rw [List.foldl_append, List.foldl_cons, if_pos (Int.le_refl _), fold_past a2.1]
theorem wind_drop {r q : Int × Nat} {l : Wt} {s : Int} (h1 : r.1 ≤ s) (h2 : q.1 ≤ s) : windAt (r :: q :: l) s = windAt (q :: l) s := by
  unfold windAt
  simp only [List.headD_cons, List.foldl_cons, if_pos h1, if_pos h2]
theorem past_same {row : List (Option Int)} {m : Int} {ws : Wt} (a : Asc ws) : ∀ (A B : Wt), ws = A ++ B → (∀ r ∈ B, m < r.1) → (B.map (·.1)).map (cand ws row) = (spells B).map (candS row m)
  | A, [], _, _ => rfl
  | A, [r], e, h => by
    have := h r List.mem_cons_self
    have w : windAt ws r.1 = r.2 := by rw [e] at a ⊢; exact wind_at a
    show [cand ws row r.1] = [candS row m (r.1, none, r.2)]
    unfold cand candS over
    rw [w]
    simp only [Bool.false_eq_true, if_false]
    rw [if_neg (by omega)]
  | A, r :: q :: l, e, h => by
    have h1 := h r List.mem_cons_self
    have h2 := h q (List.mem_cons_of_mem _ List.mem_cons_self)
    have w : windAt ws r.1 = r.2 := by rw [e] at a ⊢; exact wind_at a
    have ih := past_same (row := row) (m := m) a (A ++ [r]) (q :: l) (by rw [e, List.append_assoc]; rfl) fun x hx => h x (List.mem_cons_of_mem _ hx)
    show cand ws row r.1 :: ((q :: l).map (·.1)).map (cand ws row) = candS row m (r.1, some q.1, r.2) :: (spells (q :: l)).map (candS row m)
    rw [ih]
    congr 1
    unfold cand candS over
    rw [w]
    simp only
    rw [if_neg (by rw [decide_eq_true_iff]; omega), if_neg (by omega)]
theorem thr_spells {row : List (Option Int)} {m : Int} : ∀ {ws : Wt}, Asc ws → (∀ r ∈ ws.head?, r.1 ≤ m) → ws ≠ [] → ((spells ws).map (candS row m)).foldl least none = thr ws row m
  | [], _, _, h => absurd rfl h
  | [r], a, h, _ => by
    have hr := h r rfl
    unfold thr leastL outs
    rw [show ([r].map (·.1)).filter (fun s => decide (m < s)) = [] by
      rw [List.map_cons, List.map_nil, List.filter_cons, if_neg (by rw [decide_eq_true_iff]; omega)]
      rfl]
    show least none (candS row m (r.1, none, r.2)) = least none (cand [r] row m)
    congr 1
    unfold cand candS over windAt
    simp only [List.headD_cons, List.foldl_cons, List.foldl_nil, Bool.false_eq_true, if_false, if_pos hr]
    by_cases c : r.1 < m
    · rw [if_pos c]
    · rw [if_neg c, show r.1 = m by omega]
  | r :: q :: l, a, h, _ => by
    have hr : r.1 ≤ m := h r rfl
    have a' := a
    unfold Asc at a'
    rw [List.pairwise_cons] at a'
    by_cases c : q.1 ≤ m
    · have ih := thr_spells (row := row) (m := m) (ws := q :: l) a'.2 (fun x hx => by cases hx; exact c) (by simp)
      show (candS row m (r.1, some q.1, r.2) :: (spells (q :: l)).map (candS row m)).foldl least none = _
      have e : candS row m (r.1, some q.1, r.2) = none := by
        unfold candS over
        simp only
        rw [if_pos (decide_eq_true c)]
      rw [e, List.foldl_cons]
      show ((spells (q :: l)).map (candS row m)).foldl least none = _
      rw [ih]
      unfold thr outs
      have e2 : ((r :: q :: l).map (·.1)).filter (fun s => decide (m < s)) = ((q :: l).map (·.1)).filter (fun s => decide (m < s)) := by
        rw [List.map_cons, List.filter_cons, if_neg (by rw [decide_eq_true_iff]; omega)]
      rw [e2]
      congr 1
      refine List.map_congr_left fun s hs => ?_
      have : m ≤ s := by
        rcases List.mem_cons.mp hs with z | z
        · omega
        · have := of_decide_eq_true (List.mem_filter.mp z).2
          omega
      unfold cand
      rw [wind_drop (by omega) (by omega)]
    · have big : ∀ x ∈ q :: l, m < x.1 := fun x hx => by
        rcases List.mem_cons.mp hx with rfl | hx
        · omega
        · have z := a'.2
          rw [List.pairwise_cons] at z
          have := z.1 x hx
          omega
      have ih := past_same (row := row) (m := m) a [r] (q :: l) rfl big
      show (candS row m (r.1, some q.1, r.2) :: (spells (q :: l)).map (candS row m)).foldl least none = _
      rw [← ih]
      unfold thr leastL outs
      have e2 : ((r :: q :: l).map (·.1)).filter (fun s => decide (m < s)) = (q :: l).map (·.1) := by
        rw [List.map_cons, List.filter_cons, if_neg (by rw [decide_eq_true_iff]; omega)]
        exact List.filter_eq_self.mpr fun s hs => by
          obtain ⟨x, hx, rfl⟩ := List.mem_map.mp hs
          exact decide_eq_true (big x hx)
      rw [e2, List.map_cons]
      congr 2
      unfold cand candS over windAt
      simp only [List.headD_cons, List.foldl_cons]
      have z := big q List.mem_cons_self
      have c0 : ¬ decide (q.1 ≤ m) = true := by rw [decide_eq_true_iff]; omega
      have c1 : ¬ q.1 ≤ m := by omega
      rw [if_pos hr]
      simp only [if_neg c0, if_neg c1]
      rw [fold_past fun x hx => big x (List.mem_cons_of_mem _ hx)]
      by_cases c2 : r.1 < m
      · simp only [if_pos c2]
      · have er : r.1 = m := by omega
        simp only [if_neg c2]
        rw [er]
theorem go_thr {row : List (Option Int)} {m : Int} {ws : Wt} (ok : RowOk row) (a : Asc ws) (h : ∀ r ∈ ws.head?, r.1 ≤ m) (ne : ws ≠ []) : goThr row m (spells ws) none = thr ws row m := by
  rw [go_fold ok a, thr_spells a h ne]
/-! ### least minutes of rows (place, minute) -/
def minOf (rows : List (Str × Int)) (p : Str) : Option Int := rows.foldl (fun c r => if r.1 = p then least c (some r.2) else c) none
theorem minOf_more (rows : List (Str × Int)) (r : Str × Int) (p : Str) : minOf (rows ++ [r]) p = if r.1 = p then least (minOf rows p) (some r.2) else minOf rows p := by
  unfold minOf
  rw [List.foldl_append]
  rfl
end FP

set_option Elab.async false
set_option linter.all false
set_option maxRecDepth 100000
set_option maxHeartbeats 4000000
/-! A fire found in rounds over all links. -/
namespace FP
open PySem FD
def relax (f : Str → Option Int) (p : Str) (c : Int) : Str → Option Int := match f p with
  | none => upd1 f p c
  | some u => if c < u then upd1 f p c else f
def startL (F : Fire) (f : Str → Option Int) (r : Str × Int) : Str → Option Int := if ahead (F.stop r.1) r.2 = true then relax f r.1 r.2 else f
def takeL (F : Fire) (f : Str → Option Int) (l : Lk) : Str → Option Int := match f l.o with
  | none => f
  | some s => match thr F.ws l.row s with
    | none => f
    | some c => if ahead (F.stop l.t) c = true then relax f l.t c else f
theorem upd1_at (f : Str → Option Int) (p : Str) (c : Int) : upd1 f p c p = some c := if_pos rfl
theorem relax_at (f : Str → Option Int) (p : Str) (c : Int) : ∃ u, relax f p c p = some u ∧ u ≤ c := by
  unfold relax
  cases e : f p with
  | none => exact ⟨c, upd1_at f p c, Int.le_refl _⟩
  | some u =>
    by_cases h : c < u
    · simp only [if_pos h]
      exact ⟨c, upd1_at f p c, Int.le_refl _⟩
    · simp only [if_neg h]
      exact ⟨u, e, by omega⟩
theorem upd1_le {f : Str → Option Int} {p : Str} {c : Int} (h : ∀ u, f p = some u → c ≤ u) : Le (upd1 f p c) f := fun q t e => by
  unfold upd1
  by_cases z : q = p
  · rw [if_pos z]
    rw [z] at e
    exact ⟨c, rfl, h t e⟩
  · rw [if_neg z]
    exact ⟨t, e, Int.le_refl _⟩
theorem relax_le (f : Str → Option Int) (p : Str) (c : Int) : Le (relax f p c) f := by
  unfold relax
  cases e : f p with
  | none => exact upd1_le fun u h => by rw [e] at h; cases h
  | some u =>
    by_cases h : c < u
    · simp only [if_pos h]
      exact upd1_le fun v hv => by rw [e] at hv; cases hv; omega
    · simp only [if_neg h]
      exact Le.refl f
theorem relax_sound {F : Fire} {f : Str → Option Int} {p : Str} {c : Int} (sf : Sound F f) (r : Reach F p c) : Sound F (relax f p c) := by
  have up : Sound F (upd1 f p c) := fun q t e => by
    unfold upd1 at e
    split at e
    · rename_i z
      cases e
      rw [z]
      exact r
    · exact sf q t e
  unfold relax
  cases e : f p with
  | none => exact up
  | some u =>
    by_cases h : c < u
    · simp only [if_pos h]; exact up
    · simp only [if_neg h]; exact sf
theorem start_sound {F : Fire} {f : Str → Option Int} {r : Str × Int} (sf : Sound F f) (h : r ∈ F.st) : Sound F (startL F f r) := by
  unfold startL
  split
  · rename_i a
    exact relax_sound sf (.start h a)
  · exact sf
theorem start_le (F : Fire) (f : Str → Option Int) (r : Str × Int) : Le (startL F f r) f := by
  unfold startL
  split
  · exact relax_le _ _ _
  · exact Le.refl f
theorem take_sound {F : Fire} {f : Str → Option Int} {l : Lk} (sf : Sound F f) (h : l ∈ F.ls) : Sound F (takeL F f l) := by
  unfold takeL
  cases e : f l.o with
  | none => exact sf
  | some s =>
    simp only
    cases t : thr F.ws l.row s with
    | none => exact sf
    | some c =>
      simp only
      split
      · rename_i a
        exact relax_sound sf (.step (sf _ _ e) h t a)
      · exact sf
theorem take_le (F : Fire) (f : Str → Option Int) (l : Lk) : Le (takeL F f l) f := by
  unfold takeL
  cases e : f l.o with
  | none => exact Le.refl f
  | some s =>
    simp only
    cases t : thr F.ws l.row s with
    | none => exact Le.refl f
    | some c =>
      simp only
      split
      · exact relax_le _ _ _
      · exact Le.refl f
theorem take_taken {F : Fire} {f0 f : Str → Option Int} {l : Lk} (le : Le f f0) {t t' : Int} (h0 : f0 l.o = some t) (h1 : thr F.ws l.row t = some t') (h2 : ahead (F.stop l.t) t' = true) : ∃ s, takeL F f l l.t = some s ∧ s ≤ t' := by
  obtain ⟨s, e, l1⟩ := le _ _ h0
  obtain ⟨c, ec, l2⟩ := thr_mono l1 h1
  unfold takeL
  rw [e]
  simp only
  rw [ec]
  simp only
  rw [if_pos (ahead_mono l2 h2)]
  obtain ⟨u, eu, l3⟩ := relax_at f l.t c
  exact ⟨u, eu, Int.le_trans l3 l2⟩
def st0 (F : Fire) : Str → Option Int := F.st.foldl (startL F) fun _ => none
def rnd (F : Fire) (f : Str → Option Int) : Str → Option Int := F.ls.foldl (takeL F) f
def rounds (F : Fire) : Nat → Str → Option Int
  | 0 => st0 F
  | n + 1 => rnd F (rounds F n)
theorem st0_ok (F : Fire) : Sound F (st0 F) ∧ Starts F (st0 F) := by
  have key : ∀ (l : List (Str × Int)) (f : Str → Option Int), (∀ r ∈ l, r ∈ F.st) → Sound F f → Sound F (l.foldl (startL F) f) ∧ Le (l.foldl (startL F) f) f ∧ ∀ r ∈ l, ahead (F.stop r.1) r.2 = true → ∃ s, l.foldl (startL F) f r.1 = some s ∧ s ≤ r.2 := fun l => by
    induction l with
    | nil => exact fun f _ sf => ⟨sf, Le.refl f, fun r hr => by cases hr⟩
    | cons r l ih =>
      intro f hm sf
      obtain ⟨h1, h2, h3⟩ := ih (startL F f r) (fun x hx => hm x (List.mem_cons_of_mem _ hx)) (start_sound sf (hm r List.mem_cons_self))
      refine ⟨h1, h2.trans (start_le F f r), fun x hx a => ?_⟩
      rcases List.mem_cons.mp hx with rfl | hx
      · obtain ⟨u, eu, lu⟩ := relax_at f x.1 x.2
        have e : startL F f x = relax f x.1 x.2 := if_pos a
        rw [← e] at eu
        obtain ⟨v, ev, lv⟩ := h2 _ _ eu
        exact ⟨v, ev, Int.le_trans lv lu⟩
      · exact h3 x hx a
  obtain ⟨h1, _, h3⟩ := key F.st (fun _ => none) (fun r h => h) fun p t h => by cases h
  exact ⟨h1, fun p t h a => h3 (p, t) h a⟩
theorem rnd_ok {F : Fire} {f : Str → Option Int} (sf : Sound F f) : Sound F (rnd F f) ∧ Le (rnd F f) f ∧ Taken F F.ls f (rnd F f) := by
  have key : ∀ (l : List Lk) (g : Str → Option Int), (∀ r ∈ l, r ∈ F.ls) → Sound F g → Le g f → Sound F (l.foldl (takeL F) g) ∧ Le (l.foldl (takeL F) g) g ∧ Taken F l f (l.foldl (takeL F) g) := fun l => by
    induction l with
    | nil => exact fun g _ sg lg => ⟨sg, Le.refl g, fun r hr => by cases hr⟩
    | cons r l ih =>
      intro g hm sg lg
      obtain ⟨h1, h2, h3⟩ := ih (takeL F g r) (fun x hx => hm x (List.mem_cons_of_mem _ hx)) (take_sound sg (hm r List.mem_cons_self)) ((take_le F g r).trans lg)
      refine ⟨h1, h2.trans (take_le F g r), fun x hx t t' e1 e2 e3 => ?_⟩
      rcases List.mem_cons.mp hx with rfl | hx
      · obtain ⟨u, eu, lu⟩ := take_taken lg e1 e2 e3
        obtain ⟨v, ev, lv⟩ := h2 _ _ eu
        exact ⟨v, ev, Int.le_trans lv lu⟩
      · exact h3 x hx t t' e1 e2 e3
  exact key F.ls f (fun r h => h) sf (Le.refl f)
theorem rounds_ok {F : Fire} {ps : List Str} (ok : Ok F ps) : ∀ n, Sound F (rounds F n) ∧ Starts F (rounds F n) ∧ (bad F ps (rounds F n)).length ≤ ps.length - n
  | 0 => ⟨(st0_ok F).1, (st0_ok F).2, bad_len _ _ _⟩
  | n + 1 => by
    obtain ⟨h1, h2, h3⟩ := rounds_ok ok n
    obtain ⟨g1, g2, g3⟩ := rnd_ok h1
    refine ⟨g1, fun p t h a => ?_, ?_⟩
    · obtain ⟨s, e, l⟩ := h2 p t h a
      obtain ⟨u, eu, lu⟩ := g2 p s e
      exact ⟨u, eu, Int.le_trans lu l⟩
    · show (bad F ps (rnd F (rounds F n))).length ≤ _
      by_cases e : bad F ps (rounds F n) = []
      · rw [bad_stays ok g1 g2 e]
        exact Nat.zero_le _
      · have := round_step ok h1 g1 h2 g2 g3 e
        omega
theorem rounds_first {F : Fire} {ps : List Str} (ok : Ok F ps) {n : Nat} (h : ps.length ≤ n) (p : Str) : rounds F n p = first F p := by
  obtain ⟨h1, h2, h3⟩ := rounds_ok ok n
  refine bad_none ok h1 (List.length_eq_zero_iff.mp ?_) p
  omega
end FP

set_option Elab.async false
set_option linter.all false
set_option maxRecDepth 100000
set_option maxHeartbeats 4000000
/-! enumerate over a tuple. -/
namespace EnT
open PySem
open Sem (wp)
open AutoSeq1 (wpAny_loadPart')
theorem enum_newT (l : Addr) (its : Array Value) (n : Nat) (dd : Option Addr) (ss : Array (Option Value)) :
    Meets (Builtin.«enumerate.__new__» ⟨[.type "enumerate", .ref l], []⟩) (fun _ R s => s.heap.get? l = some ⟨.type "tuple", dd, .seq its n, ss⟩ ∧
      R (.ok (.ret (.ref (s.heap.push ⟨.type "tuple_iterator", none, .fields #[.ref l, .int 0 0], #[]⟩).objs.size)))
        { s with heap := (s.heap.push ⟨.type "tuple_iterator", none, .fields #[.ref l, .int 0 0], #[]⟩).push ⟨.type "enumerate", none, .fields #[.none, .bool false, .ref s.heap.objs.size, rawInt 0, .none, .none], #[]⟩ }) := by
  refine .of_wp fun prog w A R s h => ?_
  obtain ⟨hp, g, d, t, os⟩ := s
  obtain ⟨h0, hR⟩ := h
  have hsub := sub_enumerate
  have h1 : Heap.IsTuple (Shared.heap ⟨hp, g, d, t, os⟩) l its := ⟨_, h0, rfl, n, rfl⟩
  wp_walk using wpAny_loadPart' h0
  refine wpAny_stack_any fun st => ?_
  refine wpAny_pure ?_
  split
  · rename_i c _ _ _ _ _
    cases (c == Value.type "enumerate") <;> (wp_walk using wpAny_loadPart' h0, wpAny_pyIter_tuple h1; exact ⟨_, rfl, hR⟩)
  · wp_walk using wpAny_loadPart' h0, wpAny_pyIter_tuple h1
    exact ⟨_, rfl, hR⟩
section
variable {prog : Program} {w : World} {A : Around} {E : Value → Shared → Prop} {s : Shared}
theorem call_enumT {l : Addr} {items : Array Value} {Q : Value → Shared → Prop} (hL : s.heap.IsTuple l items)
    (h : ∀ h', IsEnum h' (s.heap.objs.size + 1) s.heap.objs.size 0 .none → h'.IsTupleIter s.heap.objs.size l 0 → h'.objs.size = s.heap.objs.size + 2 →
      (∀ b o, s.heap.get? b = some o → h'.get? b = some o) → Q (.ref (s.heap.objs.size + 1)) { s with heap := h' }) :
    wpAny (model prog w) A (call (.type "enumerate") [.ref l]) Q E s := by
  obtain ⟨⟨c, dd, dt, sl⟩, hl, hc, n, hd⟩ := hL
  replace hc : c = .type "tuple" := hc
  replace hd : dt = .seq items n := hd
  subst hc hd
  refine callType_new F.called_enumerate (by decide) (F.typeCall_enumerate_1 _) (F.newCall_enumerate_1 _) (fun obj => F.args_object_init_2 obj _) F.entry_enumerate_new (enum_newT l items n dd sl) ⟨hl, ?_⟩
  have hz : (s.heap.push ⟨.type "tuple_iterator", none, .fields #[.ref l, .int 0 0], #[]⟩).objs.size = s.heap.objs.size + 1 := Heap.size_push ..
  show _ ∧ _
  rw [hz]
  have he : IsEnum ((s.heap.push ⟨.type "tuple_iterator", none, .fields #[.ref l, .int 0 0], #[]⟩).push ⟨.type "enumerate", none, .fields #[.none, .bool false, .ref s.heap.objs.size, rawInt 0, .none, .none], #[]⟩) (s.heap.objs.size + 1) s.heap.objs.size 0 .none := by
    have q := Heap.get?_push_size (s.heap.push ⟨.type "tuple_iterator", none, .fields #[.ref l, .int 0 0], #[]⟩) (o := ⟨.type "enumerate", none, .fields #[.none, .bool false, .ref s.heap.objs.size, rawInt 0, .none, .none], #[]⟩) rfl
    rw [hz] at q
    exact q
  exact ⟨⟨_, he, rfl⟩, h _ he ⟨_, Heap.get?_push_of_some _ (Heap.get?_push_size _ rfl), rfl, rfl⟩ (by rw [Heap.size_push, hz]) fun b o x => Heap.get?_push_of_some _ (Heap.get?_push_of_some _ x)⟩
end
end EnT
namespace EnT
open PySem PySem.Spec PyProof.Rows L2
/-- the items of the tuple at a, each in a new pair behind its number -/
def It0 (K : PySem.W.Frag) (a : Addr) : It where
  go := fun i H => ∃ (zs : List V) (z : V), SqT K H a zs ∧ zs[i]? = some z
  yld := fun i H v H' => ∃ (p : Addr) (z : V), v = .ref p ∧ H p = none ∧ H' = upd H p (.tup [.int (i : Nat), z]) ∧ ∀ zs, SqT K H a zs → zs[i]? = some z
  stop := fun i H => ∃ zs : List V, SqT K H a zs ∧ zs.length = i
def St0 (a e it : Addr) (i : Nat) (h : Heap) : Prop := (∃ old, IsEnum h e it (i : Int) old) ∧ h.IsTupleIter it a i ∧ e ≠ it
theorem two_of {e it b : Addr} (h : b ∈ [e, it]) : b = e ∨ b = it := by simpa using h
theorem turn0 {P : Program} {w : World} {K : PySem.W.Frag} {elts : List Expr} {kk : Nat} {tp : Pos} (a e it : Addr) : Turn P w K (.Tuple elts kk tp) (It0 K a) [e, it] e (St0 a e it) where
  mem := List.mem_cons_self
  obj := by
    rintro i h ⟨⟨old, he⟩, ⟨o, ho, hc, hd⟩, _⟩ b hb
    rcases two_of hb with rfl | rfl
    · exact ⟨_, he, fun v q => nomatch q⟩
    · exact ⟨o, ho, fun v q => by rw [hd] at q; cases q⟩
  keep := by
    rintro i h h2 ⟨⟨old, he⟩, hi, hne⟩ k
    exact ⟨⟨old, k e List.mem_cons_self _ he⟩, hi.at fun o q => k it (List.mem_cons_of_mem _ List.mem_cons_self) o q, hne⟩
  item := by
    intro X hP hw hK hc i pins s σ H E I hf st hg
    subst hP hw hK
    obtain ⟨⟨old, he⟩, hit, hne⟩ := st
    obtain ⟨zs, z, hq, hz⟩ := hg
    obtain ⟨its, rv, pl, _⟩ := I.tuple hq
    obtain ⟨u, hu, ru⟩ := rv.get hz
    have s1 : e < s.heap.objs.size := Heap.lt_size he
    have s2 : it < s.heap.objs.size := by
      obtain ⟨_, q, _⟩ := hit
      exact Heap.lt_size q
    have lis : s.heap.IsTuple a its.toArray := pl
    have ea : a ≠ e := fun z => by
      obtain ⟨o, ho, hcl, _⟩ := lis
      rw [z, he] at ho
      cases ho
      injection hcl with q
      exact absurd q (by decide)
    have ia : a ≠ it := fun z => by
      obtain ⟨o, ho, hcl, _⟩ := lis
      obtain ⟨o2, ho2, hcl2, _⟩ := hit
      rw [z, ho2] at ho
      cases ho
      rw [hcl2] at hcl
      injection hcl with q
      exact absurd q (by decide)
    have hu' : its.toArray[i]? = some u := by simpa using hu
    have hi : i < its.toArray.size := by
      rcases Nat.lt_or_ge i its.toArray.size with q | q
      · exact q
      · rw [Array.getElem?_eq_none q] at hu'
        cases hu'
    refine wpAny_pyNext_enum_itemC (Draws.tuple (A := X.A.in1) (show X.A.in1.handled = none from I.ok.hd hc) it a ia its.toArray) he ⟨hit, lis⟩ hi hne (by simp [hne, ea.symm]) fun x h2 tk px ho st2 hT hsz hk => ?_
    obtain rfl : x = u := Option.some.inj (px.symm.trans hu')
    refine ⟨_, rfl, wpAny_letOwnedTupleGo_enum (s := { s with heap := h2, toks := tk + 1 }) ho fun h3 he3 sb => ?_⟩
    have hT3 : h3.get? s.heap.objs.size = some ⟨.type "tuple", none, .seq #[.int (i : Int) tk, x] 0, #[]⟩ := (sb.2 _ (Nat.ne_of_gt s1)).trans hT
    have new : ObjOk X.prog X.w (upd H s.heap.objs.size (.tup [.int (i : Int), z])) h3 s.heap.objs.size (.tup [.int (i : Int), z]) :=
      ⟨by show 2 ≤ sizeLine; decide, [.int (i : Int) tk, x], .cons ⟨_, rfl⟩ (.cons ru .nil), ⟨_, hT3, rfl, _, rfl⟩⟩
    have I2 : Inv X pins σ (upd H s.heap.objs.size (.tup [.int (i : Int), z])) { s with heap := h3, toks := tk + 1 } :=
      I.turnedNew (ch := [e, it]) (fun b ob hb q => (sb.2 b (fun y => hb (by rw [y]; exact List.mem_cons_self))).trans (hk b ob (fun y => hb (by rw [y]; exact List.mem_cons_self)) (fun y => hb (by rw [y]; exact List.mem_cons_of_mem _ List.mem_cons_self)) q)) hf (Nat.le_refl _) new
    have fr : H s.heap.objs.size = none := I.hok.fresh (Nat.le_refl _)
    refine ⟨.ref s.heap.objs.size, _, I2, rfl, ⟨_, z, rfl, fr, rfl, fun ys hy => by rw [I.tuple_inj hy hq]; exact hz⟩, ⟨⟨x, ?_⟩, st2.1.at fun o q => (sb.2 it (Ne.symm hne)).trans q, hne⟩, fun b hb => ?_⟩
    · rw [show (((i + 1 : Nat) : Int)) = (i : Int) + 1 by omega]
      exact he3
    · have lt : b < s.heap.objs.size := by
        rcases two_of hb with rfl | rfl
        · exact s1
        · exact s2
      rw [upd_ne (Nat.ne_of_lt lt)]
      exact (hf b hb).1
  done := by
    intro X hP hw hK hc i pins s σ H E I hf st hg
    subst hP hw hK
    obtain ⟨⟨old, he⟩, hit, hne⟩ := st
    obtain ⟨zs, hq, hz⟩ := hg
    obtain ⟨its, rv, pl, _⟩ := I.tuple hq
    have lis : s.heap.IsTuple a its.toArray := pl
    have hl := rv.length
    have ia : a ≠ it := fun z => by
      obtain ⟨o, ho, hcl, _⟩ := lis
      obtain ⟨o2, ho2, hcl2, _⟩ := hit
      rw [z, ho2] at ho
      cases ho
      rw [hcl2] at hcl
      injection hcl with q
      exact absurd q (by decide)
    obtain ⟨f0, f1, f2, f3, f4, f5⟩ := hf it (List.mem_cons_of_mem _ List.mem_cons_self)
    have ei : i = its.toArray.size := by
      rw [List.size_toArray]
      omega
    rw [ei] at hit
    exact wpAny_pyNext_enum_endD (Draws.tuple (A := X.A.in1) (show X.A.in1.handled = none from I.ok.hd hc) it a ia its.toArray) he ⟨hit, lis⟩ fun h2 eb => ⟨rfl, I.turned (t' := s.toks) (fun b o hb q => eb b o hb q) f0 f1 f3 f4 f5⟩
  self := fun A i s Q E st h => by
    obtain ⟨⟨_, he⟩, _⟩ := st
    exact wpAny_pyIter_enum he h
def iEnumT (K : PySem.W.Frag) (ta : TA) : TI := fun σ H R => ta σ H fun vs H1 => ∃ a xs, vs = [.ref a] ∧ SqT K H1 a xs ∧ R (It0 K a) H1
theorem pi_enumT {X : Cx} {e : Expr} {ta : TA} {p pos tpos : Pos} {elts : List Expr} {kk : Nat} (hg : Gl X "enumerate") (hm : X.mg "enumerate" = none) (ha : PA X [e] ta) (hs : starEach [e] X.env = [(false, eval e X.env)] := by rfl) :
    PI X (.Tuple elts kk tpos) (.Call (.Name "enumerate" p) [e] [] pos) (iEnumT X.K ta) := by
  refine ⟨fun pins s σ H R I h => ?_⟩
  refine Call_ (ld_blt I hg hm boot_enumerate (PyProof.Rows.callWith_type1 (thn (ha.run pos pins s σ H _ I h) fun us s1 ⟨vs, H1, I1, r1, q1⟩ => ?_) hs rfl))
  obtain ⟨a, xs, ex, hq, q⟩ := q1
  subst ex
  cases r1 with
  | cons r rr =>
    cases rr
    cases r
    obtain ⟨its, rv, p', hz⟩ := I1.tuple hq
    refine call_enumT (show s1.heap.IsTuple a its.toArray from p') fun h' he hit hsz hk => wpAny_pyIter_enum he ?_
    have I2 : Inv X pins σ H1 { s1 with heap := h' } := I1.kept (t' := s1.toks) hk
    refine ⟨s1.heap.objs.size + 1, [s1.heap.objs.size + 1, s1.heap.objs.size], _, _, H1, rfl, I2, turn0 a (s1.heap.objs.size + 1) s1.heap.objs.size, ⟨⟨.none, he⟩, hit, Nat.succ_ne_self _⟩, fun b hb => ?_, q⟩
    have lb : s1.heap.objs.size ≤ b := by
      rcases two_of hb with z | z
      · rw [z]
        exact Nat.le_add_right _ _
      · rw [z]
        exact Nat.le_refl _
    exact I1.fpOk lb (I1.hok.fresh lb)
/-- what a turn gives -/
theorem walk_enumT {K : PySem.W.Frag} {a : Addr} {xs : List V} : Walk (It0 K a) xs.length (fun H => SqT K H a xs) (fun i H v H' => ∃ (p : Addr) (z : V), v = .ref p ∧ H p = none ∧ H' = upd H p (.tup [.int (i : Nat), z]) ∧ xs[i]? = some z) := by
  refine ⟨fun i _ hi q => ⟨xs, xs[i], q, by simp [hi]⟩, fun _ q => ⟨xs, q, rfl⟩, fun i H v H' _ q y => ?_⟩
  obtain ⟨T, x, h1, h2, h3, h4⟩ := y
  exact ⟨T, x, h1, h2, h3, h4 xs q⟩
end EnT

set_option Elab.async false
set_option linter.all false
set_option maxRecDepth 100000
set_option maxHeartbeats 4000000
/-! A fire found place by place, the earliest first. -/
namespace FP
open PySem FD
structure DInv (F : Fire) (f : Str → Option Int) (W : List (Int × Str)) : Prop where
  so : ∀ p t, f p = some t → Reach F p t
  ws : ∀ e ∈ W, ahead (F.stop e.2) e.1 = true → Reach F e.2 e.1
  st : ∀ p t, (p, t) ∈ F.st → ahead (F.stop p) t = true → (∃ s, f p = some s ∧ s ≤ t) ∨ (t, p) ∈ W
  lk : ∀ l ∈ F.ls, ∀ t t', f l.o = some t → thr F.ws l.row t = some t' → ahead (F.stop l.t) t' = true → (∃ s, f l.t = some s ∧ s ≤ t') ∨ (t', l.t) ∈ W
  od : ∀ p s, f p = some s → ∀ e ∈ W, s ≤ e.1
theorem DInv.start {F : Fire} {W : List (Int × Str)} (h : ∀ e, e ∈ W ↔ (e.2, e.1) ∈ F.st) : DInv F (fun _ => none) W where
  so := fun p t h => by cases h
  ws := fun e he a => .start ((h e).mp he) a
  st := fun p t hp _ => .inr ((h (t, p)).mpr hp)
  lk := fun l _ t t' h => by cases h
  od := fun p s h => by cases h
theorem DInv.done {F : Fire} {f : Str → Option Int} (h : DInv F f []) : IsFire F f where
  sound := h.so
  start := fun p t hp a => (h.st p t hp a).elim id fun z => by cases z
  step := fun l hl t t' e1 e2 e3 => (h.lk l hl t t' e1 e2 e3).elim id fun z => by cases z
theorem DInv.skip {F : Fire} {f : Str → Option Int} {W W' : List (Int × Str)} {t : Int} {p : Str} (h : DInv F f W) (m : (t, p) ∈ W) (a : ∀ e ∈ W, e = (t, p) ∨ e ∈ W') (b : ∀ e ∈ W', e ∈ W) (c : (f p).isSome = true ∨ ahead (F.stop p) t = false) : DInv F f W' where
  so := h.so
  ws := fun e he => h.ws e (b e he)
  st := fun q u hq au => by
    rcases h.st q u hq au with z | z
    · exact .inl z
    · rcases a _ z with e | e
      · cases e
        rcases c with c | c
        · obtain ⟨s, hs⟩ := Option.isSome_iff_exists.mp c
          exact .inl ⟨s, hs, h.od _ _ hs _ m⟩
        · rw [c] at au; cases au
      · exact .inr e
  lk := fun l hl u u' e1 e2 e3 => by
    rcases h.lk l hl u u' e1 e2 e3 with z | z
    · exact .inl z
    · rcases a _ z with e | e
      · have e4 : l.t = p := congrArg Prod.snd e
        have e5 : u' = t := congrArg Prod.fst e
        rw [e4] at e3 ⊢
        rw [e5] at e3 ⊢
        rcases c with c | c
        · obtain ⟨s, hs⟩ := Option.isSome_iff_exists.mp c
          exact .inl ⟨s, hs, h.od _ _ hs _ m⟩
        · rw [c] at e3; cases e3
      · exact .inr e
  od := fun q s hs e he => h.od q s hs e (b e he)
theorem DInv.find {F : Fire} {f : Str → Option Int} {W W' W2 : List (Int × Str)} {t : Int} {p : Str} (rows : ∀ l ∈ F.ls, RowOk l.row) (h : DInv F f W) (m : (t, p) ∈ W) (a : ∀ e ∈ W, e = (t, p) ∨ e ∈ W') (b : ∀ e ∈ W', e ∈ W) (least : ∀ e ∈ W, t ≤ e.1) (n : f p = none) (ah : ahead (F.stop p) t = true)
    (x : ∀ e ∈ W2, e ∈ W' ∨ ∃ l ∈ F.ls, l.o = p ∧ thr F.ws l.row t = some e.1 ∧ e.2 = l.t) (y : ∀ e ∈ W', e ∈ W2) (z : ∀ l ∈ F.ls, l.o = p → ∀ t', thr F.ws l.row t = some t' → (t', l.t) ∈ W2) : DInv F (upd1 f p t) W2 := by
  have same : ∀ {q s}, f q = some s → upd1 f p t q = some s := fun {q s} e => by
    unfold upd1
    rw [if_neg (fun z => by rw [z, n] at e; cases e)]
    exact e
  have was : ∀ {q s}, upd1 f p t q = some s → (q = p ∧ s = t) ∨ f q = some s := fun {q s} e => by
    unfold upd1 at e
    split at e
    · rename_i z
      cases e
      exact .inl ⟨z, rfl⟩
    · exact .inr e
  have rp : Reach F p t := h.ws _ m ah
  have at' : ∀ {u : Int}, (∃ s, f p = some s ∧ s ≤ u) ∨ t ≤ u → ∃ s, upd1 f p t p = some s ∧ s ≤ u := fun {u} e => by
    rcases e with ⟨s, e, _⟩ | e
    · rw [n] at e; cases e
    · exact ⟨t, if_pos rfl, e⟩
  refine ⟨fun q s e => ?_, fun e he ae => ?_, fun q u hq au => ?_, fun l hl u u' e1 e2 e3 => ?_, fun q s e w hw => ?_⟩
  · rcases was e with ⟨rfl, rfl⟩ | e
    · exact rp
    · exact h.so q s e
  · rcases x e he with e1 | ⟨l, hl, e1, e2, e3⟩
    · exact h.ws e (b e e1) ae
    · rw [e3] at ae ⊢
      exact .step (by rw [e1]; exact rp) hl e2 ae
  · rcases h.st q u hq au with ⟨s, e1, e2⟩ | e
    · exact .inl ⟨s, same e1, e2⟩
    · rcases a _ e with e1 | e1
      · cases e1
        exact .inl ⟨t, if_pos rfl, Int.le_refl _⟩
      · exact .inr (y _ e1)
  · rcases was e1 with ⟨g1, g2⟩ | e1
    · subst g2
      exact .inr (z l hl g1 u' e2)
    · rcases h.lk l hl u u' e1 e2 e3 with ⟨s, e4, e5⟩ | e
      · exact .inl ⟨s, same e4, e5⟩
      · rcases a _ e with e4 | e4
        · have e5 : l.t = p := congrArg Prod.snd e4
          have e6 : u' = t := congrArg Prod.fst e4
          rw [e5, e6]
          exact .inl ⟨t, if_pos rfl, Int.le_refl _⟩
        · exact .inr (y _ e4)
  · have low : t ≤ w.1 := by
      rcases x w hw with e1 | ⟨l, hl, e1, e2, e3⟩
      · exact least _ (b _ e1)
      · have := thr_gt (rows l hl) e2
        omega
    rcases was e with ⟨_, rfl⟩ | e
    · exact low
    · have := h.od q s e _ m
      have : s ≤ t := this
      omega
/-! ### rows in the heap -/
def kOf (r : Int × Str × Str) : HeapM.Key := (r.1, r.2.1.cps.toList, r.2.2.cps.toList)
theorem heapA_congr {k k' : Addr → HeapM.Key} {ts : List Addr} (e : ∀ b ∈ ts, k b = k' b) (h : HeapM.HeapA k ts) : HeapM.HeapA k' ts := by
  have at' : ∀ i, i < ts.length → k (ts.getD i 0) = k' (ts.getD i 0) := fun i hi => by
    rw [List.getD_eq_getElem?_getD, List.getElem?_eq_getElem hi]
    exact e _ (List.getElem_mem hi)
  intro i h0 hi ht
  have hp : HeapP.par i < ts.length := by unfold HeapP.par; omega
  have z := h i h0 hi ht
  show HeapM.keyLt (k' _) (k' _) = false
  rw [← at' i hi, ← at' _ hp]
  exact z
theorem key_le {a b : Int × Str × Str} (h : HeapM.keyLt (kOf b) (kOf a) = false) : a.1 ≤ b.1 := by
  unfold HeapM.keyLt at h
  split at h
  · rename_i e
    have e : b.1 = a.1 := e
    omega
  · have := of_decide_eq_false h
    have : ¬ b.1 < a.1 := this
    omega
end FP

set_option Elab.async false
set_option linter.all false
set_option maxRecDepth 100000
set_option maxHeartbeats 4000000
/-! One more break. -/
namespace FP
open PySem FD
def brk (F : Fire) (b : Str) (m : Int) : Fire := { F with stop := fun p => if b = p then least (F.stop p) (some m) else F.stop p }
theorem ahead_least (a : Option Int) (m t : Int) : ahead (least a (some m)) t = (ahead a t && decide (t < m)) := by
  cases a with
  | none => show decide (t < m) = (true && decide (t < m)); rw [Bool.true_and]
  | some c =>
    show ahead (if m < c then some m else some c) t = (decide (t < c) && decide (t < m))
    by_cases h : m < c
    · rw [if_pos h]
      show decide (t < m) = _
      by_cases z : t < m
      · rw [decide_eq_true z, decide_eq_true (show t < c by omega)]; rfl
      · rw [decide_eq_false z, Bool.and_false]
    · rw [if_neg h]
      show decide (t < c) = _
      by_cases z : t < c
      · rw [decide_eq_true z, decide_eq_true (show t < m by omega)]; rfl
      · rw [decide_eq_false z, Bool.false_and]
theorem brk_at (F : Fire) (b : Str) (m t : Int) : ahead ((brk F b m).stop b) t = (ahead (F.stop b) t && decide (t < m)) := by
  show ahead (if b = b then least (F.stop b) (some m) else F.stop b) t = _
  rw [if_pos rfl, ahead_least]
theorem brk_ne (F : Fire) {b p : Str} (m : Int) (h : p ≠ b) : (brk F b m).stop p = F.stop p := if_neg fun z => h z.symm
theorem brk_ahead {F : Fire} {b p : Str} {m t : Int} (h : ahead ((brk F b m).stop p) t = true) : ahead (F.stop p) t = true ∧ (p = b → t < m) := by
  by_cases c : p = b
  · subst c
    rw [brk_at, Bool.and_eq_true] at h
    exact ⟨h.1, fun _ => of_decide_eq_true h.2⟩
  · rw [brk_ne F m c] at h
    exact ⟨h, fun z => absurd z c⟩
theorem ahead_brk {F : Fire} {b p : Str} {m t : Int} (h : ahead (F.stop p) t = true) (l : p = b → t < m) : ahead ((brk F b m).stop p) t = true := by
  by_cases c : p = b
  · subst c
    rw [brk_at, h, decide_eq_true (l rfl)]
    rfl
  · rw [brk_ne F m c]
    exact h
theorem brk_ok {F : Fire} {ps : List Str} (ok : Ok F ps) (b : Str) (m : Int) : Ok (brk F b m) ps := ⟨ok.nn, ok.rows, ok.sp, ok.ends⟩
theorem brk_reach {F : Fire} {b p : Str} {m t : Int} (h : Reach (brk F b m) p t) : Reach F p t := by
  induction h with
  | start a c => exact .start a (brk_ahead c).1
  | step _ hl ht ha ih => exact .step ih hl ht (brk_ahead ha).1
/-- at its first minute a break keeps a place as one from the beginning -/
theorem brk_zero {F : Fire} {b p : Str} {m t : Int} (hm : first F b = some m) (h : Reach (brk F b m) p t) : Reach (brk F b 0) p t := by
  have never : ∀ {t : Int}, Reach F b t → t < m → False := fun r l => by
    have := (first_some hm).2 _ r
    omega
  induction h with
  | start a c =>
    obtain ⟨c1, c2⟩ := brk_ahead c
    refine .start a (ahead_brk c1 fun z => ?_)
    exact (never (by rw [← z]; exact .start a c1) (c2 z)).elim
  | step r hl ht ha ih =>
    obtain ⟨c1, c2⟩ := brk_ahead ha
    refine .step ih hl ht (ahead_brk c1 fun z => ?_)
    exact (never (by rw [← z]; exact .step (brk_reach r) hl ht c1) (c2 z)).elim
/-- and a minute later it keeps none -/
theorem brk_late {F : Fire} {ps : List Str} (ok : Ok F ps) {b : Str} {m : Int} (hm : first F b = some m) (p : Str) : first (brk F b (m + 1)) p = first F p := by
  have okb := brk_ok ok b (m + 1)
  have early : ∀ {p : Str} {t : Int}, Reach F p t → t ≤ m → Reach (brk F b (m + 1)) p t := fun {p t} r => by
    induction r with
    | start a c => exact fun l => .start a (ahead_brk c fun _ => by omega)
    | @step l t t' _ hl ht ha ih =>
      intro le
      have := thr_gt (ok.rows l hl) ht
      exact .step (ih (by omega)) hl ht (ahead_brk ha fun _ => by omega)
  have rb : Reach (brk F b (m + 1)) b m := early (first_some hm).1 (Int.le_refl _)
  have is : IsFire F (first (brk F b (m + 1))) := by
    refine ⟨fun p t h => brk_reach (first_some h).1, fun p t hp a => ?_, fun l hl t t' e1 e2 e3 => ?_⟩
    · by_cases c : p = b
      · subst c
        obtain ⟨s, e, le⟩ := first_le okb rb
        have := (first_some hm).2 t (.start hp a)
        exact ⟨s, e, by omega⟩
      · exact first_le okb (.start hp (ahead_brk a fun z => absurd z c))
    · by_cases c : l.t = b
      · obtain ⟨s, e, le⟩ := first_le okb rb
        have := (first_some hm).2 t' (by rw [← c]; exact .step (brk_reach (first_some e1).1) hl e2 e3)
        rw [c]
        exact ⟨s, e, by omega⟩
      · exact first_le okb (.step (first_some e1).1 hl e2 (ahead_brk e3 fun z => absurd z c))
  exact is_first ok is p
/-- a break of a place that does not burn changes nothing -/
theorem brk_none {F : Fire} {ps : List Str} (ok : Ok F ps) {b : Str} (m : Int) (hn : first F b = none) (p : Str) : first (brk F b m) p = first F p := by
  have okb := brk_ok ok b m
  have no : ∀ {t : Int}, Reach F b t → False := fun r => by
    obtain ⟨s, e, _⟩ := first_le ok r
    rw [hn] at e
    cases e
  have is : IsFire F (first (brk F b m)) := by
    refine ⟨fun p t h => brk_reach (first_some h).1, fun p t hp a => ?_, fun l hl t t' e1 e2 e3 => ?_⟩
    · by_cases c : p = b
      · exact (no (by rw [← c]; exact .start hp a)).elim
      · exact first_le okb (.start hp (ahead_brk a fun z => absurd z c))
    · by_cases c : l.t = b
      · exact (no (by rw [← c]; exact .step (brk_reach (first_some e1).1) hl e2 e3)).elim
      · exact first_le okb (.step (first_some e1).1 hl e2 (ahead_brk e3 fun z => absurd z c))
  exact is_first ok is p
end FP

set_option Elab.async false
set_option linter.all false
set_option maxRecDepth 100000
set_option maxHeartbeats 4000000
/-! One fire ahead of another. -/
namespace FP
open PySem FD
def RowLe (a b : List (Option Int)) : Prop := ∀ w y, num b w = some y → ∃ x, num a w = some x ∧ x ≤ y
theorem RowLe.refl (a : List (Option Int)) : RowLe a a := fun _ y h => ⟨y, h, Int.le_refl _⟩
theorem thr_row {ws : Wt} {a b : List (Option Int)} {m y : Int} (h : RowLe a b) (e : thr ws b m = some y) : ∃ x, thr ws a m = some x ∧ x ≤ y := by
  obtain ⟨s, hs, c⟩ := thr_mem e
  unfold cand at c
  obtain ⟨n, hn, rfl⟩ := Option.map_eq_some_iff.mp c
  obtain ⟨x, hx, le⟩ := h _ _ hn
  obtain ⟨t, h1, h2⟩ := thr_le (row := a) (x := s + x) hs (by unfold cand; rw [hx]; rfl)
  exact ⟨t, h1, by omega⟩
/-- F is nowhere behind G -/
structure Faster (F G : Fire) : Prop where
  ws : F.ws = G.ws
  st : ∀ r ∈ G.st, r ∈ F.st
  ls : ∀ l ∈ G.ls, ∃ k ∈ F.ls, k.o = l.o ∧ k.t = l.t ∧ RowLe k.row l.row
  stop : ∀ p t, ahead (G.stop p) t = true → ahead (F.stop p) t = true
theorem Faster.reach {F G : Fire} (h : Faster F G) {p : Str} {t : Int} (r : Reach G p t) : ∃ s, s ≤ t ∧ Reach F p s := by
  induction r with
  | start a c => exact ⟨_, Int.le_refl _, .start (h.st _ a) (h.stop _ _ c)⟩
  | @step l t t' _ hl ht ha ih =>
    obtain ⟨s, le, rs⟩ := ih
    obtain ⟨k, hk, e1, e2, rl⟩ := h.ls l hl
    rw [← h.ws] at ht
    obtain ⟨y, hy, ly⟩ := thr_mono le ht
    obtain ⟨x, hx, lx⟩ := thr_row rl hy
    refine ⟨x, Int.le_trans lx ly, ?_⟩
    rw [← e1] at rs
    rw [← e2]
    exact .step rs hk hx (by rw [e2]; exact ahead_mono (Int.le_trans lx ly) (h.stop _ _ ha))
theorem Faster.first {F G : Fire} {ps : List Str} (ok : Ok F ps) (h : Faster F G) {p : Str} {t : Int} (e : first G p = some t) : ∃ s, first F p = some s ∧ s ≤ t := by
  obtain ⟨s, le, r⟩ := h.reach (first_some e).1
  obtain ⟨u, eu, lu⟩ := first_le ok r
  exact ⟨u, eu, Int.le_trans lu le⟩
theorem Faster.none {F G : Fire} {ps : List Str} (ok : Ok F ps) (h : Faster F G) {p : Str} (e : FP.first F p = none) : FP.first G p = none := by
  cases q : FP.first G p with
  | none => rfl
  | some t =>
    obtain ⟨s, es, _⟩ := h.first ok q
    rw [e] at es
    cases es
theorem Faster.brk {F G : Fire} (h : Faster F G) {b : Str} {m m' : Int} (le : m' ≤ m) : Faster (FP.brk F b m) (FP.brk G b m') := by
  refine ⟨h.ws, h.st, h.ls, fun p t a => ?_⟩
  obtain ⟨a1, a2⟩ := brk_ahead a
  exact ahead_brk (h.stop p t a1) fun z => by have := a2 z; omega
theorem Faster.refl (F : Fire) : Faster F F := ⟨rfl, fun _ h => h, fun l hl => ⟨l, hl, rfl, rfl, RowLe.refl _⟩, fun _ _ h => h⟩
end FP

set_option Elab.async false
set_option linter.all false
set_option maxRecDepth 100000
set_option maxHeartbeats 4000000
namespace FP
open PySem
/-- F is nowhere behind G, whose starts may come later -/
structure FasterS (F G : Fire) : Prop where
  ws : F.ws = G.ws
  st : ∀ r ∈ G.st, ∃ m, (r.1, m) ∈ F.st ∧ m ≤ r.2
  ls : ∀ l ∈ G.ls, ∃ k ∈ F.ls, k.o = l.o ∧ k.t = l.t ∧ RowLe k.row l.row
  stop : ∀ p t, ahead (G.stop p) t = true → ahead (F.stop p) t = true
theorem FasterS.refl (F : Fire) : FasterS F F := ⟨rfl, fun r h => ⟨r.2, h, Int.le_refl _⟩, fun l hl => ⟨l, hl, rfl, rfl, RowLe.refl _⟩, fun _ _ h => h⟩
theorem FasterS.reach {F G : Fire} (h : FasterS F G) {p : Str} {t : Int} (r : Reach G p t) : ∃ s, s ≤ t ∧ Reach F p s := by
  induction r with
  | start a c =>
    obtain ⟨m, hm, le⟩ := h.st _ a
    exact ⟨m, le, .start hm (ahead_mono le (h.stop _ _ c))⟩
  | @step l t t' _ hl ht ha ih =>
    obtain ⟨s, le, rs⟩ := ih
    obtain ⟨k, hk, e1, e2, rl⟩ := h.ls l hl
    rw [← h.ws] at ht
    obtain ⟨y, hy, ly⟩ := thr_mono le ht
    obtain ⟨x, hx, lx⟩ := thr_row rl hy
    refine ⟨x, Int.le_trans lx ly, ?_⟩
    rw [← e1] at rs
    rw [← e2]
    exact .step rs hk hx (by rw [e2]; exact ahead_mono (Int.le_trans lx ly) (h.stop _ _ ha))
theorem FasterS.first {F G : Fire} {ps : List Str} (ok : Ok F ps) (h : FasterS F G) {p : Str} {t : Int} (e : first G p = some t) : ∃ s, first F p = some s ∧ s ≤ t := by
  obtain ⟨s, le, r⟩ := h.reach (first_some e).1
  obtain ⟨u, eu, lu⟩ := first_le ok r
  exact ⟨u, eu, Int.le_trans lu le⟩
theorem reach_ahead {F : Fire} {p : Str} {t : Int} (r : Reach F p t) : ahead (F.stop p) t = true := by
  cases r with
  | start a c => exact c
  | step _ _ _ c => exact c
/-- a break behind the first minute of its place changes nothing -/
theorem brk_behind {F : Fire} {ps : List Str} (ok : Ok F ps) {b : Str} {m m' : Int} (hm : first F b = some m) (lt : m < m') (p : Str) : first (brk F b m') p = first F p := by
  have up : Faster F (brk F b m') := ⟨rfl, fun _ h => h, fun l hl => ⟨l, hl, rfl, rfl, RowLe.refl _⟩, fun _ _ h => (brk_ahead h).1⟩
  have dn : Faster (brk F b m') (brk F b (m + 1)) := (Faster.refl F).brk (by omega)
  have okb := brk_ok ok b m'
  cases h : first F p with
  | none => exact up.none ok h
  | some t =>
    have e := brk_late ok hm p
    rw [h] at e
    obtain ⟨s, hs, ls⟩ := dn.first okb e
    obtain ⟨u, hu, lu⟩ := up.first ok hs
    rw [h] at hu
    cases hu
    rw [hs, show s = t by omega]
/-- one no later than that keeps it -/
theorem brk_keeps {F : Fire} {ps : List Str} (ok : Ok F ps) {b : Str} {m m' : Int} (hm : first F b = some m) (le : m' ≤ m) : first (brk F b m') b = none := by
  cases h : first (brk F b m') b with
  | none => rfl
  | some t =>
    have r := (first_some h).1
    have a := (brk_ahead (reach_ahead r)).2 rfl
    have := (first_some hm).2 t (brk_reach r)
    omega
end FP

set_option Elab.async false
set_option linter.all false
set_option maxRecDepth 100000
set_option maxHeartbeats 4000000
/-! xs[::-1] of a list -/
namespace RevS
open PySem PySem.Spec PyProof.Rows L2
variable {X : Cx} {e st : Expr} {te ts : TE} {pos p2 : Pos}
def tRev (K : PySem.W.Frag) (te ts : TE) : TE := fun σ H Q => te σ H fun x H1 => ts σ H1 fun y H2 => ∃ a xs, x = .ref a ∧ y = .int (-1) ∧ SqL K H2 a xs ∧ ∀ p, H2 p = none → Q (.ref p) (upd H2 p (.lst xs.reverse))
theorem vals_rev {xs : List V} {us : List Value} (h : Vals xs us) : Vals xs.reverse us.reverse := by
  induction h with
  | nil => exact .nil
  | cons a b ih =>
    rw [List.reverse_cons, List.reverse_cons]
    exact ih.append (.cons a .nil)
theorem pe_rev (he : PE X e te) (hs : PE X st ts) : PE X (.Subscript e (.Slice none none (some st) p2) pos) (tRev X.K te ts) := by
  refine ⟨fun pins s σ H Q I h => ?_⟩
  refine Subscript_ (thn (he.run pins s σ H _ I h) fun v s1 ⟨x, H1, I1, r1, q1⟩ => ?_)
  refine wpAny_Slice ?_
  rw [evalPart_none]
  refine wpAny_pure ?_
  refine wpAny_pure ?_
  rw [evalPart_some]
  refine thn (hs.run pins s1 σ H1 _ I1 q1) fun vs s2 ⟨y, H2, I2, r2, q2⟩ => ?_
  obtain ⟨a, xs, rfl, rfl, hq, q⟩ := q2
  obtain ⟨t, rfl⟩ := r2
  cases r1
  have I4 : Inv X pins σ H2 { s2 with heap := s2.heap.push { cls := .type "slice", data := .fields #[.none, .none, .int (-1) t] } } := I2.kept (t' := s2.toks) fun b ob q => Heap.get?_push_of_some _ q
  obtain ⟨its, r, ht, hz⟩ := I4.list hq
  have hlen := r.length
  show wpAny (model X.prog X.w) X.A (subscriptTail e (.Slice none none (some st) p2) (.ref a) (.ref s2.heap.objs.size)) (EP X pins σ Q) X.xe { s2 with heap := s2.heap.push { cls := .type "slice", data := .fields #[.none, .none, .int (-1) t] } }
  refine tail_any (ops := [.ref a, .ref s2.heap.objs.size]) ht.isList.typeIs slot_list_getitem.lookup ?_ (by with_unfolding_all rfl)
  refine wpAny_getItem_list_slice ht.isList (Heap.IsSliceOf.new ..) .none .none (.int (-1) t) (by decide) ?_ (by rw [List.size_toArray] <;> omega)
  rw [PySem.W.krv_pick]
  generalize hh : s2.heap.push { cls := .type "slice", data := .fields #[.none, .none, .int (-1) t] } = h3 at *
  refine ⟨.ref h3.objs.size, _, I4.laid (t' := s2.toks) (o := .lst xs.reverse) (fun b ob q => Heap.get?_push_of_some _ q) (Nat.le_refl _) ?_, rfl, q _ (I4.hok.fresh (Nat.le_refl _))⟩
  exact ⟨by rw [List.length_reverse]; exact hz, _, 0, vals_rev r, Heap.get?_push_size _ rfl⟩
end RevS

set_option Elab.async false
set_option linter.all false
set_option maxRecDepth 100000
set_option maxHeartbeats 4000000
/-! t + u as a tuple whose object is known. -/
namespace TupX
open PySem PySem.Spec PyProof.Rows L2
def rCatF (K : PySem.W.Frag) : R2 := fun x y H Q => ∃ a b xs ys, x = .ref a ∧ y = .ref b ∧ SqT K H a xs ∧ SqT K H b ys ∧ xs ≠ [] ∧ ys ≠ [] ∧ xs.length + ys.length ≤ sizeLine ∧ ∀ p H', H p = none → Evl.Ex H H' → Bare H' p (xs ++ ys) → Q (.ref p) H'
theorem op_catF {X : Cx} : OpR X (binaryOp .Add) (rCatF X.K) := by
  intro pins s σ H x y v u Q I rx ry h
  obtain ⟨a, b, xs, ys, rfl, rfl, ha, hb, hx, hy, hz, q2⟩ := h
  cases rx
  cases ry
  obtain ⟨its, r1, p1, _⟩ := I.tuple ha
  obtain ⟨its2, r2, p2, _⟩ := I.tuple hb
  refine HT.cat_tup p1 p2 (fun z => hx (r1.nil_iff.mp z)) (fun z => absurd (r2.nil_iff.mp z) hy) (fun z => ?_) (by rw [← r1.length, ← r2.length]; exact hz)
  have fr : H s.heap.objs.size = none := I.hok.fresh (Nat.le_refl _)
  refine ⟨.ref s.heap.objs.size, upd H s.heap.objs.size (.frz { cls := .type "tuple", data := .seq (its ++ its2).toArray } (.tup (xs ++ ys))), I.laid (t' := s.toks) (fun b ob q => Heap.get?_push_of_some _ q) (Nat.le_refl _) ⟨?_, by rw [List.length_append]; exact hz, _, r1.append r2, IsTup.new _ _⟩, rfl, q2 _ _ fr (Evl.Ex.new fr) ⟨_, upd_same, rfl, rfl⟩⟩
  exact Heap.get?_push_size _ rfl
end TupX

set_option Elab.async false
set_option linter.all false
set_option maxRecDepth 100000
set_option maxHeartbeats 4000000
namespace EV
open PySem PySem.Spec PyProof.Rows L2 EvS
def top (i : Nat) : Stmt := PySem.Challenge.pw_everyfire_k21_check_paper.main.body.getD i (.Pass ⟨0, 0, 0, 0⟩)
abbrev s_check_winds : Stmt := top 11
abbrev s_check_rows : Stmt := top 12
abbrev s_spells_of : Stmt := top 13
abbrev s_ask : Stmt := top 15
abbrev s_ask_all : Stmt := top 16
abbrev s_least_minutes : Stmt := top 17
abbrev s_Question_init : Stmt := inClass (top 18) 0
abbrev s_Question_is_ahead : Stmt := inClass (top 18) 3
abbrev s_Question_through : Stmt := inClass (top 18) 4
abbrev s_Question_catches : Stmt := inClass (top 18) 5
abbrev s_Question_chain_to : Stmt := inClass (top 18) 7
abbrev s_least_numbers : Stmt := top 23
abbrev s_most_numbers : Stmt := top 24
abbrev s_Paper_init : Stmt := inClass (top 26) 0
abbrev s_paper : Stmt := top 27
abbrev s__labels_of : Stmt := top 28
abbrev s_check_paper : Stmt := top 29
abbrev s__keep_off : Stmt := top 30
abbrev s__hold_starts : Stmt := top 31
abbrev s__hold_links : Stmt := top 32
abbrev s__holds : Stmt := top 33
abbrev s__comes_to : Stmt := top 34
abbrev s__is_beginning : Stmt := top 35
abbrev s__follows : Stmt := top 36
abbrev s_is_name : Stmt := top 46
abbrev s__check_count : Stmt := top 47
abbrev s__check_names : Stmt := top 48
abbrev s__check_ends : Stmt := top 49
abbrev s__as_bounds : Stmt := top 50
abbrev s__as_link : Stmt := top 51
abbrev s__as_path : Stmt := top 52
abbrev s__check_single_paths : Stmt := top 53
abbrev s_init : Stmt := inClass (top 54) 0
abbrev s_link_names : Stmt := inClass (top 54) 1
abbrev s_check_place : Stmt := inClass (top 54) 2
abbrev s_check_wind : Stmt := inClass (top 54) 3
abbrev s_link : Stmt := inClass (top 54) 4
abbrev s__law_row : Stmt := top 56
abbrev s__law_numbers : Stmt := top 57
abbrev s__law_pick : Stmt := top 58
abbrev s__law_names : Stmt := top 59
abbrev s__law_parts : Stmt := top 60
abbrev s__law_weather : Stmt := top 61
abbrev s__law_wind : Stmt := top 62
abbrev s__law_caught : Stmt := top 63
abbrev s__law_rows : Stmt := top 65
abbrev s__law_land : Stmt := top 66
abbrev s__law_case : Stmt := top 67
abbrev s__law_ends : Stmt := top 68
abbrev s__law_ahead : Stmt := top 69
abbrev s__law_is_chain : Stmt := top 70
abbrev s__law_bounds : Stmt := top 71
abbrev s__law_is_right : Stmt := top 72
abbrev s__law_spoilt : Stmt := top 73
abbrev s_law : Stmt := top 74
theorem sc_check_winds : FnScope ["land", "weather", "_", "wind"] ["land", "weather"] (defScope s_check_winds) := ⟨rfl, rfl, rfl, by decide +kernel, rfl, by decide +kernel, by decide +kernel⟩
theorem sc_check_rows : FnScope ["weather", "minutes", "before", "behind", "minute", "_"] ["weather"] (defScope s_check_rows) := ⟨rfl, rfl, rfl, by decide +kernel, rfl, by decide +kernel, by decide +kernel⟩
theorem sc_spells_of : FnScope ["land", "weather", "ends", "minute", "_", "begin", "wind", "end"] ["land", "weather"] (defScope s_spells_of) := ⟨rfl, rfl, rfl, by decide +kernel, rfl, by decide +kernel, by decide +kernel⟩
theorem sc_ask : FnScope ["land", "weather", "starts", "breaks", "places"] ["land", "weather", "starts", "breaks", "places"] (defScope s_ask) := ⟨rfl, rfl, rfl, by decide +kernel, rfl, by decide +kernel, by decide +kernel⟩
theorem sc_ask_all : FnScope ["land", "weathers", "starts", "breaks", "places", "weather", "place", "_"] ["land", "weathers", "starts", "breaks", "places"] (defScope s_ask_all) := ⟨rfl, rfl, rfl, by decide +kernel, rfl, by decide +kernel, by decide +kernel⟩
theorem sc_least_minutes : FnScope ["rows", "least", "place", "minute"] ["rows"] (defScope s_least_minutes) := ⟨rfl, rfl, rfl, by decide +kernel, rfl, by decide +kernel, by decide +kernel⟩
theorem sc_Question_init : FnScope ["self", "land", "weather", "starts", "breaks", "number", "link", "start", "told", "place"] ["self", "land", "weather", "starts", "breaks"] (defScope s_Question_init) := ⟨rfl, rfl, rfl, by decide +kernel, rfl, by decide +kernel, by decide +kernel⟩
theorem sc_Question_is_ahead : FnScope ["self", "minute", "place"] ["self", "minute", "place"] (defScope s_Question_is_ahead) := ⟨rfl, rfl, rfl, by decide +kernel, rfl, by decide +kernel, by decide +kernel⟩
theorem sc_Question_through : FnScope ["self", "row", "minute", "first", "begin", "end", "wind", "passed"] ["self", "row", "minute"] (defScope s_Question_through) := ⟨rfl, rfl, rfl, by decide +kernel, rfl, by decide +kernel, by decide +kernel⟩
theorem sc_Question_catches : FnScope ["self", "numbers", "waiting", "found", "minute", "place", "name", "number", "link", "passed"] ["self", "numbers"] (defScope s_Question_catches) := ⟨rfl, rfl, rfl, by decide +kernel, rfl, by decide +kernel, by decide +kernel⟩
theorem sc_Question_chain_to : FnScope ["self", "caught", "place", "rows", "link"] ["self", "caught", "place"] (defScope s_Question_chain_to) := ⟨rfl, rfl, rfl, by decide +kernel, rfl, by decide +kernel, by decide +kernel⟩
theorem sc_least_numbers : FnScope ["land", "link", "bounds"] ["land"] (defScope s_least_numbers) := ⟨rfl, rfl, rfl, by decide +kernel, rfl, by decide +kernel, by decide +kernel⟩
theorem sc_most_numbers : FnScope ["land", "link", "bounds"] ["land"] (defScope s_most_numbers) := ⟨rfl, rfl, rfl, by decide +kernel, rfl, by decide +kernel, by decide +kernel⟩
theorem sc_Paper_init : FnScope ["self", "word", "labels", "chain", "label", "row"] ["self", "word", "labels", "chain"] (defScope s_Paper_init) := ⟨rfl, rfl, rfl, by decide +kernel, rfl, by decide +kernel, by decide +kernel⟩
theorem sc_paper : FnScope ["land", "weather", "starts", "breaks", "place", "question", "fast", "slow"] ["land", "weather", "starts", "breaks", "place"] (defScope s_paper) := ⟨rfl, rfl, rfl, by decide +kernel, rfl, by decide +kernel, by decide +kernel⟩
theorem sc__labels_of : FnScope ["land", "caught", "place"] ["land", "caught"] (defScope s__labels_of) := ⟨rfl, rfl, rfl, by decide +kernel, rfl, by decide +kernel, by decide +kernel⟩
theorem sc_check_paper : FnScope ["land", "weather", "starts", "breaks", "place", "told", "question", "least", "most"] ["land", "weather", "starts", "breaks", "place", "told"] (defScope s_check_paper) := ⟨rfl, rfl, rfl, by decide +kernel, rfl, by decide +kernel, by decide +kernel⟩
theorem sc__keep_off : FnScope ["question", "numbers", "labels", "place", "bounds", "name", "minute"] ["question", "numbers", "labels", "place"] (defScope s__keep_off) := ⟨rfl, rfl, rfl, by decide +kernel, rfl, by decide +kernel, by decide +kernel⟩
theorem sc__hold_starts : FnScope ["question", "bounds", "place", "minute"] ["question", "bounds"] (defScope s__hold_starts) := ⟨rfl, rfl, rfl, by decide +kernel, rfl, by decide +kernel, by decide +kernel⟩
theorem sc__hold_links : FnScope ["question", "numbers", "bounds", "link", "row", "passed"] ["question", "numbers", "bounds"] (defScope s__hold_links) := ⟨rfl, rfl, rfl, by decide +kernel, rfl, by decide +kernel, by decide +kernel⟩
theorem sc__holds : FnScope ["question", "bounds", "place", "minute"] ["question", "bounds", "place", "minute"] (defScope s__holds) := ⟨rfl, rfl, rfl, by decide +kernel, rfl, by decide +kernel, by decide +kernel⟩
theorem sc__comes_to : FnScope ["question", "numbers", "chain", "place", "_", "minute", "before", "row"] ["question", "numbers", "chain", "place"] (defScope s__comes_to) := ⟨rfl, rfl, rfl, by decide +kernel, rfl, by decide +kernel, by decide +kernel⟩
theorem sc__is_beginning : FnScope ["question", "row", "place", "name", "minute"] ["question", "row"] (defScope s__is_beginning) := ⟨rfl, rfl, rfl, by decide +kernel, rfl, by decide +kernel, by decide +kernel⟩
theorem sc__follows : FnScope ["question", "numbers", "before", "row", "place", "name", "minute", "names", "number"] ["question", "numbers", "before", "row"] (defScope s__follows) := ⟨rfl, rfl, rfl, by decide +kernel, rfl, by decide +kernel, by decide +kernel⟩
theorem sc_is_name : FnScope ["text", "sign"] ["text"] (defScope s_is_name) := ⟨rfl, rfl, rfl, by decide +kernel, rfl, by decide +kernel, by decide +kernel⟩
theorem sc__check_count : FnScope ["sort", "rows", "least", "most"] ["sort", "rows", "least", "most"] (defScope s__check_count) := ⟨rfl, rfl, rfl, by decide +kernel, rfl, by decide +kernel, by decide +kernel⟩
theorem sc__check_names : FnScope ["sort", "names", "name"] ["sort", "names"] (defScope s__check_names) := ⟨rfl, rfl, rfl, by decide +kernel, rfl, by decide +kernel, by decide +kernel⟩
theorem sc__check_ends : FnScope ["sort", "one", "other", "places"] ["sort", "one", "other", "places"] (defScope s__check_ends) := ⟨rfl, rfl, rfl, by decide +kernel, rfl, by decide +kernel, by decide +kernel⟩
theorem sc__as_bounds : FnScope ["bounds", "least", "most"] ["bounds"] (defScope s__as_bounds) := ⟨rfl, rfl, rfl, by decide +kernel, rfl, by decide +kernel, by decide +kernel⟩
theorem sc__as_link : FnScope ["link", "winds", "places", "name", "one", "other", "times", "bounds"] ["link", "winds", "places"] (defScope s__as_link) := ⟨rfl, rfl, rfl, by decide +kernel, rfl, by decide +kernel, by decide +kernel⟩
theorem sc__as_path : FnScope ["path", "places", "one", "other", "minutes"] ["path", "places"] (defScope s__as_path) := ⟨rfl, rfl, rfl, by decide +kernel, rfl, by decide +kernel, by decide +kernel⟩
theorem sc__check_single_paths : FnScope ["paths", "ends", "one", "other", "_"] ["paths"] (defScope s__check_single_paths) := ⟨rfl, rfl, rfl, by decide +kernel, rfl, by decide +kernel, by decide +kernel⟩
theorem sc_init : FnScope ["self", "winds", "places", "links", "paths", "link", "path"] ["self", "winds", "places", "links", "paths"] (defScope s_init) := ⟨rfl, rfl, rfl, by decide +kernel, rfl, by decide +kernel, by decide +kernel⟩
theorem sc_link_names : FnScope ["self", "link"] ["self"] (defScope s_link_names) := ⟨rfl, rfl, rfl, by decide +kernel, rfl, by decide +kernel, by decide +kernel⟩
theorem sc_check_place : FnScope ["self", "place"] ["self", "place"] (defScope s_check_place) := ⟨rfl, rfl, rfl, by decide +kernel, rfl, by decide +kernel, by decide +kernel⟩
theorem sc_check_wind : FnScope ["self", "wind"] ["self", "wind"] (defScope s_check_wind) := ⟨rfl, rfl, rfl, by decide +kernel, rfl, by decide +kernel, by decide +kernel⟩
theorem sc_link : FnScope ["self", "name", "link"] ["self", "name"] (defScope s_link) := ⟨rfl, rfl, rfl, by decide +kernel, rfl, by decide +kernel, by decide +kernel⟩
theorem sc__law_row : FnScope ["cell", "many", "row", "rest", "mixed", "k"] ["cell", "many"] (defScope s__law_row) := ⟨rfl, rfl, rfl, by decide +kernel, rfl, by decide +kernel, by decide +kernel⟩
theorem sc__law_numbers : FnScope ["script", "many", "cells", "each", "numbers", "cell", "number"] ["script", "many"] (defScope s__law_numbers) := ⟨rfl, rfl, rfl, by decide +kernel, rfl, by decide +kernel, by decide +kernel⟩
theorem sc__law_pick : FnScope ["numbers", "at", "most"] ["numbers", "at", "most"] (defScope s__law_pick) := ⟨rfl, rfl, rfl, by decide +kernel, rfl, by decide +kernel, by decide +kernel⟩
theorem sc__law_names : FnScope ["number", "many", "letters", "size", "rest", "place", "names", "k", "turn"] ["number", "many"] (defScope s__law_names) := ⟨rfl, rfl, rfl, by decide +kernel, rfl, by decide +kernel, by decide +kernel⟩
theorem sc__law_parts : FnScope ["numbers", "at", "winds", "places", "names", "links", "k", "spot", "one", "other", "times", "j", "least", "paths", "known", "path"] ["numbers", "at"] (defScope s__law_parts) := ⟨rfl, rfl, rfl, by decide +kernel, rfl, by decide +kernel, by decide +kernel⟩
theorem sc__law_weather : FnScope ["numbers", "at", "parts", "weather", "k"] ["numbers", "at", "parts"] (defScope s__law_weather) := ⟨rfl, rfl, rfl, by decide +kernel, rfl, by decide +kernel, by decide +kernel⟩
theorem sc__law_wind : FnScope ["parts", "weather", "minute", "wind", "row"] ["parts", "weather", "minute"] (defScope s__law_wind) := ⟨rfl, rfl, rfl, by decide +kernel, rfl, by decide +kernel, by decide +kernel⟩
theorem sc__law_caught : FnScope ["parts", "weather", "link", "minute", "side", "caught", "start", "bounds", "row"] ["parts", "weather", "link", "minute", "side"] (defScope s__law_caught) := ⟨rfl, rfl, rfl, by decide +kernel, rfl, by decide +kernel, by decide +kernel⟩
theorem sc__law_rows : FnScope ["numbers", "at", "many", "parts", "most", "k"] ["numbers", "at", "many", "parts", "most"] (defScope s__law_rows) := ⟨rfl, rfl, rfl, by decide +kernel, rfl, by decide +kernel, by decide +kernel⟩
theorem sc__law_land : FnScope ["parts"] ["parts"] (defScope s__law_land) := ⟨rfl, rfl, rfl, by decide +kernel, rfl, by decide +kernel, by decide +kernel⟩
theorem sc__law_case : FnScope ["numbers", "parts", "weather", "starts", "breaks"] ["numbers"] (defScope s__law_case) := ⟨rfl, rfl, rfl, by decide +kernel, rfl, by decide +kernel, by decide +kernel⟩
theorem sc__law_ends : FnScope ["breaks", "ends", "place", "minute"] ["breaks"] (defScope s__law_ends) := ⟨rfl, rfl, rfl, by decide +kernel, rfl, by decide +kernel, by decide +kernel⟩
theorem sc__law_ahead : FnScope ["ends", "place", "minute"] ["ends", "place", "minute"] (defScope s__law_ahead) := ⟨rfl, rfl, rfl, by decide +kernel, rfl, by decide +kernel, by decide +kernel⟩
theorem sc__law_is_chain : FnScope ["parts", "weather", "starts", "breaks", "side", "chain", "place", "ends", "k", "links", "link"] ["parts", "weather", "starts", "breaks", "side", "chain", "place"] (defScope s__law_is_chain) := ⟨rfl, rfl, rfl, by decide +kernel, rfl, by decide +kernel, by decide +kernel⟩
theorem sc__law_bounds : FnScope ["parts", "weather", "starts", "breaks", "side", "labels", "ends", "least", "place", "minute", "link", "caught"] ["parts", "weather", "starts", "breaks", "side", "labels"] (defScope s__law_bounds) := ⟨rfl, rfl, rfl, by decide +kernel, rfl, by decide +kernel, by decide +kernel⟩
theorem sc__law_is_right : FnScope ["parts", "weather", "starts", "breaks", "place", "told", "word", "labels", "chain", "row"] ["parts", "weather", "starts", "breaks", "place", "told"] (defScope s__law_is_right) := ⟨rfl, rfl, rfl, by decide +kernel, rfl, by decide +kernel, by decide +kernel⟩
theorem sc__law_spoilt : FnScope ["numbers", "at", "parts", "word", "labels", "chain", "choice", "place", "row", "step", "words", "one", "minute", "link"] ["numbers", "at", "parts", "word", "labels", "chain"] (defScope s__law_spoilt) := ⟨rfl, rfl, rfl, by decide +kernel, rfl, by decide +kernel, by decide +kernel⟩
theorem sc_law : FnScope ["script", "numbers", "parts", "weather", "starts", "breaks", "land", "place", "own", "word", "labels", "chain", "handed", "told", "actual", "row"] ["script"] (defScope s_law) := ⟨rfl, rfl, rfl, by decide +kernel, rfl, by decide +kernel, by decide +kernel⟩
/-- where the top has put things -/
structure Ad where
  C : Addr
  tl : Addr
  te : Addr
  pr : Addr
  C_Question : Addr
  C_Paper : Addr
  f_check_winds : Addr
  d_check_winds : FuncData
  f_check_rows : Addr
  d_check_rows : FuncData
  f_spells_of : Addr
  d_spells_of : FuncData
  f_ask : Addr
  d_ask : FuncData
  te_ask : Addr
  f_ask_all : Addr
  d_ask_all : FuncData
  te_ask_all : Addr
  f_least_minutes : Addr
  d_least_minutes : FuncData
  f_Question_init : Addr
  d_Question_init : FuncData
  f_Question_is_ahead : Addr
  d_Question_is_ahead : FuncData
  f_Question_through : Addr
  d_Question_through : FuncData
  f_Question_catches : Addr
  d_Question_catches : FuncData
  f_Question_chain_to : Addr
  d_Question_chain_to : FuncData
  f_least_numbers : Addr
  d_least_numbers : FuncData
  f_most_numbers : Addr
  d_most_numbers : FuncData
  f_Paper_init : Addr
  d_Paper_init : FuncData
  f_paper : Addr
  d_paper : FuncData
  f__labels_of : Addr
  d__labels_of : FuncData
  f_check_paper : Addr
  d_check_paper : FuncData
  f__keep_off : Addr
  d__keep_off : FuncData
  f__hold_starts : Addr
  d__hold_starts : FuncData
  f__hold_links : Addr
  d__hold_links : FuncData
  f__holds : Addr
  d__holds : FuncData
  f__comes_to : Addr
  d__comes_to : FuncData
  f__is_beginning : Addr
  d__is_beginning : FuncData
  f__follows : Addr
  d__follows : FuncData
  f_is_name : Addr
  d_is_name : FuncData
  f__check_count : Addr
  d__check_count : FuncData
  f__check_names : Addr
  d__check_names : FuncData
  f__check_ends : Addr
  d__check_ends : FuncData
  f__as_bounds : Addr
  d__as_bounds : FuncData
  f__as_link : Addr
  d__as_link : FuncData
  f__as_path : Addr
  d__as_path : FuncData
  f__check_single_paths : Addr
  d__check_single_paths : FuncData
  f_init : Addr
  d_init : FuncData
  f_link_names : Addr
  d_link_names : FuncData
  f_check_place : Addr
  d_check_place : FuncData
  f_check_wind : Addr
  d_check_wind : FuncData
  f_link : Addr
  d_link : FuncData
  f__law_row : Addr
  d__law_row : FuncData
  f__law_numbers : Addr
  d__law_numbers : FuncData
  f__law_pick : Addr
  d__law_pick : FuncData
  f__law_names : Addr
  d__law_names : FuncData
  f__law_parts : Addr
  d__law_parts : FuncData
  f__law_weather : Addr
  d__law_weather : FuncData
  f__law_wind : Addr
  d__law_wind : FuncData
  f__law_caught : Addr
  d__law_caught : FuncData
  f__law_rows : Addr
  d__law_rows : FuncData
  f__law_land : Addr
  d__law_land : FuncData
  f__law_case : Addr
  d__law_case : FuncData
  f__law_ends : Addr
  d__law_ends : FuncData
  f__law_ahead : Addr
  d__law_ahead : FuncData
  f__law_is_chain : Addr
  d__law_is_chain : FuncData
  f__law_bounds : Addr
  d__law_bounds : FuncData
  f__law_is_right : Addr
  d__law_is_right : FuncData
  f__law_spoilt : Addr
  d__law_spoilt : FuncData
  f_law : Addr
  d_law : FuncData
structure Txt (K : PySem.W.Frag) (mg : Str → Option Value) (a : Ad) : Prop where
  F_check_winds : Fun K "check_winds" "check_winds" s_check_winds a.f_check_winds a.d_check_winds
  B_check_winds : Binds K a.d_check_winds ["land", "weather"] []
  k_check_winds : PySem.W.keepIn K (.ref a.f_check_winds) = true
  g_check_winds : mg "check_winds" = some (.ref a.f_check_winds)
  F_check_rows : Fun K "check_rows" "check_rows" s_check_rows a.f_check_rows a.d_check_rows
  B_check_rows : Binds K a.d_check_rows ["weather"] []
  k_check_rows : PySem.W.keepIn K (.ref a.f_check_rows) = true
  g_check_rows : mg "check_rows" = some (.ref a.f_check_rows)
  F_spells_of : Fun K "spells_of" "spells_of" s_spells_of a.f_spells_of a.d_spells_of
  B_spells_of : Binds K a.d_spells_of ["land", "weather"] []
  k_spells_of : PySem.W.keepIn K (.ref a.f_spells_of) = true
  g_spells_of : mg "spells_of" = some (.ref a.f_spells_of)
  F_ask : FunD K "ask" "ask" (defArgs s_ask) (defBody s_ask) (defScope s_ask) [.ref a.te_ask] [] a.f_ask a.d_ask
  B_ask : Binds K a.d_ask ["land", "weather", "starts", "breaks", "places"] []
  B1_ask : Binds K a.d_ask ["land", "weather", "starts", "breaks", "places"] [.ref a.te_ask]
  teT_ask : ∀ H : Hp, SqT K H a.te_ask []
  k_ask : PySem.W.keepIn K (.ref a.f_ask) = true
  g_ask : mg "ask" = some (.ref a.f_ask)
  F_ask_all : FunD K "ask_all" "ask_all" (defArgs s_ask_all) (defBody s_ask_all) (defScope s_ask_all) [.ref a.te_ask_all] [] a.f_ask_all a.d_ask_all
  B_ask_all : Binds K a.d_ask_all ["land", "weathers", "starts", "breaks", "places"] []
  B1_ask_all : Binds K a.d_ask_all ["land", "weathers", "starts", "breaks", "places"] [.ref a.te_ask_all]
  teT_ask_all : ∀ H : Hp, SqT K H a.te_ask_all []
  k_ask_all : PySem.W.keepIn K (.ref a.f_ask_all) = true
  g_ask_all : mg "ask_all" = some (.ref a.f_ask_all)
  F_least_minutes : Fun K "least_minutes" "least_minutes" s_least_minutes a.f_least_minutes a.d_least_minutes
  B_least_minutes : Binds K a.d_least_minutes ["rows"] []
  k_least_minutes : PySem.W.keepIn K (.ref a.f_least_minutes) = true
  g_least_minutes : mg "least_minutes" = some (.ref a.f_least_minutes)
  F_Question_init : Fun K "__init__" "Question.__init__" s_Question_init a.f_Question_init a.d_Question_init
  B_Question_init : Binds K a.d_Question_init ["self", "land", "weather", "starts", "breaks"] []
  k_Question_init : PySem.W.keepIn K (.ref a.f_Question_init) = true
  mk_Question : Mk K a.C_Question a.f_Question_init
  F_Question_is_ahead : Fun K "is_ahead" "Question.is_ahead" s_Question_is_ahead a.f_Question_is_ahead a.d_Question_is_ahead
  B_Question_is_ahead : Binds K a.d_Question_is_ahead ["self", "minute", "place"] []
  k_Question_is_ahead : PySem.W.keepIn K (.ref a.f_Question_is_ahead) = true
  m_Question_is_ahead : Meth K a.C_Question "is_ahead" a.f_Question_is_ahead
  F_Question_through : Fun K "through" "Question.through" s_Question_through a.f_Question_through a.d_Question_through
  B_Question_through : Binds K a.d_Question_through ["self", "row", "minute"] []
  k_Question_through : PySem.W.keepIn K (.ref a.f_Question_through) = true
  m_Question_through : Meth K a.C_Question "through" a.f_Question_through
  F_Question_catches : Fun K "catches" "Question.catches" s_Question_catches a.f_Question_catches a.d_Question_catches
  B_Question_catches : Binds K a.d_Question_catches ["self", "numbers"] []
  k_Question_catches : PySem.W.keepIn K (.ref a.f_Question_catches) = true
  m_Question_catches : Meth K a.C_Question "catches" a.f_Question_catches
  F_Question_chain_to : Fun K "chain_to" "Question.chain_to" s_Question_chain_to a.f_Question_chain_to a.d_Question_chain_to
  B_Question_chain_to : Binds K a.d_Question_chain_to ["self", "caught", "place"] []
  k_Question_chain_to : PySem.W.keepIn K (.ref a.f_Question_chain_to) = true
  m_Question_chain_to : Meth K a.C_Question "chain_to" a.f_Question_chain_to
  F_least_numbers : Fun K "least_numbers" "least_numbers" s_least_numbers a.f_least_numbers a.d_least_numbers
  B_least_numbers : Binds K a.d_least_numbers ["land"] []
  k_least_numbers : PySem.W.keepIn K (.ref a.f_least_numbers) = true
  g_least_numbers : mg "least_numbers" = some (.ref a.f_least_numbers)
  F_most_numbers : Fun K "most_numbers" "most_numbers" s_most_numbers a.f_most_numbers a.d_most_numbers
  B_most_numbers : Binds K a.d_most_numbers ["land"] []
  k_most_numbers : PySem.W.keepIn K (.ref a.f_most_numbers) = true
  g_most_numbers : mg "most_numbers" = some (.ref a.f_most_numbers)
  F_Paper_init : Fun K "__init__" "Paper.__init__" s_Paper_init a.f_Paper_init a.d_Paper_init
  B_Paper_init : Binds K a.d_Paper_init ["self", "word", "labels", "chain"] []
  k_Paper_init : PySem.W.keepIn K (.ref a.f_Paper_init) = true
  mk_Paper : Mk K a.C_Paper a.f_Paper_init
  F_paper : Fun K "paper" "paper" s_paper a.f_paper a.d_paper
  B_paper : Binds K a.d_paper ["land", "weather", "starts", "breaks", "place"] []
  k_paper : PySem.W.keepIn K (.ref a.f_paper) = true
  g_paper : mg "paper" = some (.ref a.f_paper)
  F__labels_of : Fun K "_labels_of" "_labels_of" s__labels_of a.f__labels_of a.d__labels_of
  B__labels_of : Binds K a.d__labels_of ["land", "caught"] []
  k__labels_of : PySem.W.keepIn K (.ref a.f__labels_of) = true
  g__labels_of : mg "_labels_of" = some (.ref a.f__labels_of)
  F_check_paper : Fun K "check_paper" "check_paper" s_check_paper a.f_check_paper a.d_check_paper
  B_check_paper : Binds K a.d_check_paper ["land", "weather", "starts", "breaks", "place", "told"] []
  k_check_paper : PySem.W.keepIn K (.ref a.f_check_paper) = true
  g_check_paper : mg "check_paper" = some (.ref a.f_check_paper)
  F__keep_off : Fun K "_keep_off" "_keep_off" s__keep_off a.f__keep_off a.d__keep_off
  B__keep_off : Binds K a.d__keep_off ["question", "numbers", "labels", "place"] []
  k__keep_off : PySem.W.keepIn K (.ref a.f__keep_off) = true
  g__keep_off : mg "_keep_off" = some (.ref a.f__keep_off)
  F__hold_starts : Fun K "_hold_starts" "_hold_starts" s__hold_starts a.f__hold_starts a.d__hold_starts
  B__hold_starts : Binds K a.d__hold_starts ["question", "bounds"] []
  k__hold_starts : PySem.W.keepIn K (.ref a.f__hold_starts) = true
  g__hold_starts : mg "_hold_starts" = some (.ref a.f__hold_starts)
  F__hold_links : Fun K "_hold_links" "_hold_links" s__hold_links a.f__hold_links a.d__hold_links
  B__hold_links : Binds K a.d__hold_links ["question", "numbers", "bounds"] []
  k__hold_links : PySem.W.keepIn K (.ref a.f__hold_links) = true
  g__hold_links : mg "_hold_links" = some (.ref a.f__hold_links)
  F__holds : Fun K "_holds" "_holds" s__holds a.f__holds a.d__holds
  B__holds : Binds K a.d__holds ["question", "bounds", "place", "minute"] []
  k__holds : PySem.W.keepIn K (.ref a.f__holds) = true
  g__holds : mg "_holds" = some (.ref a.f__holds)
  F__comes_to : Fun K "_comes_to" "_comes_to" s__comes_to a.f__comes_to a.d__comes_to
  B__comes_to : Binds K a.d__comes_to ["question", "numbers", "chain", "place"] []
  k__comes_to : PySem.W.keepIn K (.ref a.f__comes_to) = true
  g__comes_to : mg "_comes_to" = some (.ref a.f__comes_to)
  F__is_beginning : Fun K "_is_beginning" "_is_beginning" s__is_beginning a.f__is_beginning a.d__is_beginning
  B__is_beginning : Binds K a.d__is_beginning ["question", "row"] []
  k__is_beginning : PySem.W.keepIn K (.ref a.f__is_beginning) = true
  g__is_beginning : mg "_is_beginning" = some (.ref a.f__is_beginning)
  F__follows : Fun K "_follows" "_follows" s__follows a.f__follows a.d__follows
  B__follows : Binds K a.d__follows ["question", "numbers", "before", "row"] []
  k__follows : PySem.W.keepIn K (.ref a.f__follows) = true
  g__follows : mg "_follows" = some (.ref a.f__follows)
  F_is_name : Fun K "is_name" "is_name" s_is_name a.f_is_name a.d_is_name
  B_is_name : Binds K a.d_is_name ["text"] []
  k_is_name : PySem.W.keepIn K (.ref a.f_is_name) = true
  g_is_name : mg "is_name" = some (.ref a.f_is_name)
  F__check_count : Fun K "_check_count" "_check_count" s__check_count a.f__check_count a.d__check_count
  B__check_count : Binds K a.d__check_count ["sort", "rows", "least", "most"] []
  k__check_count : PySem.W.keepIn K (.ref a.f__check_count) = true
  g__check_count : mg "_check_count" = some (.ref a.f__check_count)
  F__check_names : Fun K "_check_names" "_check_names" s__check_names a.f__check_names a.d__check_names
  B__check_names : Binds K a.d__check_names ["sort", "names"] []
  k__check_names : PySem.W.keepIn K (.ref a.f__check_names) = true
  g__check_names : mg "_check_names" = some (.ref a.f__check_names)
  F__check_ends : Fun K "_check_ends" "_check_ends" s__check_ends a.f__check_ends a.d__check_ends
  B__check_ends : Binds K a.d__check_ends ["sort", "one", "other", "places"] []
  k__check_ends : PySem.W.keepIn K (.ref a.f__check_ends) = true
  g__check_ends : mg "_check_ends" = some (.ref a.f__check_ends)
  F__as_bounds : Fun K "_as_bounds" "_as_bounds" s__as_bounds a.f__as_bounds a.d__as_bounds
  B__as_bounds : Binds K a.d__as_bounds ["bounds"] []
  k__as_bounds : PySem.W.keepIn K (.ref a.f__as_bounds) = true
  g__as_bounds : mg "_as_bounds" = some (.ref a.f__as_bounds)
  F__as_link : Fun K "_as_link" "_as_link" s__as_link a.f__as_link a.d__as_link
  B__as_link : Binds K a.d__as_link ["link", "winds", "places"] []
  k__as_link : PySem.W.keepIn K (.ref a.f__as_link) = true
  g__as_link : mg "_as_link" = some (.ref a.f__as_link)
  F__as_path : Fun K "_as_path" "_as_path" s__as_path a.f__as_path a.d__as_path
  B__as_path : Binds K a.d__as_path ["path", "places"] []
  k__as_path : PySem.W.keepIn K (.ref a.f__as_path) = true
  g__as_path : mg "_as_path" = some (.ref a.f__as_path)
  F__check_single_paths : Fun K "_check_single_paths" "_check_single_paths" s__check_single_paths a.f__check_single_paths a.d__check_single_paths
  B__check_single_paths : Binds K a.d__check_single_paths ["paths"] []
  k__check_single_paths : PySem.W.keepIn K (.ref a.f__check_single_paths) = true
  g__check_single_paths : mg "_check_single_paths" = some (.ref a.f__check_single_paths)
  F_init : FunD K "__init__" "Land.__init__" (defArgs s_init) (defBody s_init) (defScope s_init) [] [("links", .ref a.tl), ("paths", .ref a.te)] a.f_init a.d_init
  F_link_names : Fun K "link_names" "Land.link_names" s_link_names a.f_link_names a.d_link_names
  B_link_names : Binds K a.d_link_names ["self"] []
  k_link_names : PySem.W.keepIn K (.ref a.f_link_names) = true
  F_check_place : Fun K "check_place" "Land.check_place" s_check_place a.f_check_place a.d_check_place
  B_check_place : Binds K a.d_check_place ["self", "place"] []
  k_check_place : PySem.W.keepIn K (.ref a.f_check_place) = true
  m_check_place : Meth K a.C "check_place" a.f_check_place
  F_check_wind : Fun K "check_wind" "Land.check_wind" s_check_wind a.f_check_wind a.d_check_wind
  B_check_wind : Binds K a.d_check_wind ["self", "wind"] []
  k_check_wind : PySem.W.keepIn K (.ref a.f_check_wind) = true
  m_check_wind : Meth K a.C "check_wind" a.f_check_wind
  F_link : Fun K "link" "Land.link" s_link a.f_link a.d_link
  B_link : Binds K a.d_link ["self", "name"] []
  k_link : PySem.W.keepIn K (.ref a.f_link) = true
  m_link : Meth K a.C "link" a.f_link
  F__law_row : Fun K "_law_row" "_law_row" s__law_row a.f__law_row a.d__law_row
  B__law_row : Binds K a.d__law_row ["cell", "many"] []
  k__law_row : PySem.W.keepIn K (.ref a.f__law_row) = true
  g__law_row : mg "_law_row" = some (.ref a.f__law_row)
  F__law_numbers : Fun K "_law_numbers" "_law_numbers" s__law_numbers a.f__law_numbers a.d__law_numbers
  B__law_numbers : Binds K a.d__law_numbers ["script", "many"] []
  k__law_numbers : PySem.W.keepIn K (.ref a.f__law_numbers) = true
  g__law_numbers : mg "_law_numbers" = some (.ref a.f__law_numbers)
  F__law_pick : Fun K "_law_pick" "_law_pick" s__law_pick a.f__law_pick a.d__law_pick
  B__law_pick : Binds K a.d__law_pick ["numbers", "at", "most"] []
  k__law_pick : PySem.W.keepIn K (.ref a.f__law_pick) = true
  g__law_pick : mg "_law_pick" = some (.ref a.f__law_pick)
  F__law_names : Fun K "_law_names" "_law_names" s__law_names a.f__law_names a.d__law_names
  B__law_names : Binds K a.d__law_names ["number", "many"] []
  k__law_names : PySem.W.keepIn K (.ref a.f__law_names) = true
  g__law_names : mg "_law_names" = some (.ref a.f__law_names)
  F__law_parts : Fun K "_law_parts" "_law_parts" s__law_parts a.f__law_parts a.d__law_parts
  B__law_parts : Binds K a.d__law_parts ["numbers", "at"] []
  k__law_parts : PySem.W.keepIn K (.ref a.f__law_parts) = true
  g__law_parts : mg "_law_parts" = some (.ref a.f__law_parts)
  F__law_weather : Fun K "_law_weather" "_law_weather" s__law_weather a.f__law_weather a.d__law_weather
  B__law_weather : Binds K a.d__law_weather ["numbers", "at", "parts"] []
  k__law_weather : PySem.W.keepIn K (.ref a.f__law_weather) = true
  g__law_weather : mg "_law_weather" = some (.ref a.f__law_weather)
  F__law_wind : Fun K "_law_wind" "_law_wind" s__law_wind a.f__law_wind a.d__law_wind
  B__law_wind : Binds K a.d__law_wind ["parts", "weather", "minute"] []
  k__law_wind : PySem.W.keepIn K (.ref a.f__law_wind) = true
  g__law_wind : mg "_law_wind" = some (.ref a.f__law_wind)
  F__law_caught : Fun K "_law_caught" "_law_caught" s__law_caught a.f__law_caught a.d__law_caught
  B__law_caught : Binds K a.d__law_caught ["parts", "weather", "link", "minute", "side"] []
  k__law_caught : PySem.W.keepIn K (.ref a.f__law_caught) = true
  g__law_caught : mg "_law_caught" = some (.ref a.f__law_caught)
  F__law_rows : Fun K "_law_rows" "_law_rows" s__law_rows a.f__law_rows a.d__law_rows
  B__law_rows : Binds K a.d__law_rows ["numbers", "at", "many", "parts", "most"] []
  k__law_rows : PySem.W.keepIn K (.ref a.f__law_rows) = true
  g__law_rows : mg "_law_rows" = some (.ref a.f__law_rows)
  F__law_land : Fun K "_law_land" "_law_land" s__law_land a.f__law_land a.d__law_land
  B__law_land : Binds K a.d__law_land ["parts"] []
  k__law_land : PySem.W.keepIn K (.ref a.f__law_land) = true
  g__law_land : mg "_law_land" = some (.ref a.f__law_land)
  F__law_case : Fun K "_law_case" "_law_case" s__law_case a.f__law_case a.d__law_case
  B__law_case : Binds K a.d__law_case ["numbers"] []
  k__law_case : PySem.W.keepIn K (.ref a.f__law_case) = true
  g__law_case : mg "_law_case" = some (.ref a.f__law_case)
  F__law_ends : Fun K "_law_ends" "_law_ends" s__law_ends a.f__law_ends a.d__law_ends
  B__law_ends : Binds K a.d__law_ends ["breaks"] []
  k__law_ends : PySem.W.keepIn K (.ref a.f__law_ends) = true
  g__law_ends : mg "_law_ends" = some (.ref a.f__law_ends)
  F__law_ahead : Fun K "_law_ahead" "_law_ahead" s__law_ahead a.f__law_ahead a.d__law_ahead
  B__law_ahead : Binds K a.d__law_ahead ["ends", "place", "minute"] []
  k__law_ahead : PySem.W.keepIn K (.ref a.f__law_ahead) = true
  g__law_ahead : mg "_law_ahead" = some (.ref a.f__law_ahead)
  F__law_is_chain : Fun K "_law_is_chain" "_law_is_chain" s__law_is_chain a.f__law_is_chain a.d__law_is_chain
  B__law_is_chain : Binds K a.d__law_is_chain ["parts", "weather", "starts", "breaks", "side", "chain", "place"] []
  k__law_is_chain : PySem.W.keepIn K (.ref a.f__law_is_chain) = true
  g__law_is_chain : mg "_law_is_chain" = some (.ref a.f__law_is_chain)
  F__law_bounds : Fun K "_law_bounds" "_law_bounds" s__law_bounds a.f__law_bounds a.d__law_bounds
  B__law_bounds : Binds K a.d__law_bounds ["parts", "weather", "starts", "breaks", "side", "labels"] []
  k__law_bounds : PySem.W.keepIn K (.ref a.f__law_bounds) = true
  g__law_bounds : mg "_law_bounds" = some (.ref a.f__law_bounds)
  F__law_is_right : Fun K "_law_is_right" "_law_is_right" s__law_is_right a.f__law_is_right a.d__law_is_right
  B__law_is_right : Binds K a.d__law_is_right ["parts", "weather", "starts", "breaks", "place", "told"] []
  k__law_is_right : PySem.W.keepIn K (.ref a.f__law_is_right) = true
  g__law_is_right : mg "_law_is_right" = some (.ref a.f__law_is_right)
  F__law_spoilt : Fun K "_law_spoilt" "_law_spoilt" s__law_spoilt a.f__law_spoilt a.d__law_spoilt
  B__law_spoilt : Binds K a.d__law_spoilt ["numbers", "at", "parts", "word", "labels", "chain"] []
  k__law_spoilt : PySem.W.keepIn K (.ref a.f__law_spoilt) = true
  g__law_spoilt : mg "_law_spoilt" = some (.ref a.f__law_spoilt)
  F_law : Fun K "law" "law" s_law a.f_law a.d_law
  B_law : Binds K a.d_law ["script"] []
  k_law : PySem.W.keepIn K (.ref a.f_law) = true
  g_law : mg "law" = some (.ref a.f_law)
  g_heapify : mg "heapify" = some (.builtin "_heapq.heapify")
  g_heappush : mg "heappush" = some (.builtin "_heapq.heappush")
  g_heappop : mg "heappop" = some (.builtin "_heapq.heappop")
  z_abs : mg "abs" = none
  z_all : mg "all" = none
  z_any : mg "any" = none
  z_bool : mg "bool" = none
  z_enumerate : mg "enumerate" = none
  z_int : mg "int" = none
  z_isinstance : mg "isinstance" = none
  z_len : mg "len" = none
  z_list : mg "list" = none
  z_max : mg "max" = none
  z_min : mg "min" = none
  z_range : mg "range" = none
  z_set : mg "set" = none
  z_sorted : mg "sorted" = none
  z_tuple : mg "tuple" = none
  z_zip : mg "zip" = none
  c_DIGITS : ∃ t, mg "DIGITS" = some (.str "0123456789" t)
  c_LAST_CHANGE : ∃ t, mg "LAST_CHANGE" = some (.int 100000 t)
  c_LETTERS : ∃ t, mg "LETTERS" = some (.str "abcdefghijklmnopqrstuvwxyz" t)
  c_LONGEST_NAME : ∃ t, mg "LONGEST_NAME" = some (.int 12 t)
  c_MAYBE : ∃ t, mg "MAYBE" = some (.str "maybe" t)
  c_MOST_LINKS : ∃ t, mg "MOST_LINKS" = some (.int 60 t)
  c_MOST_MINUTES : ∃ t, mg "MOST_MINUTES" = some (.int 1000 t)
  c_MOST_PATHS : ∃ t, mg "MOST_PATHS" = some (.int 60 t)
  c_MOST_PLACES : ∃ t, mg "MOST_PLACES" = some (.int 24 t)
  c_MOST_ROWS : ∃ t, mg "MOST_ROWS" = some (.int 40 t)
  c_MOST_WINDS : ∃ t, mg "MOST_WINDS" = some (.int 4 t)
  c_NEVER : ∃ t, mg "NEVER" = some (.str "never" t)
  c_SURELY : ∃ t, mg "SURELY" = some (.str "surely" t)
  cl_Question : Cls K a.C_Question
  g_Question : mg "Question" = some (.ref a.C_Question)
  na_Question_land : NoAttr K a.C_Question "land"
  na_Question_weather : NoAttr K a.C_Question "weather"
  na_Question_starts : NoAttr K a.C_Question "starts"
  na_Question_breaks : NoAttr K a.C_Question "breaks"
  na_Question_spells : NoAttr K a.C_Question "spells"
  na_Question_stops : NoAttr K a.C_Question "stops"
  na_Question_leaving : NoAttr K a.C_Question "leaving"
  cl_Paper : Cls K a.C_Paper
  g_Paper : mg "Paper" = some (.ref a.C_Paper)
  ha_C_Paper : PySem.W.findIn K (.ref a.C_Paper) "__class__" = some (some (.builtin "object.__class__"))
  hm_C_Paper : PySem.W.mroIn K a.C_Paper (.type "object") = some true
  hn_C_Paper : PySem.W.specialIn K (.builtin "object.__class__") "__get__" = some (some (.builtin "getset_descriptor.__get__"))
  ht_C_Paper : PySem.W.takesIn K (.builtin "object.__class__") = some true
  ki_C_Paper : PySem.W.kitOne K (.ref a.C_Paper) (.ref a.C_Paper) = some true
  na_Paper_word : NoAttr K a.C_Paper "word"
  na_Paper_labels : NoAttr K a.C_Paper "labels"
  na_Paper_chain : NoAttr K a.C_Paper "chain"
  cl : Cls K a.C
  mk_Land : Mk K a.C a.f_init
  g_Land : mg "Land" = some (.ref a.C)
  nW : NoAttr K a.C "winds"
  nP : NoAttr K a.C "places"
  nL : NoAttr K a.C "links"
  nA : NoAttr K a.C "paths"
  p_link_names : PropOf K a.C "link_names" a.pr a.f_link_names
  tlT : ∀ H : Hp, SqT K H a.tl []
  teT : ∀ H : Hp, SqT K H a.te []
end EV

set_option Elab.async false
set_option linter.all false
set_option maxRecDepth 100000
set_option maxHeartbeats 4000000
namespace EV
open PySem PySem.Spec PyProof.Rows L2 EvS Evl
def LETS : List Nat := ("abcdefghijklmnopqrstuvwxyz" : Str).cps.toList
def DIGS : List Nat := ("0123456789" : Str).cps.toList
def okSign (c : Nat) : Bool := decide (c ∈ LETS) || decide (c ∈ DIGS)
/-- point 2 -/
def isName (z : Str) : Bool := decide (1 ≤ z.length ∧ z.length ≤ 12) && (z.cps.toList.head?.any fun c => decide (c ∈ LETS)) && z.cps.toList.all okSign
def sp_is_name : Sp := fun vs H Q _ => ∃ z : Str, vs = [.str z] ∧ z.length ≤ 10000 ∧ ∀ H', Ex H H' → Q (.bl (isName z)) H'
section
variable {P : Program} {w : World} {K : PySem.W.Frag} {mg : Str → Option Value} {base : Heap} {a : Ad}
theorem G_is_name (T : Txt K mg a) : FnOk P w K mg base CX0 1 a.f_is_name a.d_is_name ["text"] sp_is_name := by
  refine T.F_is_name.ok sc_is_name (fun vs H Q E h => ?_) (fun cdv A outer s H vs Q E hr h => ?_)
  · obtain ⟨z, rfl, _⟩ := h
    rfl
  · obtain ⟨z, rfl, hz, k⟩ := h
    have hzs : z.length ≤ sizeLine := sz_of (by omega)
    refine ⟨_, (pss_cons (ps_if (pt_not (pt_chain op_le op_le pe_int (pe_callB call_len_str (by rfl) T.z_len PySem.boot_len (pa_cons (pv 0) pa_nil)) (pe_gI rfl T.c_LONGEST_NAME))) (pss_one (ps_ret pe_bl)) pss_nil)
      (pss_one (ps_ret (pe_and (pe_cmpR op_in_sign (pe_ix ix_str (pv 0) pe_int (fun _ _ => rfl)) (pe_gS rfl T.c_LETTERS) rfl) (pe_one (pe_callB (cr_all rfl) (by rfl) T.z_all (by decide +kernel) (pa_cons (pe_lc (own := [("sign", 1)]) (g := gName 1) (tt := tYes) rfl sc_is_name.nd (pi_str (pv 0)) (blkOk_by (N := ["text", "sign"]) (sc := defScope s_is_name) (by decide +kernel)) (fun _ _ _ _ _ => pg_name (i := 1) sc_is_name.nd rfl (Or.inl rfl)) (fun _ _ _ _ _ => pts_nil) (fun _ _ _ _ _ => (pe_or (pe_cmpR op_in_sign (pv 1) (pe_gS rfl T.c_LETTERS) rfl) (pe_one (pe_cmpR op_in_sign (pv 1) (pe_gS rfl T.c_DIGITS) rfl))))) pa_nil))))))), ?_⟩
    have no : ¬ (1 ≤ z.length ∧ z.length ≤ 12) → Q (.bl false) H := fun n => by
      have e : isName z = false := by
        unfold isName
        rw [decide_eq_false n]
        rfl
      have q := k H (Ex.refl H)
      rw [e] at q
      exact q
    refine ⟨_, rfl, _, rfl, hzs, _, _, rfl, rfl, _, rfl, ?_⟩
    refine ite2 (fun h1 => ?_) (fun h1 => ?_)
    · refine ⟨_, _, rfl, rfl, _, rfl, ?_⟩
      have h1' : 1 ≤ z.length := by
        have := of_decide_eq_true h1
        omega
      refine ite2 (fun h2 => ?_) (fun h2 => ?_)
      · exact no (fun n => by simp at h2; omega)
      · have h2' : z.length ≤ 12 := by
          simp at h2
          omega
        have hsz : z.cps.size = z.length := rfl
        obtain ⟨c0, hc0⟩ : ∃ c, z.cps[0]? = some c := ⟨_, Array.getElem?_eq_getElem (by omega)⟩
        have hl0 : z.cps.toList[0]? = some c0 := by rw [Array.getElem?_toList]; exact hc0
        have hh : z.cps.toList.head? = some c0 := by rw [List.head?_eq_getElem?]; exact hl0
        refine ⟨_, rfl, z, 0, c0, rfl, rfl, hzs, ?_, ?_⟩
        · have := atI_nat (j := 0) hl0
          simpa using this
        · refine ⟨c0, _, rfl, rfl, _, rfl, ?_⟩
          have rest : ∀ H', Ex H H' → Q (.bl (decide (c0 ∈ LETS) && z.cps.toList.all okSign)) H' := fun H' e => by
            have q := k H' e
            have ei : isName z = (decide (c0 ∈ LETS) && z.cps.toList.all okSign) := by
              unfold isName
              rw [decide_eq_true (show 1 ≤ z.length ∧ z.length ≤ 12 from ⟨h1', h2'⟩), hh]
              rfl
            rw [ei] at q
            exact q
          refine ite2 (fun h3 => ?_) (fun h3 => ?_)
          · have h3' : decide (c0 ∈ LETS) = true := h3
            rw [h3', Bool.true_and] at rest
            have hlen : z.cps.toList.length = z.cps.size := Array.length_toList
            refine ⟨_, rfl, z, rfl, fun D hD => lcY_sign (fun i H' => H D = none ∧ Ex H H' ∧ H' D = some (.lst ((z.cps.toList.take i).map fun c => V.bl (okSign c)))) ⟨hD, Ex.new hD, upd_same⟩ (fun i c H' hc p => ?_) (fun H' p => ?_)⟩
            · obtain ⟨p1, p2, p3⟩ := p
              have hil : i < z.cps.size := (Array.getElem?_eq_some_iff.mp hc).1
              have hlc : z.cps.toList[i]? = some c := by rw [Array.getElem?_toList]; exact hc
              have stp : (z.cps.toList.take (i + 1)).map (fun c => V.bl (okSign c)) = (z.cps.toList.take i).map (fun c => V.bl (okSign c)) ++ [V.bl (okSign c)] := by
                rw [List.take_add_one, hlc, List.map_append]
                rfl
              have fin : ∃ acc, H' D = some (.lst acc) ∧ acc.length < sizeLine ∧ H D = none ∧ Ex H (upd H' D (.lst (acc ++ [V.bl (okSign c)]))) ∧ (upd H' D (.lst (acc ++ [V.bl (okSign c)]))) D = some (.lst ((z.cps.toList.take (i + 1)).map fun c => V.bl (okSign c))) := by
                refine ⟨_, p3, sz_lt ?_, p1, Ex.mut p2 p1, ?_⟩
                · rw [List.length_map, List.length_take]
                  omega
                · rw [stp]
                  exact upd_same
              refine ⟨rfl, ?_⟩
              refine ⟨_, rfl, c, _, rfl, rfl, _, rfl, ?_⟩
              refine ite2 (fun h5 => ?_) (fun h5 => ?_)
              · have e : okSign c = true := by
                  unfold okSign
                  rw [show decide (c ∈ LETS) = true from h5]
                  rfl
                rw [e] at fin
                exact fin
              · refine ⟨_, rfl, c, _, rfl, rfl, ?_⟩
                have e : okSign c = decide (c ∈ DIGS) := by
                  unfold okSign
                  rw [show decide (c ∈ LETS) = false from Bool.eq_false_iff.mpr h5]
                  rfl
                rw [e] at fin
                exact fin
            · obtain ⟨p1, p2, p3⟩ := p
              rw [← hlen, List.take_length] at p3
              refine ⟨D, z.cps.toList.map okSign, rfl, ?_, ?_⟩
              · rw [List.map_map]
                exact SqL.of p3
              · have q := rest H' p2
                have e : (z.cps.toList.map okSign).all id = z.cps.toList.all okSign := by
                  rw [List.all_map]
                  rfl
                rw [e]
                exact q
          · have h3' : decide (c0 ∈ LETS) = false := Bool.eq_false_iff.mpr h3
            rw [h3', Bool.false_and] at rest
            exact rest H (Ex.refl H)
    · exact ⟨_, rfl, no (fun n => by simp at h1; omega)⟩
end
end EV

set_option Elab.async false
set_option linter.all false
set_option maxRecDepth 100000
set_option maxHeartbeats 4000000
namespace EV
open PySem PySem.Spec PyProof.Rows L2 EvS Evl
def Small (l : List Int) : Prop := ∀ n ∈ l, 0 ≤ n ∧ n < 1009
theorem small_snoc {l : List Int} {n : Int} (h : Small l) (a : 0 ≤ n) (b : n < 1009) : Small (l ++ [n]) := fun x hx => by
  rcases List.mem_append.mp hx with q | q
  · exact h x q
  · rw [List.mem_singleton] at q
    subst q
    exact ⟨a, b⟩
/-- a new list of m small numbers -/
def NewNums (m : Int) (H : Hp) (Q : VK) : Prop := ∀ H' p (ns : List Int), Ex H H' → H p = none → H' p = some (.lst (ns.map V.int)) → (ns.length : Int) = m → Small ns → Q (.ref p) H'
def sp__law_row : Sp := fun vs H Q _ => ∃ (c m : Int), vs = [.int c, .int m] ∧ 0 ≤ m ∧ m ≤ 10000 ∧ NewNums m H Q
def sp__law_numbers (K : PySem.W.Frag) : Sp := fun vs H Q _ => ∃ (p : Addr) (ns : List Int) (m : Int), vs = [.ref p, .int m] ∧ SqL K H p (ns.map V.int) ∧ 0 ≤ m ∧ m ≤ 1000 ∧ NewNums m H Q
theorem cutV_to (xs : List V) (k : Nat) : cutV xs none (some (k : Int)) = xs.take k := by
  unfold cutV
  rw [HT.sIx_nat, HT.sIx_none, List.drop_zero, Nat.sub_zero]
  rcases Nat.le_total k xs.length with h | h
  · rw [Nat.min_eq_left h]
  · rw [Nat.min_eq_right h, List.take_length, List.take_of_length_le h]
section
variable {P : Program} {w : World} {K : PySem.W.Frag} {mg : Str → Option Value} {base : Heap} {a : Ad}
theorem G__law_row (T : Txt K mg a) : FnOk P w K mg base CX0 1 a.f__law_row a.d__law_row ["cell", "many"] sp__law_row := by
  refine T.F__law_row.ok sc__law_row (fun vs H Q E h => ?_) (fun cdv A outer s H vs Q E hr h => ?_)
  · obtain ⟨c, m, rfl, _⟩ := h
    rfl
  · obtain ⟨c, m, rfl, m0, m1, k⟩ := h
    refine ⟨_, (pss_cons (ps_set (i := 2) sc__law_row.nd rfl (Or.inl rfl) (pe_lst pa_nil))
      (pss_cons (ps_set (i := 3) sc__law_row.nd rfl (Or.inl rfl) (pe_callB call_abs (by rfl) T.z_abs (by decide +kernel) (pa_cons (pv 0) pa_nil)))
      (pss_cons (ps_set (i := 4) sc__law_row.nd rfl (Or.inl rfl) (pe_op op_mod (pe_callTy call_int1 (by rfl) T.z_int (by decide +kernel) (pa_cons (pe_op op_add (pe_op op_mul (pv 3) pe_int) pe_int) pa_nil)) pe_int))
      (pss_cons (ps_for PassesOwn.never rfl (pi_range1 (by rfl) T.z_range (pa_cons (pv 1) pa_nil)) (pg_name (i := 5) sc__law_row.nd rfl (Or.inl rfl)) (pss_cons (ps_set (i := 4) sc__law_row.nd rfl (Or.inl rfl) (pe_op op_mod (pe_callTy call_int1 (by rfl) T.z_int (by decide +kernel) (pa_cons (pe_op op_add (pe_op op_mul (pv 4) pe_int) (pe_op op_mul pe_int (pe_op op_add (pv 5) pe_int))) pa_nil)) pe_int))
        (pss_one (ps_if (pt_cmpR op_ge (pe_callB call_abs (by rfl) T.z_abs (by decide +kernel) (pa_cons (pv 0) pa_nil)) (pe_op op_pow pe_int pe_int) (nomark _)) (pss_cons (ps_expr (pe_bm PySem.F.plainAttrs_list PySem.F.slot_list_append PySem.F.type_list_append mt_append (pv 2) (pa_cons (pe_op op_mod (pe_callTy call_int1 (by rfl) T.z_int (by decide +kernel) (pa_cons (pv 3) pa_nil)) pe_int) pa_nil)))
          (pss_one (ps_set (i := 3) sc__law_row.nd rfl (Or.inl rfl) (pe_op op_fdiv (pv 3) pe_int)))) (pss_one (ps_expr (pe_bm PySem.F.plainAttrs_list PySem.F.slot_list_append PySem.F.type_list_append mt_append (pv 2) (pa_cons (pe_op op_mod (pe_callTy call_int1 (by rfl) T.z_int (by decide +kernel) (pa_cons (pe_op op_fdiv (pv 4) pe_int) pa_nil)) pe_int) pa_nil))))))))
      (pss_one (ps_ret (pv 2))))))), ?_⟩
    refine ⟨Nat.zero_le _, fun l hl => ?_⟩
    refine ⟨_, rfl, _, rfl, ?_⟩
    refine ⟨_, rfl, _, _, rfl, rfl, .inr ⟨by decide, by decide⟩, _, _, rfl, rfl, .inl ⟨_, rfl, _, _, rfl, rfl, (by show (0 : Int) < 2147483647; decide), ?_⟩⟩
    refine ⟨_, rfl, _, rfl, by omega, by omega, for_range (n := m.toNat) (fun i σ H' => ∃ (r x : Int) (ns : List Int) (v : Option V), σ = [some (.int c), some (.int m), some (.ref l), some (.int r), some (.int x), v] ∧ Ex H H' ∧ H' l = some (.lst (ns.map V.int)) ∧ ns.length = i ∧ Small ns) ?_ ?_ ?_⟩
    · exact ⟨_, _, [], none, rfl, Ex.new hl, upd_same, rfl, fun n hn => by cases hn⟩
    · rintro i σ H' hi ⟨r, x, ns, v, rfl, e, hL, hlen, hs⟩
      have room : (ns.map V.int).length < sizeLine := sz_lt (by rw [List.length_map]; omega)
      have nx : ∀ (r' x' y : Int), 0 ≤ y → y < 1009 → ∃ (r x : Int) (ns' : List Int) (v' : Option V), [some (V.int c), some (V.int m), some (V.ref l), some (V.int r'), some (V.int x'), some (V.int (0 + (i : Int)))] = [some (V.int c), some (V.int m), some (V.ref l), some (V.int r), some (V.int x), v'] ∧
          Ex H (upd H' l (.lst (ns.map V.int ++ [V.int y]))) ∧ (upd H' l (.lst (ns.map V.int ++ [V.int y]))) l = some (.lst (ns'.map V.int)) ∧ ns'.length = i + 1 ∧ Small ns' := fun r' x' y h0 h1 =>
        ⟨_, _, ns ++ [y], _, rfl, Ex.mut e hl, by rw [upd_same, List.map_append] <;> rfl, by rw [List.length_append, hlen] <;> rfl, small_snoc hs h0 h1⟩
      refine ⟨_, rfl, _, _, rfl, rfl, .inr ⟨by decide, by decide⟩, _, rfl, _, _, rfl, rfl, _, _, rfl, rfl, .inl ⟨by decide, by decide⟩, _, _, rfl, rfl, .inl ⟨_, rfl, _, _, rfl, rfl, (by show (0 : Int) < 2147483629; decide), ?_⟩⟩
      refine ⟨_, rfl, _, rfl, _, _, rfl, rfl, ⟨by decide, by decide, by decide⟩, _, _, rfl, rfl, _, rfl, ?_⟩
      refine ite2 (fun _ => ?_) (fun _ => ?_)
      · refine ⟨_, rfl, .inl ⟨rfl, _, SqL.of hL⟩, _, rfl, .inl ⟨_, rfl, _, _, rfl, rfl, (by show (0 : Int) < 1009; decide), l, _, _, rfl, rfl, hL, room, ?_⟩⟩
        refine ⟨_, rfl, _, _, rfl, rfl, ⟨by decide, by decide⟩, ?_⟩
        exact nx _ _ _ (Int.emod_nonneg _ (by decide)) (Int.emod_lt_of_pos _ (by decide))
      · refine ⟨_, rfl, .inl ⟨rfl, _, SqL.of hL⟩, _, rfl, _, _, rfl, rfl, ⟨by decide, by decide⟩, .inl ⟨_, rfl, _, _, rfl, rfl, (by show (0 : Int) < 1009; decide), l, _, _, rfl, rfl, hL, room, ?_⟩⟩
        exact nx _ _ _ (Int.emod_nonneg _ (by decide)) (Int.emod_lt_of_pos _ (by decide))
    · rintro σ H' ⟨r, x, ns, v, rfl, e, hL, hlen, hs⟩
      exact ⟨_, rfl, k H' l ns e hl hL (by omega) hs⟩
theorem G__law_numbers (T : Txt K mg a) : FnOk P w K mg base CX0 2 a.f__law_numbers a.d__law_numbers ["script", "many"] (sp__law_numbers K) := by
  refine T.F__law_numbers.ok sc__law_numbers (fun vs H Q E h => ?_) (fun cdv A outer s H vs Q E hr h => ?_)
  · obtain ⟨p, ns, m, rfl, _⟩ := h
    rfl
  · obtain ⟨p, ns, m, rfl, hS, m0, m1, k⟩ := h
    refine ⟨_, (pss_cons (ps_set (i := 2) sc__law_numbers.nd rfl (Or.inl rfl) (pe_slice sl_list (pv 0) po_none (po_some pe_int)))
      (pss_cons (ps_set (i := 3) sc__law_numbers.nd rfl (Or.inl rfl) (pe_op op_add pe_int (pe_op op_fdivN (pv 1) (pe_callB (call_max2 rfl) (by rfl) T.z_max (by decide +kernel) (pa_cons pe_int (pa_cons (pe_callB call_len_seq (by rfl) T.z_len PySem.boot_len (pa_cons (pv 2) pa_nil)) pa_nil))))))
      (pss_cons (ps_set (i := 4) sc__law_numbers.nd rfl (Or.inl rfl) (pe_lst pa_nil))
      (pss_cons (ps_for PassesOwn.never rfl (pi_list (pv 2)) (pg_name (i := 5) sc__law_numbers.nd rfl (Or.inl rfl)) (pss_one (ps_for PassesOwn.never rfl (pi_list (pe_call (G__law_row T) (hr.mono (by decide)) (by rfl) T.g__law_row T.k__law_row T.B__law_row .nil pass0 (pa_cons (pv 5) (pa_cons (pv 3) pa_nil)))) (pg_name (i := 6) sc__law_numbers.nd rfl (Or.inl rfl)) (pss_one (ps_expr (pe_bm PySem.F.plainAttrs_list PySem.F.slot_list_append PySem.F.type_list_append mt_append (pv 4) (pa_cons (pv 6) pa_nil)))))))
      (pss_cons (ps_while PassesOwn.never (pt_cmpR op_lt (pe_callB call_len_seq (by rfl) T.z_len PySem.boot_len (pa_cons (pv 4) pa_nil)) (pv 1) (nomark _)) (pss_one (ps_expr (pe_bm PySem.F.plainAttrs_list PySem.F.slot_list_append PySem.F.type_list_append mt_append (pv 4) (pa_cons pe_int pa_nil)))))
      (pss_one (ps_ret (pe_slice sl_list (pv 4) po_none (po_some (pv 1)))))))))), ?_⟩
    -- cells = script[:63]
    refine ⟨_, rfl, _, rfl, p, _, rfl, hS, fun q hq => ?_⟩
    have hcs : cutV (ns.map V.int) none (some ((63 : Nat) : Int)) = (ns.take 63).map V.int := by
      rw [cutV_to, List.map_take]
    show tSeq _ _ _ _ (upd H q (.lst (cutV (ns.map V.int) none (some ((63 : Nat) : Int)))))
    rw [hcs]
    generalize hcd : ns.take 63 = cs
    have hcl : cs.length ≤ 63 := by
      rw [← hcd, List.length_take]
      omega
    have hlc : (cs.map V.int).length = cs.length := List.length_map ..
    have e1 : Ex H (upd H q (.lst (cs.map V.int))) := Ex.new hq
    -- each = 1 + many // max(1, len(cells))
    refine ⟨_, rfl, _, rfl, q, _, rfl, .inl (SqL.of upd_same), _, _, rfl, _, _, rfl, rfl, ⟨?_, ?_⟩, _, _, rfl, rfl, ?_⟩
    · split <;> omega
    · rw [hlc]
      split <;> omega
    generalize hd : (if ((cs.map V.int).length : Int) > 1 then ((cs.map V.int).length : Int) else 1) = d
    have d1 : 1 ≤ d := by
      rw [← hd]
      split <;> omega
    have f0 : 0 ≤ m.fdiv d := by
      rw [Int.fdiv_eq_ediv_of_nonneg _ (by omega)]
      exact Int.ediv_nonneg m0 (by omega)
    have f1 : m.fdiv d ≤ 1000 := by
      rw [Int.fdiv_eq_ediv_of_nonneg _ (by omega)]
      exact Int.le_trans (Int.ediv_le_self _ m0) m1
    generalize m.fdiv d = f at f0 f1
    -- numbers = []
    refine ⟨Nat.zero_le _, fun l hl => ?_⟩
    have hlH : H l = none := fresh_back e1 hl
    have nql : q ≠ l := ne_of_none upd_same hl
    have nlq : l ≠ q := Ne.symm nql
    refine ⟨_, rfl, q, rfl, ⟨_, SqL.of (by rw [upd_ne nql]; exact upd_same)⟩, for_list (K := K) (a := q) (xs := cs.map V.int) (fun i σ H' => ∃ (ks : List Int) (v5 v6 : Option V), σ = [some (.ref p), some (.int m), some (.ref q), some (.int (1 + f)), some (.ref l), v5, v6] ∧
      Ex H H' ∧ H' q = some (.lst (cs.map V.int)) ∧ H' l = some (.lst (ks.map V.int)) ∧ ks.length ≤ i * 1001 ∧ Small ks) ?_ ?_ ?_ ?_⟩
    · exact ⟨[], none, none, rfl, e1.trans (Ex.new hl), by rw [upd_ne nql]; exact upd_same, upd_same, by simp, fun n hn => by cases hn⟩
    · rintro i σ H' _ ⟨ks, v5, v6, rfl, e, hQ, hL, _⟩
      exact SqL.of hQ
    · rintro i y σ H' hi ⟨ks, v5, v6, rfl, e, hQ, hL, hn, hs⟩
      have hi63 : i < cs.length := by
        have z := (List.getElem?_eq_some_iff.mp hi).1
        rw [hlc] at z
        exact z
      obtain ⟨c, rfl⟩ : ∃ c, y = V.int c := by
        rw [List.getElem?_map] at hi
        cases z : cs[i]? with
        | none =>
          rw [z] at hi
          cases hi
        | some c =>
          rw [z] at hi
          exact ⟨c, (Option.some.inj hi).symm⟩
      -- for number in _law_row(cell, each)
      refine ⟨_, rfl, _, rfl, c, 1 + f, rfl, by omega, by omega, fun H2 r rs e2 hr hR hrl hrs => ⟨r, rfl, ⟨_, SqL.of hR⟩, ?_⟩⟩
      have nrl : r ≠ l := Ne.symm (ne_of_none hL hr)
      have nrq : q ≠ r := ne_of_none hQ hr
      have nlr : l ≠ r := Ne.symm nrl
      refine for_list (K := K) (a := r) (xs := rs.map V.int) (fun j σ H' => ∃ (ks' : List Int) (v6 : Option V), σ = [some (.ref p), some (.int m), some (.ref q), some (.int (1 + f)), some (.ref l), some (.int c), v6] ∧
        Ex H H' ∧ H' q = some (.lst (cs.map V.int)) ∧ H' r = some (.lst (rs.map V.int)) ∧ H' l = some (.lst (ks'.map V.int)) ∧ ks'.length = ks.length + j ∧ Small ks') ?_ ?_ ?_ ?_
      · exact ⟨ks, v6, rfl, e.trans e2, e2 _ _ hQ, hR, e2 _ _ hL, rfl, hs⟩
      · rintro j σ H' _ ⟨ks', v6, rfl, _, _, h3, _⟩
        exact SqL.of h3
      · rintro j y σ H' hj ⟨ks', v6, rfl, e3, hQ3, hR3, hL3, hn3, hs3⟩
        have hjr : j < rs.length := by
          have z := (List.getElem?_eq_some_iff.mp hj).1
          rw [List.length_map] at z
          exact z
        obtain ⟨n, hnm, rfl⟩ : ∃ n, n ∈ rs ∧ y = V.int n := by
          rw [List.getElem?_map] at hj
          cases z : rs[j]? with
          | none =>
            rw [z] at hj
            cases hj
          | some n =>
            rw [z] at hj
            exact ⟨n, List.mem_of_getElem? z, (Option.some.inj hj).symm⟩
        refine ⟨_, rfl, .inl ⟨rfl, _, SqL.of hL3⟩, _, rfl, l, _, _, rfl, rfl, hL3, sz_lt (by rw [List.length_map]; omega), ?_⟩
        exact ⟨ks' ++ [n], _, rfl, Ex.mut e3 hlH, by rw [upd_ne nql]; exact hQ3, by rw [upd_ne nrl]; exact hR3, by rw [upd_same, List.map_append] <;> rfl, by rw [List.length_append, hn3] <;> rfl, small_snoc hs3 (hrs n hnm).1 (hrs n hnm).2⟩
      · rintro σ H' ⟨ks', v6, rfl, e3, hQ3, hR3, hL3, hn3, hs3⟩
        rw [List.length_map] at hn3
        exact ⟨ks', _, _, rfl, e3, hQ3, hL3, by omega, hs3⟩
    · rintro σ H' ⟨ks, v5, v6, rfl, e, hQ, hL, hn, hs⟩
      rw [hlc] at hn
      -- while len(numbers) < many
      refine ⟨fun j σ H' => ∃ ks' : List Int, j = (m.toNat - ks'.length) ∧ σ = [some (.ref p), some (.int m), some (.ref q), some (.int (1 + f)), some (.ref l), v5, v6] ∧ Ex H H' ∧ H' l = some (.lst (ks'.map V.int)) ∧ ks'.length ≤ 70000 ∧ Small ks',
        ⟨_, ks, rfl, rfl, e, hL, by omega, hs⟩, ?_⟩
      rintro j σ H' ⟨ks', rfl, rfl, e3, hL3, hn3, hs3⟩
      have hlk : (ks'.map V.int).length = ks'.length := List.length_map ..
      refine ⟨_, rfl, l, _, rfl, .inl (SqL.of hL3), _, rfl, _, _, rfl, rfl, _, rfl, ?_⟩
      refine ite2 (fun lt => ?_) (fun ge => ?_)
      · have lt' : (ks'.length : Int) < m := by
          have z := of_decide_eq_true lt
          rw [hlk] at z
          exact z
        refine ⟨_, fun σ' H' z => z, ?_⟩
        refine ⟨_, rfl, .inl ⟨rfl, _, SqL.of hL3⟩, l, _, _, rfl, rfl, hL3, sz_lt (by rw [hlk]; omega), ?_⟩
        exact ⟨_, by show m.toNat - (ks' ++ [0]).length < _; rw [List.length_append, List.length_singleton]; omega, ks' ++ [0], rfl, rfl, Ex.mut e3 hlH, by rw [upd_same, List.map_append] <;> rfl, by rw [List.length_append, List.length_singleton]; omega, small_snoc hs3 (by decide) (by decide)⟩
      · have ge' : m ≤ (ks'.length : Int) := by
          have z : ¬ ((ks'.map V.int).length : Int) < m := fun z => ge (decide_eq_true z)
          rw [hlk] at z
          omega
        -- return numbers[:many]
        refine ⟨_, rfl, _, rfl, _, rfl, l, _, rfl, SqL.of hL3, fun u hu => ?_⟩
        have em : m = ((m.toNat : Nat) : Int) := by omega
        have hcu : cutV (ks'.map V.int) none (some m) = (ks'.take m.toNat).map V.int := by
          rw [em, cutV_to, List.map_take]
          rfl
        show Q (.ref u) (upd H' u (.lst (cutV (ks'.map V.int) none (some m))))
        rw [hcu]
        refine k _ u (ks'.take m.toNat) (e3.trans (Ex.new hu)) (fresh_back e3 hu) upd_same ?_ (fun x hx => hs3 x (List.mem_of_mem_take hx))
        rw [List.length_take]
        omega
end
end EV

set_option Elab.async false
set_option linter.all false
set_option maxRecDepth 100000
set_option maxHeartbeats 4000000
namespace EV
open PySem PySem.Spec PyProof.Rows L2 EvS Evl
/-! ### the data of a land -/
structure Link where
  n : Str
  o : Str
  t : Str
  ts : List (Option (Int × Int))
structure LandD where
  ws : List Str
  ps : List Str
  ls : List Link
  pa : List (Str × Str × Int)
def dTime : Option (Int × Int) → PyData
  | none => .none
  | some b => .tuple [.int b.1, .int b.2]
def dRaw (k : Link) : PyData := .tuple [.str k.n, .str k.o, .str k.t, .list (k.ts.map dTime)]
def dLink (k : Link) : PyData := .tuple [.str k.n, .str k.o, .str k.t, .tuple (k.ts.map dTime)]
def dPath (p : Str × Str × Int) : PyData := .tuple [.str p.1, .str p.2.1, .int p.2.2]
def dParts (D : LandD) : PyData := .list [.list (D.ws.map .str), .list (D.ps.map .str), .list (D.ls.map dRaw), .list (D.pa.map dPath)]
def dLand (D : LandD) : PyData := .tuple [.tuple (D.ws.map .str), .tuple (D.ps.map .str), .tuple (D.ls.map dLink), .tuple (D.pa.map dPath)]
def Good (ns : List Str) : Prop := (∀ n ∈ ns, isName n = true) ∧ ns.Nodup
def TimeOk : Option (Int × Int) → Prop
  | none => True
  | some b => 1 ≤ b.1 ∧ b.1 ≤ b.2 ∧ b.2 ≤ 1000
structure LinkOk (ws ps : List Str) (k : Link) : Prop where
  o : k.o ∈ ps
  t : k.t ∈ ps
  ne : k.o ≠ k.t
  len : k.ts.length = ws.length
  ok : ∀ b ∈ k.ts, TimeOk b
structure PathOk (ps : List Str) (p : Str × Str × Int) : Prop where
  o : p.1 ∈ ps
  t : p.2.1 ∈ ps
  ne : p.1 ≠ p.2.1
  lo : 1 ≤ p.2.2
  hi : p.2.2 ≤ 1000
def Apart (p q : Str × Str) : Prop := ¬ [p.1, p.2].Perm [q.1, q.2]
structure LandOk (D : LandD) : Prop where
  w1 : 1 ≤ D.ws.length
  w4 : D.ws.length ≤ 4
  p1 : 1 ≤ D.ps.length
  p24 : D.ps.length ≤ 24
  l60 : D.ls.length ≤ 60
  a60 : D.pa.length ≤ 60
  gw : Good D.ws
  gp : Good D.ps
  gl : Good (D.ls.map (·.n))
  lk : ∀ k ∈ D.ls, LinkOk D.ws D.ps k
  pt : ∀ p ∈ D.pa, PathOk D.ps p
  ap : (D.pa.map fun p => (p.1, p.2.1)).Pairwise Apart
theorem name_len {z : Str} (h : isName z = true) : 1 ≤ z.length ∧ z.length ≤ 12 := by
  unfold isName at h
  rw [Bool.and_eq_true, Bool.and_eq_true] at h
  exact of_decide_eq_true h.1.1
/-! ### data that stands -/
mutual
theorem dp_ex {K : PySem.W.Frag} {H H' : Hp} (e : Ex H H') : ∀ {v : V} {d : PyData}, Dp K H v d → Dp K H' v d
  | _, _, .non => .non
  | _, _, .bl b => .bl b
  | _, _, .int i => .int i
  | _, _, .str x => .str x
  | _, _, .lst h r => .lst (ex_l e h) (dps_ex e r)
  | _, _, .tup h r => .tup (ex_t e h) (dps_ex e r)
theorem dps_ex {K : PySem.W.Frag} {H H' : Hp} (e : Ex H H') : ∀ {vs : List V} {ds : List PyData}, DpAll K H vs ds → DpAll K H' vs ds
  | _, _, .nil => .nil
  | _, _, .cons h r => .cons (dp_ex e h) (dps_ex e r)
end
theorem dps_len {K : PySem.W.Frag} {H : Hp} : ∀ {vs : List V} {ds : List PyData}, DpAll K H vs ds → vs.length = ds.length
  | _, _, .nil => rfl
  | _, _, .cons _ r => congrArg Nat.succ (dps_len r)
theorem dps_at {K : PySem.W.Frag} {H : Hp} : ∀ {vs : List V} {ds : List PyData} {i : Nat} {v : V}, DpAll K H vs ds → vs[i]? = some v → ∃ d, ds[i]? = some d ∧ Dp K H v d
  | _, _, _, _, .nil, h => by simp at h
  | _, _, 0, _, .cons h _, e => by
    simp only [List.getElem?_cons_zero, Option.some.injEq] at e
    subst e
    exact ⟨_, rfl, h⟩
  | _, _, i + 1, _, .cons _ r, e => by
    simp only [List.getElem?_cons_succ] at e
    exact dps_at (i := i) r e
theorem dps_app {K : PySem.W.Frag} {H : Hp} : ∀ {vs us : List V} {ds es : List PyData}, DpAll K H vs ds → DpAll K H us es → DpAll K H (vs ++ us) (ds ++ es)
  | _, _, _, _, .nil, b => b
  | _, _, _, _, .cons h r, b => .cons h (dps_app r b)
theorem dps_one {K : PySem.W.Frag} {H : Hp} {v : V} {d : PyData} (h : Dp K H v d) : DpAll K H [v] [d] := .cons h .nil
theorem dps_str {K : PySem.W.Frag} {H : Hp} : ∀ ns : List Str, DpAll K H (ns.map V.str) (ns.map PyData.str)
  | [] => .nil
  | n :: r => .cons (.str n) (dps_str r)
theorem dps_strs {K : PySem.W.Frag} {H : Hp} : ∀ {ns : List Str} {vs : List V}, DpAll K H vs (ns.map PyData.str) → vs = ns.map V.str
  | [], _, .nil => rfl
  | n :: r, _, .cons h t => by
    cases h
    rw [dps_strs t]
    rfl
def Seq2 (K : PySem.W.Frag) (H : Hp) (p : Addr) (xs : List V) : Prop := SqL K H p xs ∨ SqT K H p xs
theorem Seq2.ex {K : PySem.W.Frag} {H H' : Hp} {p : Addr} {xs : List V} (e : Ex H H') (h : Seq2 K H p xs) : Seq2 K H' p xs := h.elim (fun q => .inl (ex_l e q)) (fun q => .inr (ex_t e q))
/-- a link as it is handed in: its times are a list or a tuple -/
def LinkIn (K : PySem.W.Frag) (H : Hp) (v : V) (k : Link) : Prop := ∃ t u vs, v = .ref t ∧ SqT K H t [.str k.n, .str k.o, .str k.t, .ref u] ∧ Seq2 K H u vs ∧ DpAll K H vs (k.ts.map dTime)
theorem LinkIn.ex {K : PySem.W.Frag} {H H' : Hp} {v : V} {k : Link} (e : Ex H H') (h : LinkIn K H v k) : LinkIn K H' v k := by
  obtain ⟨t, u, vs, rfl, h1, h2, h3⟩ := h
  exact ⟨t, u, vs, rfl, ex_t e h1, h2.ex e, dps_ex e h3⟩
theorem raw_in {K : PySem.W.Frag} {H : Hp} {v : V} {k : Link} (h : Dp K H v (dRaw k)) : LinkIn K H v k := by
  unfold dRaw at h
  cases h with
  | tup hs hr =>
    cases hr with
    | cons a1 hr =>
      cases a1
      cases hr with
      | cons a2 hr =>
        cases a2
        cases hr with
        | cons a3 hr =>
          cases a3
          cases hr with
          | cons a4 hr =>
            cases hr
            cases a4 with
            | lst hl ha => exact ⟨_, _, _, rfl, hs, .inl hl, ha⟩
theorem made_in {K : PySem.W.Frag} {H : Hp} {v : V} {k : Link} (h : Dp K H v (dLink k)) : LinkIn K H v k := by
  unfold dLink at h
  cases h with
  | tup hs hr =>
    cases hr with
    | cons a1 hr =>
      cases a1
      cases hr with
      | cons a2 hr =>
        cases a2
        cases hr with
        | cons a3 hr =>
          cases a3
          cases hr with
          | cons a4 hr =>
            cases hr
            cases a4 with
            | tup hl ha => exact ⟨_, _, _, rfl, hs, .inr hl, ha⟩
theorem path_in {K : PySem.W.Frag} {H : Hp} {v : V} {p : Str × Str × Int} (h : Dp K H v (dPath p)) : ∃ t, v = .ref t ∧ SqT K H t [.str p.1, .str p.2.1, .int p.2.2] := by
  unfold dPath at h
  cases h with
  | tup hs hr =>
    cases hr with
    | cons a1 hr =>
      cases a1
      cases hr with
      | cons a2 hr =>
        cases a2
        cases hr with
        | cons a3 hr =>
          cases a3
          cases hr
          exact ⟨_, rfl, hs⟩
/-- a land as it stands -/
def landFs (wi pl li pa : Addr) : List (Str × V) := putF "paths" (.ref pa) (putF "links" (.ref li) (putF "places" (.ref pl) (putF "winds" (.ref wi) [])))
structure LandAt (K : PySem.W.Frag) (C : Addr) (H : Hp) (x : Addr) (D : LandD) (dx wi pl li pa : Addr) (rows prs : List V) : Prop where
  ob : H x = some (.ins C dx (landFs wi pl li pa))
  wi : TupX.Bare H wi (D.ws.map V.str)
  pl : SqT K H pl (D.ps.map V.str)
  li : SqT K H li rows
  ls : DpAll K H rows (D.ls.map dLink)
  pa : SqT K H pa prs
  ps : DpAll K H prs (D.pa.map dPath)
def IsLand (K : PySem.W.Frag) (C : Addr) (H : Hp) (x : Addr) (D : LandD) : Prop := ∃ dx wi pl li pa rows prs, LandAt K C H x D dx wi pl li pa rows prs
theorem IsLand.ex {K : PySem.W.Frag} {C : Addr} {H H' : Hp} {x : Addr} {D : LandD} (e : Ex H H') (h : IsLand K C H x D) : IsLand K C H' x D := by
  obtain ⟨dx, wi, pl, li, pa, rows, prs, L⟩ := h
  exact ⟨dx, wi, pl, li, pa, rows, prs, e _ _ L.ob, L.wi.ex e, ex_t e L.pl, ex_t e L.li, dps_ex e L.ls, ex_t e L.pa, dps_ex e L.ps⟩
theorem fs_winds (wi pl li pa : Addr) : (landFs wi pl li pa).lookup ("winds" : Str) = some (V.ref wi) := by
  unfold landFs
  rw [lookup_putF, if_neg (by decide +kernel), lookup_putF, if_neg (by decide +kernel), lookup_putF, if_neg (by decide +kernel), lookup_putF, if_pos rfl]
theorem fs_places (wi pl li pa : Addr) : (landFs wi pl li pa).lookup ("places" : Str) = some (V.ref pl) := by
  unfold landFs
  rw [lookup_putF, if_neg (by decide +kernel), lookup_putF, if_neg (by decide +kernel), lookup_putF, if_pos rfl]
theorem fs_links (wi pl li pa : Addr) : (landFs wi pl li pa).lookup ("links" : Str) = some (V.ref li) := by
  unfold landFs
  rw [lookup_putF, if_neg (by decide +kernel), lookup_putF, if_pos rfl]
theorem fs_paths (wi pl li pa : Addr) : (landFs wi pl li pa).lookup ("paths" : Str) = some (V.ref pa) := by
  unfold landFs
  rw [lookup_putF, if_pos rfl]
/-! ### the checks, where all is well -/
theorem flat_str (ys : List Str) : (ys.map V.str).all flatV = true := by
  rw [List.all_map]
  exact List.all_eq_true.mpr fun _ _ => rfl
theorem inV_str {z : Str} {ys : List Str} (h : z ∈ ys) : inV (.str z) (ys.map V.str) = true := by
  unfold inV
  rw [List.any_map, List.any_eq_true]
  refine ⟨z, h, ?_⟩
  show (z == z) = true
  exact beq_self_eq_true z
def sp__check_count (K : PySem.W.Frag) : Sp := fun vs H Q _ => ∃ (z : Str) (p : Addr) (xs : List V) (lo hi : Int), vs = [.str z, .ref p, .int lo, .int hi] ∧ Seq2 K H p xs ∧ lo ≤ xs.length ∧ (xs.length : Int) ≤ hi ∧ Q .non H
def sp__check_names (K : PySem.W.Frag) : Sp := fun vs H Q _ => ∃ (z : Str) (p : Addr) (ns : List Str), vs = [.str z, .ref p] ∧ Seq2 K H p (ns.map V.str) ∧ ns.length ≤ 1000 ∧ Good ns ∧ ∀ H', Ex H H' → Q .non H'
def sp__check_ends (K : PySem.W.Frag) : Sp := fun vs H Q _ => ∃ (z one other : Str) (p : Addr) (ps : List Str), vs = [.str z, .str one, .str other, .ref p] ∧ Seq2 K H p (ps.map V.str) ∧ one ∈ ps ∧ other ∈ ps ∧ one ≠ other ∧ Q .non H
def sp__as_bounds (K : PySem.W.Frag) : Sp := fun vs H Q _ => ∃ (v : V) (b : Option (Int × Int)), vs = [v] ∧ Dp K H v (dTime b) ∧ TimeOk b ∧ ∀ v' H', Ex H H' → Dp K H' v' (dTime b) → Q v' H'
def sp__as_link (K : PySem.W.Frag) : Sp := fun vs H Q _ => ∃ (v : V) (wi pl : Addr) (ws ps : List Str) (k : Link), vs = [v, .ref wi, .ref pl] ∧ LinkIn K H v k ∧ Seq2 K H wi (ws.map V.str) ∧ Seq2 K H pl (ps.map V.str) ∧ LinkOk ws ps k ∧ ws.length ≤ 100 ∧
  ∀ H' p, Ex H H' → H p = none → Dp K H' (.ref p) (dLink k) → Q (.ref p) H'
def sp__as_path (K : PySem.W.Frag) : Sp := fun vs H Q _ => ∃ (v : V) (pl : Addr) (ps : List Str) (p : Str × Str × Int), vs = [v, .ref pl] ∧ Dp K H v (dPath p) ∧ Seq2 K H pl (ps.map V.str) ∧ PathOk ps p ∧ ∀ H' q, Ex H H' → H q = none → Dp K H' (.ref q) (dPath p) → Q (.ref q) H'
def sp__check_single_paths (K : PySem.W.Frag) : Sp := fun vs H Q _ => ∃ (p : Addr) (prs : List V) (pa : List (Str × Str × Int)), vs = [.ref p] ∧ SqT K H p prs ∧ DpAll K H prs (pa.map dPath) ∧ pa.length ≤ 60 ∧ (pa.map fun p => (p.1, p.2.1)).Pairwise Apart ∧ ∀ H', Ex H H' → Q .non H'
def sp_link_names (K : PySem.W.Frag) (C : Addr) : Sp := fun vs H Q _ => ∃ (x dx : Addr) (fs : List (Str × V)) (l : Addr) (rows : List V) (ls : List Link), vs = [.ref x] ∧ H x = some (.ins C dx fs) ∧ fs.lookup ("links" : Str) = some (V.ref l) ∧ SqT K H l rows ∧ DpAll K H rows (ls.map dLink) ∧ ls.length ≤ 1000 ∧
  ∀ H' p, Ex H H' → H p = none → TupX.Bare H' p ((ls.map (·.n)).map V.str) → Q (.ref p) H'
section
variable {P : Program} {w : World} {K : PySem.W.Frag} {mg : Str → Option Value} {base : Heap} {a : Ad}
theorem G__check_count (T : Txt K mg a) : FnOk P w K mg base CX0 1 a.f__check_count a.d__check_count ["sort", "rows", "least", "most"] (sp__check_count K) := by
  refine T.F__check_count.ok sc__check_count (fun vs H Q E h => ?_) (fun cdv A outer s H vs Q E hr h => ?_)
  · obtain ⟨z, p, xs, lo, hi, rfl, _⟩ := h
    rfl
  · obtain ⟨z, p, xs, lo, hi, rfl, hS, h1, h2, k⟩ := h
    refine ⟨_, (pss_one (ps_if (pt_not (pt_chain op_le op_le (pv 2) (pe_callB call_len_seq (by rfl) T.z_len PySem.boot_len (pa_cons (pv 1) pa_nil)) (pv 3))) pss_any pss_nil)), ?_⟩
    refine ⟨_, rfl, _, rfl, p, _, rfl, hS, _, _, rfl, rfl, _, rfl, ?_⟩
    refine ite2 (fun _ => ?_) (fun n => absurd (decide_eq_true h1) n)
    exact ⟨_, rfl, _, _, rfl, rfl, _, rfl, iteNS h2 k⟩
theorem G__check_names (T : Txt K mg a) : FnOk P w K mg base CX0 2 a.f__check_names a.d__check_names ["sort", "names"] (sp__check_names K) := by
  refine T.F__check_names.ok sc__check_names (fun vs H Q E h => ?_) (fun cdv A outer s H vs Q E hr h => ?_)
  · obtain ⟨z, p, ns, rfl, _⟩ := h
    rfl
  · obtain ⟨z, p, ns, rfl, hS, hl, hg, k⟩ := h
    refine ⟨_, (pss_cons (ps_for PassesOwn.never rfl (pi_or (pi_list (pv 1)) (pi_tup (pv 1))) (pg_name (i := 2) sc__check_names.nd rfl (Or.inl rfl)) (pss_one (ps_if (pt_not (pt_val (pe_call (G_is_name T) (hr.mono (by decide)) (by rfl) T.g_is_name T.k_is_name T.B_is_name .nil pass0 (pa_cons (pv 2) pa_nil)))) pss_any pss_nil)))
      (pss_one (ps_if (pt_cmpR op_ne (pe_lenSetS rfl (by rfl) T.z_len (by rfl) T.z_set (pv 1)) (pe_callB call_len_seq (by rfl) T.z_len PySem.boot_len (pa_cons (pv 1) pa_nil)) (nomark _)) pss_any pss_nil))), ?_⟩
    have hlen : (ns.map V.str).length = ns.length := List.length_map ..
    have pick : ∀ {i : Nat} {y : V}, (ns.map V.str)[i]? = some y → ∃ n, n ∈ ns ∧ y = .str n := fun {i y} hy => by
      rw [List.getElem?_map] at hy
      cases q : ns[i]? with
      | none =>
        rw [q] at hy
        cases hy
      | some n =>
        rw [q] at hy
        exact ⟨n, List.mem_of_getElem? q, (Option.some.inj hy).symm⟩
    have dl := (dd_len_eq ns [] List.nodup_nil).mpr (by rw [List.nil_append]; exact hg.2)
    rw [List.length_nil, Nat.zero_add] at dl
    rcases hS with hS | hS
    · refine .inl ⟨_, rfl, p, rfl, ⟨_, hS⟩, for_list (K := K) (a := p) (xs := ns.map V.str) (fun i σ H' => ∃ v, σ = [some (V.str z), some (V.ref p), v] ∧ Ex H H') ⟨none, rfl, Ex.refl H⟩ ?_ ?_ ?_⟩
      · rintro i σ H' _ ⟨v, rfl, e⟩
        exact ex_l e hS
      · rintro i y σ H' hy ⟨v, rfl, e⟩
        obtain ⟨n, hn, rfl⟩ := pick hy
        have nl := name_len (hg.1 n hn)
        refine ⟨_, rfl, n, rfl, by omega, fun H2 e2 => ⟨_, rfl, ?_⟩⟩
        rw [hg.1 n hn]
        exact iteF ⟨_, rfl, e.trans e2⟩
      · rintro σ H' ⟨v, rfl, e⟩
        refine ⟨_, rfl, p, ns, rfl, .inl (ex_l e hS), by omega, _, rfl, p, _, rfl, .inl (ex_l e hS), rfl, _, rfl, ?_⟩
        rw [hlen, dl]
        exact iteNS rfl (k _ e)
    · refine .inr ⟨_, rfl, p, rfl, ⟨_, hS⟩, for_tup (K := K) (a := p) (xs := ns.map V.str) (fun i σ H' => ∃ v, σ = [some (V.str z), some (V.ref p), v] ∧ Ex H H') ⟨none, rfl, Ex.refl H⟩ ?_ ?_ ?_⟩
      · rintro i σ H' _ ⟨v, rfl, e⟩
        exact ex_t e hS
      · rintro i y σ H' hy ⟨v, rfl, e⟩
        obtain ⟨n, hn, rfl⟩ := pick hy
        have nl := name_len (hg.1 n hn)
        refine ⟨_, rfl, n, rfl, by omega, fun H2 e2 => ⟨_, rfl, ?_⟩⟩
        rw [hg.1 n hn]
        exact iteF ⟨_, rfl, e.trans e2⟩
      · rintro σ H' ⟨v, rfl, e⟩
        refine ⟨_, rfl, p, ns, rfl, .inr (ex_t e hS), by omega, _, rfl, p, _, rfl, .inr (ex_t e hS), rfl, _, rfl, ?_⟩
        rw [hlen, dl]
        exact iteNS rfl (k _ e)
theorem G__check_ends (T : Txt K mg a) : FnOk P w K mg base CX0 1 a.f__check_ends a.d__check_ends ["sort", "one", "other", "places"] (sp__check_ends K) := by
  refine T.F__check_ends.ok sc__check_ends (fun vs H Q E h => ?_) (fun cdv A outer s H vs Q E hr h => ?_)
  · obtain ⟨z, one, other, p, ps, rfl, _⟩ := h
    rfl
  · obtain ⟨z, one, other, p, ps, rfl, hS, h1, h2, h3, k⟩ := h
    refine ⟨_, (pss_cons (ps_if (PW.pt (pw_or (pt_cmpR op_notIn_seq (pv 1) (pv 3) (by rfl)) (pw_or1 (pt_cmpR op_notIn_seq (pv 2) (pv 3) (by rfl))))) pss_any pss_nil)
      (pss_one (ps_if (pt_cmpR op_eq (pv 1) (pv 2) (nomark _)) pss_any pss_nil))), ?_⟩
    refine ⟨_, rfl, _, rfl, p, _, rfl, hS, rfl, flat_str _, _, rfl, ?_⟩
    rw [inV_str h1]
    refine iteF ⟨_, rfl, _, rfl, p, _, rfl, hS, rfl, flat_str _, _, rfl, ?_⟩
    rw [inV_str h2]
    refine iteF ?_
    refine ⟨_, rfl, _, rfl, rfl, _, rfl, ?_⟩
    rw [decide_eq_false (fun q => h3 (V.str.inj q))]
    exact iteF k
theorem G__as_bounds (T : Txt K mg a) : FnOk P w K mg base CX0 1 a.f__as_bounds a.d__as_bounds ["bounds"] (sp__as_bounds K) := by
  refine T.F__as_bounds.ok sc__as_bounds (fun vs H Q E h => ?_) (fun cdv A outer s H vs Q E hr h => ?_)
  · obtain ⟨v, b, rfl, _⟩ := h
    rfl
  · obtain ⟨v, b, rfl, hv, hok, k⟩ := h
    refine ⟨_, (pss_cons (ps_if (pt_cmpR op_isN (pv 0) pe_non (nomark _)) (pss_one (ps_ret pe_non)) pss_nil)
      (pss_cons (ps_if (pt_cmpR op_ne (pe_callB call_len_seq (by rfl) T.z_len PySem.boot_len (pa_cons (pv 0) pa_nil)) pe_int (nomark _)) pss_any pss_nil)
      (pss_cons (ps_asg (pv 0) (pg_tup (by rfl) (pgs_cons (pg_name (i := 1) sc__as_bounds.nd rfl (Or.inl rfl)) (pgs_cons (pg_name (i := 2) sc__as_bounds.nd rfl (Or.inl rfl)) pgs_nil))))
      (pss_cons (ps_if (pt_not (pt_chain3 op_le op_le op_le pe_int (pv 1) (pv 2) (pe_gI rfl T.c_MOST_MINUTES))) pss_any pss_nil)
      (pss_one (ps_ret (pe_tup (pa_cons (pv 1) (pa_cons (pv 2) pa_nil))))))))), ?_⟩
    cases b with
    | none =>
      cases hv
      exact ⟨_, rfl, rfl, _, rfl, iteT (k .non H (Ex.refl H) .non)⟩
    | some b =>
      obtain ⟨lo, hi⟩ := b
      obtain ⟨o1, o2, o3⟩ := hok
      cases hv with
      | tup hs hr =>
        cases hr with
        | cons a1 hr =>
          cases a1
          cases hr with
          | cons a2 hr =>
            cases a2
            cases hr
            rename_i p
            refine ⟨_, rfl, rfl, _, rfl, iteF ?_⟩
            refine ⟨_, rfl, p, _, rfl, .inr hs, rfl, _, rfl, iteNS rfl ?_⟩
            refine ⟨_, rfl, p, _, rfl, hs, rfl, _, _, rfl, _, _, rfl, rfl, ?_⟩
            refine ⟨_, rfl, _, _, rfl, rfl, _, rfl, ?_⟩
            refine ite2 (fun _ => ?_) (fun n => absurd (decide_eq_true o1) n)
            refine ⟨_, rfl, _, _, rfl, rfl, _, rfl, ?_⟩
            refine ite2 (fun _ => ?_) (fun n => absurd (decide_eq_true o2) n)
            refine ⟨_, _, rfl, rfl, _, rfl, iteNS o3 ?_⟩
            refine ⟨_, rfl, _, rfl, by show 2 ≤ sizeLine; decide, fun q hq => ?_⟩
            exact k _ _ (Ex.new hq) (.tup (st_of upd_same) (.cons (.int lo) (.cons (.int hi) .nil)))
theorem G_link_names (T : Txt K mg a) : FnOk P w K mg base CX0 1 a.f_link_names a.d_link_names ["self"] (sp_link_names K a.C) := by
  refine T.F_link_names.ok sc_link_names (fun vs H Q E h => ?_) (fun cdv A outer s H vs Q E hr h => ?_)
  · obtain ⟨x, dx, fs, l, rows, ls, rfl, _⟩ := h
    rfl
  · obtain ⟨x, dx, fs, l, rows, ls, rfl, hx, hf, hl, hd, hmax, k⟩ := h
    have hlen : rows.length = ls.length := by rw [dps_len hd, List.length_map]
    refine ⟨_, (pss_one (ps_ret (pe_callTy TupX.call_tupF (by rfl) T.z_tuple (by decide +kernel) (pa_cons (pe_lc (own := [("link", 1)]) (g := gName 1) (tt := tYes) rfl sc_link_names.nd (pi_tup (pe_fld (pv 0) rfl)) (blkOk_by (N := ["self", "link"]) (sc := defScope s_link_names) (by decide +kernel)) (fun _ _ _ _ _ => pg_name (i := 1) sc_link_names.nd rfl (Or.inl rfl)) (fun _ _ _ _ _ => pts_nil) (fun _ _ _ _ _ => (pe_ix (show IxR _ (rIxT K) from ix_tup) (pv 1) pe_int (fun _ _ => rfl)))) pa_nil)))), ?_⟩
    refine ⟨_, rfl, x, _, dx, fs, _, rfl, hx, T.cl, T.nL, hf, l, rfl, ⟨_, hl⟩, fun D hD => lcY_tup (K := K) (a := l) (xs := rows) (fun i H' => Ex H H' ∧ H' D = some (.lst (((ls.map (·.n)).take i).map V.str))) ⟨Ex.new hD, upd_same⟩ (fun i H' _ p => ex_t p.1 hl) (fun i r H' hi p => ?_) (fun H' p => ?_)⟩
    · obtain ⟨d, hd1, hd2⟩ := dps_at hd hi
      have hil : i < rows.length := (List.getElem?_eq_some_iff.mp hi).1
      obtain ⟨k0, hk0⟩ : ∃ k0, ls[i]? = some k0 := ⟨ls[i]'(by omega), List.getElem?_eq_getElem (by omega)⟩
      rw [List.getElem?_map, hk0] at hd1
      obtain rfl : dLink k0 = d := Option.some.inj hd1
      obtain ⟨t, u, vs, rfl, hT, _, _⟩ := made_in hd2
      refine ⟨rfl, _, rfl, t, _, 0, .str k0.n, rfl, rfl, ex_t p.1 hT, atI_nat (j := 0) rfl, _, p.2, sz_lt (by rw [List.length_map, List.length_take, List.length_map]; omega), Ex.mut p.1 hD, ?_⟩
      rw [upd_same, List.take_add_one, List.getElem?_map, hk0, List.map_append]
      rfl
    · rw [hlen, ← List.length_map (f := (·.n)), List.take_length] at p
      exact ⟨D, _, rfl, SqL.of p.2, fun q H2 hq e2 hb => k H2 q (p.1.trans e2) (fresh_back p.1 hq) hb⟩
end
end EV

set_option Elab.async false
set_option linter.all false
set_option maxRecDepth 100000
set_option maxHeartbeats 4000000
namespace EV
open PySem PySem.Spec PyProof.Rows L2 EvS Evl
/-! ### data without lists stands while lists change -/
mutual
def frozen : PyData → Bool
  | .none => true
  | .bool _ => true
  | .int _ => true
  | .str _ => true
  | .tuple ds => frozenAll ds
  | .list _ => false
  | .dict _ => false
def frozenAll : List PyData → Bool
  | [] => true
  | d :: ds => frozen d && frozenAll ds
end
theorem frozenAll_of : ∀ {ds : List PyData}, (∀ d ∈ ds, frozen d = true) → frozenAll ds = true
  | [], _ => by simp [frozenAll]
  | d :: ds, h => by
    rw [frozenAll, h d List.mem_cons_self, frozenAll_of fun x hx => h x (List.mem_cons_of_mem _ hx)]
    rfl
theorem frozen_time (b : Option (Int × Int)) : frozen (dTime b) = true := by cases b <;> simp [dTime, frozen, frozenAll]
theorem frozen_times (ts : List (Option (Int × Int))) : frozenAll (ts.map dTime) = true := frozenAll_of fun d hd => by
  obtain ⟨b, _, rfl⟩ := List.mem_map.mp hd
  exact frozen_time b
theorem frozen_link (k : Link) : frozen (dLink k) = true := by simp [dLink, frozen, frozenAll, frozen_times]
theorem frozen_path (p : Str × Str × Int) : frozen (dPath p) = true := by simp [dPath, frozen, frozenAll]
theorem frozen_links (ls : List Link) : frozenAll (ls.map dLink) = true := frozenAll_of fun d hd => by
  obtain ⟨b, _, rfl⟩ := List.mem_map.mp hd
  exact frozen_link b
theorem frozen_paths (ls : List (Str × Str × Int)) : frozenAll (ls.map dPath) = true := frozenAll_of fun d hd => by
  obtain ⟨b, _, rfl⟩ := List.mem_map.mp hd
  exact frozen_path b
theorem frozen_strs (ls : List Str) : frozenAll (ls.map PyData.str) = true := frozenAll_of fun d hd => by
  obtain ⟨b, _, rfl⟩ := List.mem_map.mp hd
  simp [frozen]
theorem frozen_land (D : LandD) : frozen (dLand D) = true := by simp [dLand, frozen, frozenAll, frozen_links, frozen_paths, frozen_strs]
def ExT (H H' : Hp) : Prop := ∀ a xs, Rd H a (.tup xs) → Rd H' a (.tup xs)
theorem exT_of {H H' : Hp} (e : Ex H H') : ExT H H' := fun _ _ h => ex_rd e h
theorem ExT.trans {H H1 H2 : Hp} (a : ExT H H1) (b : ExT H1 H2) : ExT H H2 := fun x y h => b x y (a x y h)
theorem exT_mut {H : Hp} {l : Addr} {xs ys : List V} (h : H l = some (.lst xs)) : ExT H (upd H l (.lst ys)) := fun a zs r => by
  rcases r with r | ⟨o, r⟩
  · exact .inl (by rw [upd_ne (ne_of r h (by intro z; cases z))]; exact r)
  · exact .inr ⟨o, by rw [upd_ne (ne_of r h (by intro z; cases z))]; exact r⟩
theorem exT_t {K : PySem.W.Frag} {H H' : Hp} {p : Addr} {xs : List V} (e : ExT H H') (h : SqT K H p xs) : SqT K H' p xs := h.elim (fun r => .inl (e _ _ r)) .inr
mutual
theorem dp_exT {K : PySem.W.Frag} {H H' : Hp} (e : ExT H H') : ∀ {v : V} {d : PyData}, Dp K H v d → frozen d = true → Dp K H' v d
  | _, _, .non, _ => .non
  | _, _, .bl b, _ => .bl b
  | _, _, .int i, _ => .int i
  | _, _, .str x, _ => .str x
  | _, _, .lst _ _, f => by simp [frozen] at f
  | _, _, .tup h r, f => .tup (exT_t e h) (dps_exT e r (by simpa [frozen] using f))
theorem dps_exT {K : PySem.W.Frag} {H H' : Hp} (e : ExT H H') : ∀ {vs : List V} {ds : List PyData}, DpAll K H vs ds → frozenAll ds = true → DpAll K H' vs ds
  | _, _, .nil, _ => .nil
  | _, _, .cons h r, f => by
    simp only [frozenAll, Bool.and_eq_true] at f
    exact .cons (dp_exT e h f.1) (dps_exT e r f.2)
end
/-! ### side by side -/
inductive All2 {α β : Type} (R : α → β → Prop) : List α → List β → Prop
  | nil : All2 R [] []
  | cons {a : α} {b : β} {as : List α} {bs : List β} : R a b → All2 R as bs → All2 R (a :: as) (b :: bs)
theorem All2.len {α β : Type} {R : α → β → Prop} : ∀ {as : List α} {bs : List β}, All2 R as bs → as.length = bs.length
  | _, _, .nil => rfl
  | _, _, .cons _ r => congrArg Nat.succ r.len
theorem All2.mono {α β : Type} {R S : α → β → Prop} (f : ∀ a b, R a b → S a b) : ∀ {as : List α} {bs : List β}, All2 R as bs → All2 S as bs
  | _, _, .nil => .nil
  | _, _, .cons h r => .cons (f _ _ h) (r.mono f)
theorem All2.app {α β : Type} {R : α → β → Prop} : ∀ {as cs : List α} {bs ds : List β}, All2 R as bs → All2 R cs ds → All2 R (as ++ cs) (bs ++ ds)
  | _, _, _, _, .nil, b => b
  | _, _, _, _, .cons h r, b => .cons h (r.app b)
theorem All2.at {α β : Type} {R : α → β → Prop} : ∀ {as : List α} {bs : List β} (i : Nat) {a : α}, All2 R as bs → as[i]? = some a → ∃ b, bs[i]? = some b ∧ R a b
  | _, _, _, _, .nil, h => by simp at h
  | _, _, 0, _, .cons h _, e => by
    simp only [List.getElem?_cons_zero, Option.some.injEq] at e
    subst e
    exact ⟨_, rfl, h⟩
  | _, _, i + 1, _, .cons _ r, e => by
    simp only [List.getElem?_cons_succ] at e
    exact r.at i e
theorem all2_dps {β : Type} {K : PySem.W.Frag} {H : Hp} {f : β → PyData} {R : V → β → Prop} (g : ∀ v b, Dp K H v (f b) → R v b) : ∀ {vs : List V} {bs : List β}, DpAll K H vs (bs.map f) → All2 R vs bs
  | _, [], .nil => .nil
  | _, _ :: _, .cons h r => .cons (g _ _ h) (all2_dps g r)
theorem take_one {α : Type} {l : List α} {i : Nat} {x : α} (h : l[i]? = some x) : l.take (i + 1) = l.take i ++ [x] := by
  rw [List.take_add_one, h]
  rfl
section
variable {P : Program} {w : World} {K : PySem.W.Frag} {mg : Str → Option Value} {base : Heap} {a : Ad}
theorem G__as_link (T : Txt K mg a) : FnOk P w K mg base CX0 2 a.f__as_link a.d__as_link ["link", "winds", "places"] (sp__as_link K) := by
  refine T.F__as_link.ok sc__as_link (fun vs H Q E h => ?_) (fun cdv A outer s H vs Q E hr h => ?_)
  · obtain ⟨v, wi, pl, ws, ps, k0, rfl, _⟩ := h
    rfl
  · obtain ⟨v, wi, pl, ws, ps, k0, rfl, hv, hW, hP, ok, hmax, k⟩ := h
    obtain ⟨t, u, vs, rfl, hT, hU, hD0⟩ := hv
    have lv : vs.length = k0.ts.length := by rw [dps_len hD0, List.length_map]
    refine ⟨_, (pss_cons (ps_if (pt_cmpR op_ne (pe_callB call_len_seq (by rfl) T.z_len PySem.boot_len (pa_cons (pv 0) pa_nil)) pe_int (nomark _)) pss_any pss_nil)
      (pss_cons (ps_asg (pv 0) (pg_tup (by rfl) (pgs_cons (pg_name (i := 3) sc__as_link.nd rfl (Or.inl rfl)) (pgs_cons (pg_name (i := 4) sc__as_link.nd rfl (Or.inl rfl)) (pgs_cons (pg_name (i := 5) sc__as_link.nd rfl (Or.inl rfl)) (pgs_cons (pg_name (i := 6) sc__as_link.nd rfl (Or.inl rfl)) pgs_nil))))))
      (pss_cons (ps_expr (pe_call (G__check_ends T) (hr.mono (by decide)) (by rfl) T.g__check_ends T.k__check_ends T.B__check_ends .nil pass0 (pa_cons pe_str (pa_cons (pv 4) (pa_cons (pv 5) (pa_cons (pv 2) pa_nil))))))
      (pss_cons (ps_if (pt_cmpR op_ne (pe_callB call_len_seq (by rfl) T.z_len PySem.boot_len (pa_cons (pv 6) pa_nil)) (pe_callB call_len_seq (by rfl) T.z_len PySem.boot_len (pa_cons (pv 1) pa_nil)) (nomark _)) pss_any pss_nil)
      (pss_one (ps_ret (pe_tup (pa_cons (pv 3) (pa_cons (pv 4) (pa_cons (pv 5) (pa_cons (pe_callTy call_tupK (by rfl) T.z_tuple (by decide +kernel) (pa_cons (pe_lc (own := [("bounds", 7)]) (g := gName 7) (tt := tYes) rfl sc__as_link.nd (pi_or (pi_list (pv 6)) (pi_tup (pv 6))) (blkOk_by (N := ["link", "winds", "places", "name", "one", "other", "times", "bounds"]) (sc := defScope s__as_link) (by decide +kernel)) (fun _ _ _ _ _ => pg_name (i := 7) sc__as_link.nd rfl (Or.inl rfl)) (fun _ _ _ _ _ => pts_nil) (fun _ _ _ _ _ => (pe_call (G__as_bounds T) (hr.mono (by decide)) (by rfl) T.g__as_bounds T.k__as_bounds T.B__as_bounds .nil pass0 (pa_cons (pv 7) pa_nil)))) pa_nil)) pa_nil))))))))))), ?_⟩
    refine ⟨_, rfl, t, _, rfl, .inr hT, rfl, _, rfl, iteNS rfl ?_⟩
    refine ⟨_, rfl, t, _, rfl, hT, rfl, _, _, rfl, _, _, rfl, _, _, rfl, _, _, rfl, rfl, ?_⟩
    refine ⟨_, rfl, _, rfl, _, rfl, _, k0.o, k0.t, pl, ps, rfl, hP, ok.o, ok.t, ok.ne, ?_⟩
    refine ⟨_, rfl, u, _, rfl, hU, _, rfl, wi, _, rfl, hW, rfl, _, rfl, iteNS (by rw [lv, ok.len, List.length_map]) ?_⟩
    refine ⟨_, rfl, _, rfl, _, rfl, ?_⟩
    let Pv : Addr → Nat → Hp → Prop := fun D i H' => Ex H H' ∧ ∃ made, H' D = some (.lst made) ∧ made.length = i ∧ DpAll K H' made ((k0.ts.take i).map dTime)
    have start : ∀ {D : Addr}, H D = none → Pv D 0 (upd H D (.lst [])) := fun hD => ⟨Ex.new hD, [], upd_same, rfl, .nil⟩
    have turn : ∀ {D : Addr} (i : Nat) (y : V) (H' : Hp) (σ : L2.St), H D = none → vs[i]? = some y → Pv D i H' → σ[7]? = some (some y) →
        tCall (sp__as_bounds K) [] E0 (tCons (tVar 7) tNil) σ H' fun y H4 => ∃ acc, H4 D = some (.lst acc) ∧ acc.length < sizeLine ∧ Pv D (i + 1) (upd H4 D (.lst (acc ++ [y]))) := by
      rintro D i y H' σ hD hy ⟨e, made, hm, hl, hd⟩ hs
      obtain ⟨d, hd1, hd2⟩ := dps_at hD0 hy
      have hil : i < vs.length := (List.getElem?_eq_some_iff.mp hy).1
      obtain ⟨b, hb⟩ : ∃ b, k0.ts[i]? = some b := ⟨k0.ts[i]'(by omega), List.getElem?_eq_getElem (by omega)⟩
      rw [List.getElem?_map, hb] at hd1
      obtain rfl : dTime b = d := Option.some.inj hd1
      refine ⟨y, hs, y, b, rfl, dp_ex e hd2, ok.ok b (List.mem_of_getElem? hb), fun v' H6 e6 hv' => ⟨made, e6 _ _ hm, sz_lt (by have := ok.len; omega), (e.trans e6).mut hD, _, upd_same, by rw [List.length_append, hl] <;> rfl, ?_⟩⟩
      rw [take_one hb, List.map_append]
      exact dps_app (dps_exT (exT_mut (e6 _ _ hm)) (dps_ex e6 hd) (frozen_times _)) (dps_one (dp_exT (exT_mut (e6 _ _ hm)) hv' (frozen_time _)))
    have fin : ∀ {D : Addr} {H' : Hp}, Pv D vs.length H' → rTupK K [.ref D] H' fun x H2 => (5 : Nat) - 1 ≤ sizeLine ∧ ∀ p, H2 p = none → Q (.ref p) (upd H2 p (.tup [.str k0.n, .str k0.o, .str k0.t, x])) := by
      rintro D H' ⟨e, made, hm, hl, hd⟩
      rw [lv, List.take_length] at hd
      refine ⟨D, made, rfl, .inl ⟨SqL.of hm, fun q hq => ⟨by decide, fun r hr0 => ?_⟩⟩⟩
      have e1 : Ex H' (upd (upd H' q (.tup made)) r (.tup [.str k0.n, .str k0.o, .str k0.t, .ref q])) := (Ex.new hq).trans (Ex.new hr0)
      have nqr : q ≠ r := ne_of_none upd_same hr0
      exact k _ r (e.trans e1) (fresh_back (e.trans (Ex.new hq)) hr0) (.tup (st_of upd_same) (.cons (.str _) (.cons (.str _) (.cons (.str _) (.cons (.tup (st_of (by rw [upd_ne nqr, upd_same])) (dps_ex e1 hd)) .nil)))))
    rcases hU with hU | hU
    · exact .inl ⟨_, rfl, u, rfl, ⟨_, hU⟩, fun D hD => lcY_list (K := K) (a := u) (xs := vs) (Pv D) (start hD) (fun i H' _ p => ex_l p.1 hU) (fun i y H' hi p => ⟨rfl, turn i y H' _ hD hi p rfl⟩) (fun H' p => fin p)⟩
    · exact .inr ⟨_, rfl, u, rfl, ⟨_, hU⟩, fun D hD => lcY_tup (K := K) (a := u) (xs := vs) (Pv D) (start hD) (fun i H' _ p => ex_t p.1 hU) (fun i y H' hi p => ⟨rfl, turn i y H' _ hD hi p rfl⟩) (fun H' p => fin p)⟩
theorem G__as_path (T : Txt K mg a) : FnOk P w K mg base CX0 2 a.f__as_path a.d__as_path ["path", "places"] (sp__as_path K) := by
  refine T.F__as_path.ok sc__as_path (fun vs H Q E h => ?_) (fun cdv A outer s H vs Q E hr h => ?_)
  · obtain ⟨v, pl, ps, p, rfl, _⟩ := h
    rfl
  · obtain ⟨v, pl, ps, p, rfl, hv, hP, ok, k⟩ := h
    obtain ⟨t, rfl, hT⟩ := path_in hv
    have lo := ok.lo
    have hi := ok.hi
    refine ⟨_, (pss_cons (ps_if (pt_cmpR op_ne (pe_callB call_len_seq (by rfl) T.z_len PySem.boot_len (pa_cons (pv 0) pa_nil)) pe_int (nomark _)) pss_any pss_nil)
      (pss_cons (ps_asg (pv 0) (pg_tup (by rfl) (pgs_cons (pg_name (i := 2) sc__as_path.nd rfl (Or.inl rfl)) (pgs_cons (pg_name (i := 3) sc__as_path.nd rfl (Or.inl rfl)) (pgs_cons (pg_name (i := 4) sc__as_path.nd rfl (Or.inl rfl)) pgs_nil)))))
      (pss_cons (ps_expr (pe_call (G__check_ends T) (hr.mono (by decide)) (by rfl) T.g__check_ends T.k__check_ends T.B__check_ends .nil pass0 (pa_cons pe_str (pa_cons (pv 2) (pa_cons (pv 3) (pa_cons (pv 1) pa_nil))))))
      (pss_cons (ps_if (pt_not (pt_chain op_le op_le pe_int (pv 4) (pe_gI rfl T.c_MOST_MINUTES))) pss_any pss_nil)
      (pss_one (ps_ret (pe_tup (pa_cons (pv 2) (pa_cons (pv 3) (pa_cons (pv 4) pa_nil)))))))))), ?_⟩
    refine ⟨_, rfl, t, _, rfl, .inr hT, rfl, _, rfl, iteNS rfl ?_⟩
    refine ⟨_, rfl, t, _, rfl, hT, rfl, _, _, rfl, _, _, rfl, _, _, rfl, rfl, ?_⟩
    refine ⟨_, rfl, _, rfl, _, rfl, _, p.1, p.2.1, pl, ps, rfl, hP, ok.o, ok.t, ok.ne, ?_⟩
    refine ⟨_, rfl, _, _, rfl, rfl, _, rfl, ?_⟩
    refine ite2 (fun _ => ?_) (fun n => absurd (decide_eq_true lo) n)
    refine ⟨_, _, rfl, rfl, _, rfl, iteNS hi ?_⟩
    refine ⟨_, rfl, _, rfl, _, rfl, by show 3 ≤ sizeLine; decide, fun q hq => ?_⟩
    exact k _ q (Ex.new hq) hq (.tup (st_of upd_same) (.cons (.str _) (.cons (.str _) (.cons (.int _) .nil))))
theorem G__check_single_paths (T : Txt K mg a) : FnOk P w K mg base CX0 1 a.f__check_single_paths a.d__check_single_paths ["paths"] (sp__check_single_paths K) := by
  refine T.F__check_single_paths.ok sc__check_single_paths (fun vs H Q E h => ?_) (fun cdv A outer s H vs Q E hr h => ?_)
  · obtain ⟨p, prs, pa, rfl, _⟩ := h
    rfl
  · obtain ⟨p, prs, pa, rfl, hT, hd, h60, hap, k⟩ := h
    have lp : prs.length = pa.length := by rw [dps_len hd, List.length_map]
    refine ⟨_, (pss_cons (ps_setLc (i := 1) (own := [("one", 2), ("other", 3), ("_", 4)]) (g := gTup K 3 (gCons (gName 2) (gCons (gName 3) (gCons (gName 4) gNil)))) (tt := tYes) rfl sc__check_single_paths.nd rfl rfl (sw_true rfl rfl rfl (by decide +kernel)) (pi_tup (pv 0)) (blkOk_by (N := ["paths", "ends", "one", "other", "_"]) (sc := defScope s__check_single_paths) (by decide +kernel)) (fun _ _ _ _ _ => (pg_tup (by rfl) (pgs_cons (pg_name (i := 2) sc__check_single_paths.nd rfl (Or.inl rfl)) (pgs_cons (pg_name (i := 3) sc__check_single_paths.nd rfl (Or.inl rfl)) (pgs_cons (pg_name (i := 4) sc__check_single_paths.nd rfl (Or.inl rfl)) pgs_nil))))) (fun _ _ _ _ _ => pts_nil) (fun _ _ _ _ _ => (pe_callTy (show CallR _ _ (rTupK K) from call_tupK) (by rfl) T.z_tuple (by decide +kernel) (pa_cons (pe_callB (show CallR _ _ (rSortedS K) from cr_sortedS) (by rfl) T.z_sorted (by decide +kernel) (pa_cons (pe_lst (pa_cons (pv 2) (pa_cons (pv 3) pa_nil))) pa_nil)) pa_nil))))
      (pss_one (ps_if (pt_cmpR op_ne (TxSet.pe_lenSetT hr rfl (by rfl) T.z_len (by rfl) T.z_set (pv 1)) (pe_callB call_len_seq (by rfl) T.z_len PySem.boot_len (pa_cons (pv 1) pa_nil)) (nomark _)) pss_any pss_nil))), ?_⟩
    refine ⟨_, rfl, p, rfl, ⟨_, hT⟩, fun D hD => lcY_tup (K := K) (a := p) (xs := prs) (fun i H' => Ex H H' ∧ ∃ ks : List (Addr × List Str), H' D = some (.lst (ks.map fun p => V.ref p.1)) ∧ (∀ p ∈ ks, H' p.1 = some (.tup (p.2.map V.str))) ∧ All2 (fun q r => q.2.Perm [r.1, r.2.1]) ks (pa.take i))
      ⟨Ex.new hD, [], upd_same, fun p hp => (by cases hp), .nil⟩ (fun i H' _ q => ex_t q.1 hT) (fun i y H' hi q => ?_) (fun H' q => ?_)⟩
    · obtain ⟨e, ks, hks, hat, h2⟩ := q
      have hil : i < prs.length := (List.getElem?_eq_some_iff.mp hi).1
      obtain ⟨d, hd1, hd2⟩ := dps_at hd hi
      obtain ⟨b, hb⟩ : ∃ b, pa[i]? = some b := ⟨pa[i]'(by omega), List.getElem?_eq_getElem (by omega)⟩
      rw [List.getElem?_map, hb] at hd1
      obtain rfl : dPath b = d := Option.some.inj hd1
      obtain ⟨t, rfl, hb2⟩ := path_in hd2
      have lk : ks.length = (pa.take i).length := h2.len
      refine ⟨t, _, rfl, ex_t e hb2, rfl, _, _, rfl, _, _, rfl, _, _, rfl, rfl, rfl, ?_⟩
      refine ⟨_, rfl, _, rfl, by show 2 ≤ sizeLine; decide, fun l hl => ?_⟩
      refine ⟨l, [b.1, b.2.1], rfl, SqL.of upd_same, (by show 2 < 64; decide), fun ys m pm _ hm => ?_⟩
      refine ⟨m, _, rfl, .inl ⟨SqL.of upd_same, fun n hn => ?_⟩⟩
      have e3 : Ex H' (upd (upd (upd H' l (.lst [.str b.1, .str b.2.1])) m (.lst (ys.map V.str))) n (.tup (ys.map V.str))) := ((Ex.new hl).trans (Ex.new hm)).trans (Ex.new hn)
      have hD3 := e3 _ _ hks
      refine ⟨_, hD3, sz_lt (by rw [List.length_map, lk, List.length_take]; omega), (e.trans e3).mut hD, ks ++ [(n, ys)], by rw [upd_same, List.map_append] <;> rfl, fun q hq => ?_, ?_⟩
      · rcases List.mem_append.mp hq with z | z
        · have h3 := e3 _ _ (hat q z)
          rw [upd_ne (ne_of h3 hD3 (by intro z; cases z))]
          exact h3
        · rw [List.mem_singleton.mp z]
          have h3 : (upd (upd (upd H' l (.lst [.str b.1, .str b.2.1])) m (.lst (ys.map V.str))) n (.tup (ys.map V.str))) n = some (.tup (ys.map V.str)) := upd_same
          show (upd _ D _) n = _
          rw [upd_ne (ne_of h3 hD3 (by intro z; cases z))]
          exact h3
      · rw [take_one hb]
        exact h2.app (.cons pm .nil)
    · obtain ⟨e, ks, hks, hat, h2⟩ := q
      rw [lp, List.take_length] at h2
      have lk := h2.len
      have diff : (ks.map (·.2)).Nodup := by
        have go : ∀ {ks : List (Addr × List Str)} {pa : List (Str × Str × Int)}, All2 (fun q r => q.2.Perm [r.1, r.2.1]) ks pa → (pa.map fun p => (p.1, p.2.1)).Pairwise Apart → (ks.map (·.2)).Nodup := by
          intro ks pa h
          induction h with
          | nil => intro _; exact List.nodup_nil
          | @cons q r ks pa h hr ih =>
            intro hp
            rw [List.map_cons, List.pairwise_cons] at hp
            rw [List.map_cons, List.nodup_cons]
            refine ⟨fun hm => ?_, ih hp.2⟩
            obtain ⟨q2, hq2, e2⟩ := List.mem_map.mp hm
            obtain ⟨i, hi, ei⟩ := List.getElem_of_mem hq2
            obtain ⟨r2, hr2, p2⟩ := hr.at i (show ks[i]? = some q2 by rw [List.getElem?_eq_getElem hi, ei])
            refine hp.1 (r2.1, r2.2.1) (List.mem_map.mpr ⟨r2, List.mem_of_getElem? hr2, rfl⟩) ?_
            rw [e2] at p2
            exact h.symm.trans p2
        exact go h2 hap
      refine ⟨_, rfl, D, ks, rfl, SqL.of hks, fun q hq => st_of (hat q hq), by omega, diff, _, rfl, D, _, rfl, .inl (SqL.of hks), rfl, _, rfl, ?_⟩
      rw [List.length_map]
      exact iteNS rfl (k _ e)
end
end EV

set_option Elab.async false
set_option linter.all false
set_option maxRecDepth 100000
set_option maxHeartbeats 4000000
namespace EV
open PySem PySem.Spec PyProof.Rows L2 EvS Evl
/-- a new land of well formed parts -/
def sp_init (K : PySem.W.Frag) (C : Addr) : Sp := fun vs H Q _ => ∃ (H0 : Hp) (x dx wi pl li pa : Addr) (D : LandD) (rows prs : List V), vs = [.ref x, .ref wi, .ref pl, .ref li, .ref pa] ∧ Ex H0 H ∧ H0 x = none ∧ H x = some (.ins C dx []) ∧
  SqL K H0 wi (D.ws.map V.str) ∧ Seq2 K H0 pl (D.ps.map V.str) ∧ Seq2 K H0 li rows ∧ All2 (LinkIn K H0) rows D.ls ∧ Seq2 K H0 pa prs ∧ DpAll K H0 prs (D.pa.map dPath) ∧ LandOk D ∧ ∀ H', Ex H0 H' → IsLand K C H' x D → Q .non H'
theorem bare_ins {H : Hp} {x u : Addr} {C dx : Addr} {fs gs : List (Str × V)} {xs : List V} (h : H x = some (.ins C dx fs)) (b : TupX.Bare H u xs) : TupX.Bare (upd H x (.ins C dx gs)) u xs := by
  obtain ⟨o, h1, h2⟩ := b
  exact ⟨o, by rw [upd_ne (ne_of h1 h (by intro z; cases z))]; exact h1, h2⟩
section
variable {P : Program} {w : World} {K : PySem.W.Frag} {mg : Str → Option Value} {base : Heap} {a : Ad}
theorem G_init (T : Txt K mg a) : FnOk P w K mg base CX0 3 a.f_init a.d_init ["self", "winds", "places", "links", "paths"] (sp_init K a.C) := by
  refine T.F_init.ok sc_init (fun vs H Q E h => ?_) (fun cdv A outer s H vs Q E hr h => ?_)
  · obtain ⟨H0, x, dx, wi, pl, li, pa, D, rows, prs, rfl, _⟩ := h
    rfl
  · obtain ⟨H0, x, dx, wi, pl, li, pa, D, rows, prs, rfl, e0, x0, hx, hW, hP, hL, hLs, hA, hAs, ok, k⟩ := h
    have lw : (D.ws.map V.str).length = D.ws.length := List.length_map ..
    have lp : (D.ps.map V.str).length = D.ps.length := List.length_map ..
    have ll := hLs.len
    have la : prs.length = D.pa.length := by rw [dps_len hAs, List.length_map]
    have b1 := ok.w1
    have b2 := ok.w4
    have b3 := ok.p1
    have b4 := ok.p24
    have b5 := ok.l60
    have b6 := ok.a60
    refine ⟨_, (pss_cons (ps_expr (pe_call (G__check_count T) (hr.mono (by decide)) (by rfl) T.g__check_count T.k__check_count T.B__check_count .nil pass0 (pa_cons pe_str (pa_cons (pv 1) (pa_cons pe_int (pa_cons (pe_gI rfl T.c_MOST_WINDS) pa_nil))))))
      (pss_cons (ps_expr (pe_call (G__check_names T) (hr.mono (by decide)) (by rfl) T.g__check_names T.k__check_names T.B__check_names .nil pass0 (pa_cons pe_str (pa_cons (pv 1) pa_nil))))
      (pss_cons (ps_expr (pe_call (G__check_count T) (hr.mono (by decide)) (by rfl) T.g__check_count T.k__check_count T.B__check_count .nil pass0 (pa_cons pe_str (pa_cons (pv 2) (pa_cons pe_int (pa_cons (pe_gI rfl T.c_MOST_PLACES) pa_nil))))))
      (pss_cons (ps_expr (pe_call (G__check_names T) (hr.mono (by decide)) (by rfl) T.g__check_names T.k__check_names T.B__check_names .nil pass0 (pa_cons pe_str (pa_cons (pv 2) pa_nil))))
      (pss_cons (ps_expr (pe_call (G__check_count T) (hr.mono (by decide)) (by rfl) T.g__check_count T.k__check_count T.B__check_count .nil pass0 (pa_cons pe_str (pa_cons (pv 3) (pa_cons pe_int (pa_cons (pe_gI rfl T.c_MOST_LINKS) pa_nil))))))
      (pss_cons (ps_expr (pe_call (G__check_count T) (hr.mono (by decide)) (by rfl) T.g__check_count T.k__check_count T.B__check_count .nil pass0 (pa_cons pe_str (pa_cons (pv 4) (pa_cons pe_int (pa_cons (pe_gI rfl T.c_MOST_PATHS) pa_nil))))))
      (pss_cons (ps_fld (pv 0) (pe_callTy TupX.call_tupF (by rfl) T.z_tuple (by decide +kernel) (pa_cons (pv 1) pa_nil)) rfl)
      (pss_cons (ps_fld (pv 0) (pe_callTy call_tupS (by rfl) T.z_tuple (by decide +kernel) (pa_cons (pv 2) pa_nil)) rfl)
      (Evl.pss_cut (ps_fld (pv 0) (pe_callTy call_tupK (by rfl) T.z_tuple (by decide +kernel) (pa_cons (pe_lc (own := [("link", 5)]) (g := gName 5) (tt := tYes) rfl sc_init.nd (pi_or (pi_list (pv 3)) (pi_tup (pv 3))) (blkOk_by (N := ["self", "winds", "places", "links", "paths", "link", "path"]) (sc := defScope s_init) (by decide +kernel)) (fun _ _ _ _ _ => pg_name (i := 5) sc_init.nd rfl (Or.inl rfl)) (fun _ _ _ _ _ => pts_nil) (fun _ _ _ _ _ => (pe_call (G__as_link T) (hr.mono (by decide)) (by rfl) T.g__as_link T.k__as_link T.B__as_link .nil pass0 (pa_cons (pv 5) (pa_cons (show PE _ _ (tFld K (tVar 0) "winds") from pe_fld (pv 0) rfl) (pa_cons (show PE _ _ (tFld K (tVar 0) "places") from pe_fld (pv 0) rfl) pa_nil)))))) pa_nil)) rfl)
      (pss_cons (ps_expr (pe_call (G__check_names T) (hr.mono (by decide)) (by rfl) T.g__check_names T.k__check_names T.B__check_names .nil pass0 (pa_cons pe_str (pa_cons (pe_prop (pv 0) T.cl T.p_link_names (G_link_names T) (hr.mono (by decide)) T.B_link_names .nil pass0 rfl) pa_nil))))
      (Evl.pss_cut (ps_fld (pv 0) (pe_callTy call_tupK (by rfl) T.z_tuple (by decide +kernel) (pa_cons (pe_lc (own := [("path", 6)]) (g := gName 6) (tt := tYes) rfl sc_init.nd (pi_or (pi_list (pv 4)) (pi_tup (pv 4))) (blkOk_by (N := ["self", "winds", "places", "links", "paths", "link", "path"]) (sc := defScope s_init) (by decide +kernel)) (fun _ _ _ _ _ => pg_name (i := 6) sc_init.nd rfl (Or.inl rfl)) (fun _ _ _ _ _ => pts_nil) (fun _ _ _ _ _ => (pe_call (G__as_path T) (hr.mono (by decide)) (by rfl) T.g__as_path T.k__as_path T.B__as_path .nil pass0 (pa_cons (pv 6) (pa_cons (show PE _ _ (tFld K (tVar 0) "places") from pe_fld (pv 0) rfl) pa_nil))))) pa_nil)) rfl)
      (pss_one (ps_expr (pe_call (G__check_single_paths T) (hr.mono (by decide)) (by rfl) T.g__check_single_paths T.k__check_single_paths T.B__check_single_paths .nil pass0 (pa_cons (pe_fld (pv 0) rfl) pa_nil))))))))))))))), ?_⟩
    refine ⟨_, rfl, _, wi, _, _, _, rfl, .inl (ex_l e0 hW), by rw [lw]; omega, by rw [lw]; omega, ?_⟩
    refine ⟨_, rfl, _, wi, D.ws, rfl, .inl (ex_l e0 hW), by omega, ok.gw, fun H1 e1 => ?_⟩
    have f1 : Ex H0 H1 := e0.trans e1
    refine ⟨_, rfl, _, pl, _, _, _, rfl, hP.ex f1, by rw [lp]; omega, by rw [lp]; omega, ?_⟩
    refine ⟨_, rfl, _, pl, D.ps, rfl, hP.ex f1, by omega, ok.gp, fun H2 e2 => ?_⟩
    have f2 : Ex H0 H2 := f1.trans e2
    have hx2 : H2 x = some (.ins a.C dx []) := e2 _ _ (e1 _ _ hx)
    refine ⟨_, rfl, _, li, _, _, _, rfl, hL.ex f2, by omega, by omega, ?_⟩
    refine ⟨_, rfl, _, pa, _, _, _, rfl, hA.ex f2, by omega, by omega, ?_⟩
    -- self.winds
    refine ⟨_, rfl, wi, _, rfl, ex_l f2 hW, fun u H3 _ e3 hu => ?_⟩
    have hx3 := e3 _ _ hx2
    refine ⟨_, rfl, x, a.C, dx, [], rfl, hx3, T.cl, T.nW, by show 0 < 1000; decide, ?_⟩
    have ins_t : ∀ {H : Hp} {fs gs : List (Str × V)}, H x = some (.ins a.C dx fs) → ExT H (upd H x (.ins a.C dx gs)) := fun {H fs gs} h b xs r => by
      rcases r with r | ⟨o, r⟩
      · exact .inl (by rw [upd_ne (ne_of r h (by intro z; cases z))]; exact r)
      · exact .inr ⟨o, by rw [upd_ne (ne_of r h (by intro z; cases z))]; exact r⟩
    have f4 : Ex H0 (upd H3 x (.ins a.C dx (putF "winds" (.ref u) []))) := (f2.trans e3).mut x0
    have hu4 := bare_ins (gs := putF "winds" (.ref u) []) hx3 hu
    have hx4 : (upd H3 x (.ins a.C dx (putF "winds" (.ref u) []))) x = some (.ins a.C dx (putF "winds" (.ref u) [])) := upd_same
    generalize upd H3 x (.ins a.C dx (putF "winds" (.ref u) [])) = H4 at f4 hu4 hx4
    -- self.places
    refine ⟨_, rfl, pl, _, rfl, hP.ex f4, fun q H5 e5 hq => ?_⟩
    have hx5 := e5 _ _ hx4
    refine ⟨_, rfl, x, a.C, dx, _, rfl, hx5, T.cl, T.nP, by show 1 < 1000; decide, ?_⟩
    have f6 : Ex H0 (upd H5 x (.ins a.C dx (putF "places" (.ref q) (putF "winds" (.ref u) [])))) := (f4.trans e5).mut x0
    have hu6 := bare_ins (gs := putF "places" (.ref q) (putF "winds" (.ref u) [])) hx5 (hu4.ex e5)
    have hq6 := exT_t (ins_t (gs := putF "places" (.ref q) (putF "winds" (.ref u) [])) hx5) hq
    have hx6 : (upd H5 x (.ins a.C dx (putF "places" (.ref q) (putF "winds" (.ref u) [])))) x = some (.ins a.C dx (putF "places" (.ref q) (putF "winds" (.ref u) []))) := upd_same
    generalize upd H5 x (.ins a.C dx (putF "places" (.ref q) (putF "winds" (.ref u) []))) = H6 at f6 hu6 hq6 hx6
    have lkW : (putF "places" (.ref q) (putF "winds" (.ref u) [])).lookup ("winds" : Str) = some (V.ref u) := by
      rw [lookup_putF, if_neg (by decide +kernel), lookup_putF, if_pos rfl]
    have lkP : (putF "places" (.ref q) (putF "winds" (.ref u) [])).lookup ("places" : Str) = some (V.ref q) := by
      rw [lookup_putF, if_pos rfl]
    -- self.links
    refine ⟨fun σ H' => σ = [some (.ref x), some (.ref wi), some (.ref pl), some (.ref li), some (.ref pa), none, none] ∧ ∃ v made, Ex H0 H' ∧ H' x = some (.ins a.C dx (putF "links" (.ref v) (putF "places" (.ref q) (putF "winds" (.ref u) [])))) ∧ TupX.Bare H' u (D.ws.map V.str) ∧ SqT K H' q (D.ps.map V.str) ∧ SqT K H' v made ∧ DpAll K H' made (D.ls.map dLink), ?_, ?_⟩
    let Pv : Addr → Nat → Hp → Prop := fun D0 i H' => Ex H6 H' ∧ ∃ made, H' D0 = some (.lst made) ∧ made.length = i ∧ DpAll K H' made ((D.ls.take i).map dLink)
    have start : ∀ {D0 : Addr}, H6 D0 = none → Pv D0 0 (upd H6 D0 (.lst [])) := fun hD => ⟨Ex.new hD, [], upd_same, rfl, .nil⟩
    have turn : ∀ {D0 : Addr} (i : Nat) (y : V) (H' : Hp) (σ : L2.St), H6 D0 = none → rows[i]? = some y → Pv D0 i H' → σ[5]? = some (some y) → σ[0]? = some (some (.ref x)) →
        tCall (sp__as_link K) [] E0 (tCons (tVar 5) (tCons (tFld K (tVar 0) "winds") (tCons (tFld K (tVar 0) "places") tNil))) σ H' fun y H4 => ∃ acc, H4 D0 = some (.lst acc) ∧ acc.length < sizeLine ∧ Pv D0 (i + 1) (upd H4 D0 (.lst (acc ++ [y]))) := by
      rintro D0 i y H' σ hD hy ⟨e, made, hm, hl, hd⟩ s5 s0
      obtain ⟨k0, hk0, hin⟩ := hLs.at i hy
      have hil : i < rows.length := (List.getElem?_eq_some_iff.mp hy).1
      have hx' := e _ _ hx6
      refine ⟨y, s5, _, s0, x, a.C, dx, _, _, rfl, hx', T.cl, T.nW, lkW, _, s0, x, a.C, dx, _, _, rfl, hx', T.cl, T.nP, lkP, ?_⟩
      refine ⟨y, u, q, D.ws, D.ps, k0, rfl, hin.ex (f6.trans e), .inr (hu6.ex e).sq, .inr (ex_t e hq6), ok.lk k0 (List.mem_of_getElem? hk0), by omega, fun H8 t e8 ht hM => ⟨made, e8 _ _ hm, sz_lt (by omega), (e.trans e8).mut hD, _, upd_same, by rw [List.length_append, hl] <;> rfl, ?_⟩⟩
      rw [take_one hk0, List.map_append]
      exact dps_app (dps_exT (exT_mut (e8 _ _ hm)) (dps_ex e8 hd) (frozen_links _)) (dps_one (dp_exT (exT_mut (e8 _ _ hm)) hM (frozen_link _)))
    · have fin : ∀ {D0 : Addr} {H' : Hp}, Pv D0 rows.length H' → rTupK K [.ref D0] H' fun y H1 => tVar 0 [some (.ref x), some (.ref wi), some (.ref pl), some (.ref li), some (.ref pa), none, none] H1 fun x2 H2 => ∃ (b C2 d2 : Addr) (fs : List (Str × V)), x2 = .ref b ∧ H2 b = some (.ins C2 d2 fs) ∧ Cls K C2 ∧ NoAttr K C2 "links" ∧ fs.length < 1000 ∧
          ∃ v made, Ex H0 (upd H2 b (.ins C2 d2 (putF "links" y fs))) ∧ (upd H2 b (.ins C2 d2 (putF "links" y fs))) x = some (.ins a.C dx (putF "links" (.ref v) (putF "places" (.ref q) (putF "winds" (.ref u) [])))) ∧ TupX.Bare (upd H2 b (.ins C2 d2 (putF "links" y fs))) u (D.ws.map V.str) ∧ SqT K (upd H2 b (.ins C2 d2 (putF "links" y fs))) q (D.ps.map V.str) ∧ SqT K (upd H2 b (.ins C2 d2 (putF "links" y fs))) v made ∧ DpAll K (upd H2 b (.ins C2 d2 (putF "links" y fs))) made (D.ls.map dLink) := by
        rintro D0 H' ⟨e, made, hm, hl, hd⟩
        rw [ll, List.take_length] at hd
        refine ⟨D0, made, rfl, .inl ⟨SqL.of hm, fun v hv => ?_⟩⟩
        have e2 : Ex H6 (upd H' v (.tup made)) := e.trans (Ex.new hv)
        have hx' := e2 _ _ hx6
        refine ⟨_, rfl, x, a.C, dx, _, rfl, hx', T.cl, T.nL, by show 2 < 1000; decide, v, made, (f6.trans e2).mut x0, upd_same, bare_ins hx' (hu6.ex e2), exT_t (ins_t hx') (ex_t e2 hq6), exT_t (ins_t hx') (st_of upd_same), dps_exT (ins_t hx') (dps_ex (Ex.new hv) hd) (frozen_links _)⟩
      rcases hL.ex f6 with hL6 | hL6
      · refine .inl ⟨_, rfl, li, rfl, ⟨_, hL6⟩, fun D0 hD => lcY_list (K := K) (a := li) (xs := rows) (Pv D0) (start hD) (fun i H' _ p => ex_l p.1 hL6) (fun i y H' hi p => ⟨rfl, turn i y H' _ hD hi p rfl rfl⟩) (fun H' p => ?_)⟩
        obtain ⟨p0, ys, y1, y2⟩ := fin p
        refine ⟨p0, ys, y1, ?_⟩
        rcases y2 with ⟨z1, z2⟩ | ⟨z1, z2⟩
        · refine .inl ⟨z1, fun l hl => ?_⟩
          obtain ⟨c1, c2, c3, c4, c5, c6, c7, c8, c9, c10, c11, c12⟩ := z2 l hl
          exact ⟨c1, c2, c3, c4, c5, c6, c7, c8, c9, c10, c11, rfl, c12⟩
        · obtain ⟨c1, c2, c3, c4, c5, c6, c7, c8, c9, c10, c11, c12⟩ := z2
          exact .inr ⟨z1, c1, c2, c3, c4, c5, c6, c7, c8, c9, c10, c11, rfl, c12⟩
      · refine .inr ⟨_, rfl, li, rfl, ⟨_, hL6⟩, fun D0 hD => lcY_tup (K := K) (a := li) (xs := rows) (Pv D0) (start hD) (fun i H' _ p => ex_t p.1 hL6) (fun i y H' hi p => ⟨rfl, turn i y H' _ hD hi p rfl rfl⟩) (fun H' p => ?_)⟩
        obtain ⟨p0, ys, y1, y2⟩ := fin p
        refine ⟨p0, ys, y1, ?_⟩
        rcases y2 with ⟨z1, z2⟩ | ⟨z1, z2⟩
        · refine .inl ⟨z1, fun l hl => ?_⟩
          obtain ⟨c1, c2, c3, c4, c5, c6, c7, c8, c9, c10, c11, c12⟩ := z2 l hl
          exact ⟨c1, c2, c3, c4, c5, c6, c7, c8, c9, c10, c11, rfl, c12⟩
        · obtain ⟨c1, c2, c3, c4, c5, c6, c7, c8, c9, c10, c11, c12⟩ := z2
          exact .inr ⟨z1, c1, c2, c3, c4, c5, c6, c7, c8, c9, c10, c11, rfl, c12⟩
    rintro σ H7 ⟨rfl, v, made, f7, hx7, hu7, hq7, hv7, hM7⟩
    have lkL : (putF "links" (.ref v) (putF "places" (.ref q) (putF "winds" (.ref u) []))).lookup ("links" : Str) = some (V.ref v) := by
      rw [lookup_putF, if_pos rfl]
    -- _check_names('links', self.link_names)
    refine ⟨_, rfl, x, dx, _, rfl, hx7, x, dx, _, v, made, D.ls, rfl, hx7, lkL, hv7, hM7, by omega, fun H8 t e8 ht hT => ?_⟩
    refine ⟨_, t, D.ls.map (·.n), rfl, .inr hT.sq, by rw [List.length_map]; omega, ok.gl, fun H9 e9 => ?_⟩
    have f9 : Ex H0 H9 := (f7.trans e8).trans e9
    have hx9 := e9 _ _ (e8 _ _ hx7)
    have hu9 := (hu7.ex e8).ex e9
    have hq9 := ex_t e9 (ex_t e8 hq7)
    have hv9 := ex_t e9 (ex_t e8 hv7)
    have hM9 := dps_ex e9 (dps_ex e8 hM7)
    -- self.paths
    refine ⟨fun σ H' => σ = [some (.ref x), some (.ref wi), some (.ref pl), some (.ref li), some (.ref pa), none, none] ∧ ∃ y prs', Ex H0 H' ∧ LandAt K a.C H' x D dx u q v y made prs', ?_, ?_⟩
    · let Pw : Addr → Nat → Hp → Prop := fun D0 i H' => Ex H9 H' ∧ ∃ got, H' D0 = some (.lst got) ∧ got.length = i ∧ DpAll K H' got ((D.pa.take i).map dPath)
      have start : ∀ {D0 : Addr}, H9 D0 = none → Pw D0 0 (upd H9 D0 (.lst [])) := fun hD => ⟨Ex.new hD, [], upd_same, rfl, .nil⟩
      have lkP9 : (putF "links" (.ref v) (putF "places" (.ref q) (putF "winds" (.ref u) []))).lookup ("places" : Str) = some (V.ref q) := by
        rw [lookup_putF, if_neg (by decide +kernel), lookup_putF, if_pos rfl]
      have turn : ∀ {D0 : Addr} (i : Nat) (y : V) (H' : Hp) (σ : L2.St), H9 D0 = none → prs[i]? = some y → Pw D0 i H' → σ[6]? = some (some y) → σ[0]? = some (some (.ref x)) →
          tCall (sp__as_path K) [] E0 (tCons (tVar 6) (tCons (tFld K (tVar 0) "places") tNil)) σ H' fun y H4 => ∃ acc, H4 D0 = some (.lst acc) ∧ acc.length < sizeLine ∧ Pw D0 (i + 1) (upd H4 D0 (.lst (acc ++ [y]))) := by
        rintro D0 i y H' σ hD hy ⟨e, got, hm, hl, hd⟩ s6 s0
        obtain ⟨d, hd1, hd2⟩ := dps_at hAs hy
        have hil : i < prs.length := (List.getElem?_eq_some_iff.mp hy).1
        obtain ⟨b, hb⟩ : ∃ b, D.pa[i]? = some b := ⟨D.pa[i]'(by omega), List.getElem?_eq_getElem (by omega)⟩
        rw [List.getElem?_map, hb] at hd1
        obtain rfl : dPath b = d := Option.some.inj hd1
        refine ⟨y, s6, _, s0, x, a.C, dx, _, _, rfl, e _ _ hx9, T.cl, T.nP, lkP9, ?_⟩
        refine ⟨y, q, D.ps, b, rfl, dp_ex (f9.trans e) hd2, .inr (ex_t e hq9), ok.pt b (List.mem_of_getElem? hb), fun H8 t e8 ht hM => ⟨got, e8 _ _ hm, sz_lt (by omega), (e.trans e8).mut hD, _, upd_same, by rw [List.length_append, hl] <;> rfl, ?_⟩⟩
        rw [take_one hb, List.map_append]
        exact dps_app (dps_exT (exT_mut (e8 _ _ hm)) (dps_ex e8 hd) (frozen_paths _)) (dps_one (dp_exT (exT_mut (e8 _ _ hm)) hM (frozen_path _)))
      have fin : ∀ {D0 : Addr} {H' : Hp}, Pw D0 prs.length H' → ∃ got, H' D0 = some (.lst got) ∧ ∀ y, H' y = none → (upd H' y (.tup got)) x = some (.ins a.C dx (putF "links" (.ref v) (putF "places" (.ref q) (putF "winds" (.ref u) [])))) ∧
          ∃ y2 prs', Ex H0 (upd (upd H' y (.tup got)) x (.ins a.C dx (landFs u q v y))) ∧ LandAt K a.C (upd (upd H' y (.tup got)) x (.ins a.C dx (landFs u q v y))) x D dx u q v y2 made prs' := by
        rintro D0 H' ⟨e, got, hm, hl, hd⟩
        rw [la, List.take_length] at hd
        refine ⟨got, hm, fun y hy => ?_⟩
        have e2 : Ex H9 (upd H' y (.tup got)) := e.trans (Ex.new hy)
        have hx' := e2 _ _ hx9
        exact ⟨hx', y, got, (f9.trans e2).mut x0, upd_same, bare_ins hx' (hu9.ex e2), exT_t (ins_t hx') (ex_t e2 hq9), exT_t (ins_t hx') (ex_t e2 hv9), dps_exT (ins_t hx') (dps_ex e2 hM9) (frozen_links _), exT_t (ins_t hx') (st_of upd_same), dps_exT (ins_t hx') (dps_ex (Ex.new hy) hd) (frozen_paths _)⟩
      rcases hA.ex f9 with hA9 | hA9
      · refine .inl ⟨_, rfl, pa, rfl, ⟨_, hA9⟩, fun D0 hD => lcY_list (K := K) (a := pa) (xs := prs) (Pw D0) (start hD) (fun i H' _ p => ex_l p.1 hA9) (fun i y H' hi p => ⟨rfl, turn i y H' _ hD hi p rfl rfl⟩) (fun H' p => ?_)⟩
        obtain ⟨got, hm, z⟩ := fin p
        refine ⟨D0, got, rfl, .inl ⟨SqL.of hm, fun y hy => ?_⟩⟩
        obtain ⟨hx', z2⟩ := z y hy
        exact ⟨_, rfl, x, a.C, dx, _, rfl, hx', T.cl, T.nA, by show 3 < 1000; decide, rfl, z2⟩
      · refine .inr ⟨_, rfl, pa, rfl, ⟨_, hA9⟩, fun D0 hD => lcY_tup (K := K) (a := pa) (xs := prs) (Pw D0) (start hD) (fun i H' _ p => ex_t p.1 hA9) (fun i y H' hi p => ⟨rfl, turn i y H' _ hD hi p rfl rfl⟩) (fun H' p => ?_)⟩
        obtain ⟨got, hm, z⟩ := fin p
        refine ⟨D0, got, rfl, .inl ⟨SqL.of hm, fun y hy => ?_⟩⟩
        obtain ⟨hx', z2⟩ := z y hy
        exact ⟨_, rfl, x, a.C, dx, _, rfl, hx', T.cl, T.nA, by show 3 < 1000; decide, rfl, z2⟩
    rintro σ H10 ⟨rfl, y, prs', f10, L⟩
    refine ⟨_, rfl, x, a.C, dx, _, _, rfl, L.ob, T.cl, T.nA, fs_paths u q v y, y, prs', D.pa, rfl, L.pa, L.ps, ok.a60, ok.ap, fun H11 e11 => ?_⟩
    exact k H11 (f10.trans e11) (IsLand.ex e11 ⟨dx, u, q, v, y, made, prs', L⟩)
/-- which of __init__'s parameters a call names -/
theorem kb_wplp (T : Txt K mg a) : ∃ mv : List Value, KBn K a.d_init ["self", "winds", "places", "links", "paths"] 1 ["winds", "places", "links", "paths"] (fun us ws => us ++ (ws ++ mv)) (fun vs zs => vs ++ (zs ++ [])) :=
  T.F_init.kbinds0 (ps := ["self", "winds", "places", "links", "paths"]) 1 ["winds", "places", "links", "paths"] [] (fun us mv ws => us ++ (ws ++ mv)) (by simp) (fun q hq => by cases hq) (fun r1 r2 r3 => r1.append (r3.append r2))
    (fun D doc pm an cdv ct us mv ws h1 h2 h3 => match us, mv, ws, h1, h2, h3 with
      | [_], [], [_, _, _, _], _, _, _ => rfl)
theorem vals_take : ∀ {vs : List V} {us : List Value} (n : Nat), Vals vs us → Vals (vs.take n) (us.take n)
  | _, _, 0, _ => .nil
  | _, _, _ + 1, .nil => .nil
  | _, _, n + 1, .cons h r => .cons h (vals_take n r)
def turned {α : Type} (l : List α) : List α := (l.drop 2).take 1 ++ (l.take 1 ++ (l.drop 3 ++ (l.drop 1).take 1))
theorem kb_ppwl (T : Txt K mg a) : ∃ mv : List Value, KBn K a.d_init ["self", "winds", "places", "links", "paths"] 1 ["places", "paths", "winds", "links"] (fun us ws => us ++ (turned ws ++ mv)) (fun vs zs => vs ++ (turned zs ++ [])) :=
  T.F_init.kbinds0 (ps := ["self", "winds", "places", "links", "paths"]) 1 ["places", "paths", "winds", "links"] [] (fun us mv ws => us ++ (turned ws ++ mv)) (by simp) (fun q hq => by cases hq)
    (fun r1 r2 r3 => r1.append (((vals_take 1 (r3.drop 2)).append ((vals_take 1 r3).append ((r3.drop 3).append (vals_take 1 (r3.drop 1))))).append r2))
    (fun D doc pm an cdv ct us mv ws h1 h2 h3 => match us, mv, ws, h1, h2, h3 with
      | [_], [], [_, _, _, _], _, _, _ => rfl)
theorem kb_wp (T : Txt K mg a) : ∃ mv : List Value, KBn K a.d_init ["self", "winds", "places", "links", "paths"] 1 ["winds", "places"] (fun us ws => us ++ (ws ++ mv)) (fun vs zs => vs ++ (zs ++ [.ref a.tl, .ref a.te])) :=
  T.F_init.kbinds0 (ps := ["self", "winds", "places", "links", "paths"]) 1 ["winds", "places"] [("links", .ref a.tl), ("paths", .ref a.te)] (fun us mv ws => us ++ (ws ++ mv)) (by simp) (fun q hq => by simpa using hq) (fun r1 r2 r3 => r1.append (r3.append r2))
    (fun D doc pm an cdv ct us mv ws h1 h2 h3 => match us, mv, ws, h1, h2, h3 with
      | [_], [_, _], [_, _], _, _, _ => ⟨_, _, _, _, _, _, rfl, rfl, _, _, _, _, _, _, rfl, rfl, rfl⟩)
end
end EV

set_option Elab.async false
set_option linter.all false
set_option maxRecDepth 100000
set_option maxHeartbeats 4000000
namespace EV
open PySem PySem.Spec PyProof.Rows L2 EvS Evl
theorem num_in {ks : List Int} {i : Int} (h0 : 0 ≤ i) (h : i < ks.length) : ∃ n, n ∈ ks ∧ atI (ks.map V.int) i = some (.int n) ∧ n = ks.getD i.toNat 0 := by
  have hl : i.toNat < ks.length := by omega
  have e : ks[i.toNat]? = some ks[i.toNat] := List.getElem?_eq_getElem hl
  have z : atI (ks.map V.int) ((i.toNat : Nat) : Int) = some (.int ks[i.toNat]) := atI_nat (by rw [List.getElem?_map, e] <;> rfl)
  rw [show ((i.toNat : Nat) : Int) = i by omega] at z
  exact ⟨ks[i.toNat], List.getElem_mem hl, z, by rw [List.getD_eq_getElem?_getD, e] <;> rfl⟩
theorem at3 {α : Type} {x y z : α} {i : Int} (h0 : 0 ≤ i) (h : i < 3) : ∃ v, atI [x, y, z] i = some v ∧ (v = x ∨ v = y ∨ v = z) := by
  have c : i = 0 ∨ i = 1 ∨ i = 2 := by omega
  rcases c with rfl | rfl | rfl
  · exact ⟨x, atI_nat (j := 0) rfl, .inl rfl⟩
  · exact ⟨y, atI_nat (j := 1) rfl, .inr (.inl rfl)⟩
  · exact ⟨z, atI_nat (j := 2) rfl, .inr (.inr rfl)⟩
theorem at4 {α : Type} {x y z u : α} {i : Int} (h0 : 0 ≤ i) (h : i < 4) : ∃ v, atI [x, y, z, u] i = some v ∧ (v = x ∨ v = y ∨ v = z ∨ v = u) := by
  have c : i = 0 ∨ i = 1 ∨ i = 2 ∨ i = 3 := by omega
  rcases c with rfl | rfl | rfl | rfl
  · exact ⟨x, atI_nat (j := 0) rfl, .inl rfl⟩
  · exact ⟨y, atI_nat (j := 1) rfl, .inr (.inl rfl)⟩
  · exact ⟨z, atI_nat (j := 2) rfl, .inr (.inr (.inl rfl))⟩
  · exact ⟨u, atI_nat (j := 3) rfl, .inr (.inr (.inr rfl))⟩
/-- the drawn numbers -/
structure Nums (K : PySem.W.Frag) (H : Hp) (p : Addr) (ks : List Int) : Prop where
  at_ : SqL K H p (ks.map V.int)
  sm : Small ks
  lo : 160 ≤ ks.length
  hi : ks.length ≤ 1000
theorem Nums.ex {K : PySem.W.Frag} {H H' : Hp} {p : Addr} {ks : List Int} (e : Ex H H') (h : Nums K H p ks) : Nums K H' p ks := ⟨ex_l e h.at_, h.sm, h.lo, h.hi⟩
def sp__law_pick (K : PySem.W.Frag) : Sp := fun vs H Q _ => ∃ (p : Addr) (ks : List Int) (k : Int), vs = [.ref p, .int k] ∧ Nums K H p ks ∧ 0 ≤ k ∧ ∀ v, 0 ≤ v → Q (.int v) H
def sp__law_count : Sp := fun vs H Q _ => ∃ n lo hi : Int, vs = [.int n, .int lo, .int hi] ∧ lo ≤ hi ∧ ∀ v, lo ≤ v → v ≤ hi → Q (.int v) H
def sp__law_times (K : PySem.W.Frag) : Sp := fun vs H Q _ => ∃ (p : Addr) (ks : List Int) (k m : Int), vs = [.ref p, .int k, .int m] ∧ Nums K H p ks ∧ 0 ≤ k ∧ 0 ≤ m ∧ m ≤ 1000 ∧
  ∀ H' u us (ts : List (Option (Int × Int))), Ex H H' → H u = none → H' u = some (.lst us) → DpAll K H' us (ts.map dTime) → (ts.length : Int) = m → (∀ b ∈ ts, TimeOk b) → Q (.ref u) H'
section
variable {P : Program} {w : World} {K : PySem.W.Frag} {mg : Str → Option Value} {base : Heap} {a : Ad}
end
end EV

set_option Elab.async false
set_option linter.all false
set_option maxRecDepth 100000
set_option maxHeartbeats 4000000
namespace EV
open PySem PySem.Spec PyProof.Rows L2 EvS Evl
/-! ### names as the law makes them -/
def CH : List Nat := ("abcdefghijklmnopqrstuvwxyz0123456789" : Str).cps.toList
def chAt (i : Int) : Nat := CH.getD i.toNat 0
theorem ch_len : CH.length = 36 := by decide +kernel
theorem ch_slen : ("abcdefghijklmnopqrstuvwxyz0123456789" : Str).length = 36 := by decide +kernel
theorem ch_get {i : Int} (h0 : 0 ≤ i) (h : i < 36) : atI CH i = some (chAt i) := by
  have hl : i.toNat < CH.length := by rw [ch_len]; omega
  have z := atI_nat (xs := CH) (j := i.toNat) (List.getElem?_eq_getElem hl)
  rw [show ((i.toNat : Nat) : Int) = i by omega] at z
  rw [z]
  unfold chAt
  rw [List.getD_eq_getElem?_getD, List.getElem?_eq_getElem hl]
  rfl
theorem ch_all : ∀ i, i < 36 → okSign (CH.getD i 0) = true := by decide +kernel
theorem ch_let : ∀ i, i < 26 → decide (CH.getD i 0 ∈ LETS) = true := by decide +kernel
theorem ch_inj : ∀ i, i < 36 → ∀ j, j < 36 → CH.getD i 0 = CH.getD j 0 → i = j := by decide +kernel
theorem chAt_ok {i : Int} (h0 : 0 ≤ i) (h : i < 36) : okSign (chAt i) = true := ch_all i.toNat (by omega)
theorem chAt_let {i : Int} (h0 : 0 ≤ i) (h : i < 26) : chAt i ∈ LETS := of_decide_eq_true (ch_let i.toNat (by omega))
theorem chAt_inj {i j : Int} (h0 : 0 ≤ i) (h : i < 36) (k0 : 0 ≤ j) (k : j < 36) (e : chAt i = chAt j) : i = j := by
  have := ch_inj i.toNat (by omega) j.toNat (by omega) e
  omega
theorem m36 (x : Int) : 0 ≤ x % 36 ∧ x % 36 < 36 := ⟨Int.emod_nonneg _ (by decide), Int.emod_lt_of_pos _ (by decide)⟩
def bas (ks : List Int) (at_ : Nat) : Nat := if ks.getD 1 0 % 5 = 1 then 2 else at_
def preN (ks : List Int) (b n : Nat) : List Nat := chAt (ks.getD b 0 % 26) :: (List.range n).map fun (k : Nat) => chAt ((ks.getD (b + 2) 0 + (k : Int) * ks.getD (b + 3) 0) % 36)
def pre (ks : List Int) (b : Nat) : List Nat := preN ks b (ks.getD (b + 1) 0 % 10).toNat
def plc (ks : List Int) (b : Nat) : Nat := (1 + (ks.getD (b + 4) 0).fmod (((pre ks b).length : Nat) : Int)).toNat
def tailN (k : Nat) : List Nat := if 36 ≤ k then [113] else []
def codes (ks : List Int) (b k : Nat) : List Nat := (pre ks b).take (plc ks b) ++ ([chAt ((ks.getD (b + 5) 0 + 5 * (k : Int)) % 36)] ++ (tailN k ++ (pre ks b).drop (plc ks b)))
def nameOf (ks : List Int) (at_ k : Nat) : Str := ⟨(codes ks (bas ks at_) k).toArray⟩
def names (ks : List Int) (at_ m : Nat) : List Str := (List.range m).map (nameOf ks at_)
theorem pre_len (ks : List Int) (b : Nat) : 1 ≤ (pre ks b).length ∧ (pre ks b).length ≤ 10 := by
  unfold pre preN
  rw [List.length_cons, List.length_map, List.length_range]
  have := Int.emod_nonneg (ks.getD (b + 1) 0) (show (10 : Int) ≠ 0 by decide)
  have := Int.emod_lt_of_pos (ks.getD (b + 1) 0) (show (0 : Int) < 10 by decide)
  omega
theorem plc_le (ks : List Int) (b : Nat) : 1 ≤ plc ks b ∧ plc ks b ≤ (pre ks b).length := by
  have h := pre_len ks b
  have p : (0 : Int) < (((pre ks b).length : Nat) : Int) := by omega
  have := Int.fmod_nonneg_of_pos (ks.getD (b + 4) 0) p
  have := Int.fmod_lt_of_pos (ks.getD (b + 4) 0) p
  unfold plc
  omega
theorem pre_ok (ks : List Int) (b : Nat) : ∀ c ∈ pre ks b, okSign c = true := by
  intro c hc
  unfold pre preN at hc
  rcases List.mem_cons.mp hc with e | hc
  · rw [e]
    have := Int.emod_lt_of_pos (ks.getD b 0) (show (0 : Int) < 26 by decide)
    exact chAt_ok (Int.emod_nonneg _ (by decide)) (by omega)
  · obtain ⟨k, _, rfl⟩ := List.mem_map.mp hc
    exact chAt_ok (m36 _).1 (m36 _).2
theorem tail_len (k : Nat) : (tailN k).length = if 36 ≤ k then 1 else 0 := by
  unfold tailN
  split <;> rfl
theorem codes_len (ks : List Int) (b k : Nat) : (codes ks b k).length = (pre ks b).length + 1 + if 36 ≤ k then 1 else 0 := by
  have h := plc_le ks b
  unfold codes
  rw [List.length_append, List.length_append, List.length_append, List.length_take, List.length_drop, tail_len, List.length_singleton]
  omega
theorem name_ok (ks : List Int) (at_ k : Nat) : isName (nameOf ks at_ k) = true := by
  have hl := codes_len ks (bas ks at_) k
  have hp := pre_len ks (bas ks at_)
  have hq := plc_le ks (bas ks at_)
  have len : (nameOf ks at_ k).length = (codes ks (bas ks at_) k).length := by
    show (codes ks (bas ks at_) k).toArray.size = _
    rw [List.size_toArray]
  have lst : (nameOf ks at_ k).cps.toList = codes ks (bas ks at_) k := rfl
  unfold isName
  rw [lst, len, Bool.and_eq_true, Bool.and_eq_true]
  refine ⟨⟨decide_eq_true ⟨by omega, by rw [hl]; split <;> omega⟩, ?_⟩, ?_⟩
  · obtain ⟨m, hm⟩ : ∃ m, plc ks (bas ks at_) = m + 1 := ⟨plc ks (bas ks at_) - 1, by omega⟩
    have e : (codes ks (bas ks at_) k).head? = some (chAt (ks.getD (bas ks at_) 0 % 26)) := by
      unfold codes
      rw [hm]
      unfold pre preN
      rfl
    rw [e]
    exact decide_eq_true (chAt_let (Int.emod_nonneg _ (by decide)) (Int.emod_lt_of_pos _ (by decide)))
  · rw [List.all_eq_true]
    intro c hc
    unfold codes at hc
    rcases List.mem_append.mp hc with z | z
    · exact pre_ok _ _ c (List.mem_of_mem_take z)
    rcases List.mem_append.mp z with z | z
    · rw [List.mem_singleton.mp z]
      exact chAt_ok (m36 _).1 (m36 _).2
    rcases List.mem_append.mp z with z | z
    · unfold tailN at z
      split at z
      · rw [List.mem_singleton.mp z]
        decide +kernel
      · cases z
    · exact pre_ok _ _ c (List.mem_of_mem_drop z)
theorem name_inj (ks : List Int) (at_ : Nat) {i j : Nat} (hi : i < 72) (hj : j < 72) (e : nameOf ks at_ i = nameOf ks at_ j) : i = j := by
  have ec : codes ks (bas ks at_) i = codes ks (bas ks at_) j := by
    have z := congrArg (fun s : Str => s.cps.toList) e
    exact z
  have hl := congrArg List.length ec
  rw [codes_len, codes_len] at hl
  have hb : (36 ≤ i) ↔ (36 ≤ j) := by
    constructor
    · intro h
      rw [if_pos h] at hl
      by_cases q : 36 ≤ j
      · exact q
      · rw [if_neg q] at hl
        omega
    · intro h
      rw [if_pos h] at hl
      by_cases q : 36 ≤ i
      · exact q
      · rw [if_neg q] at hl
        omega
  have ht := plc_le ks (bas ks at_)
  have lt : ((pre ks (bas ks at_)).take (plc ks (bas ks at_))).length = plc ks (bas ks at_) := by
    rw [List.length_take]
    omega
  have gi : ∀ k, (codes ks (bas ks at_) k)[plc ks (bas ks at_)]? = some (chAt ((ks.getD (bas ks at_ + 5) 0 + 5 * (k : Int)) % 36)) := fun k => by
    unfold codes
    rw [List.getElem?_append_right (by omega), lt, Nat.sub_self]
    rfl
  have z := gi i
  rw [ec, gi j] at z
  have y := chAt_inj (m36 _).1 (m36 _).2 (m36 _).1 (m36 _).2 (Option.some.inj z)
  omega
theorem names_good (ks : List Int) (at_ : Nat) {m : Nat} (h : m ≤ 72) : Good (names ks at_ m) := by
  refine ⟨fun n hn => ?_, ?_⟩
  · obtain ⟨k, _, rfl⟩ := List.mem_map.mp hn
    exact name_ok ks at_ k
  · unfold names
    refine List.pairwise_map.mpr (List.Pairwise.imp_of_mem (fun ha hb ne e => ?_) (List.nodup_range (n := m)))
    have h1 := List.mem_range.mp ha
    have h2 := List.mem_range.mp hb
    exact ne (name_inj ks at_ (by omega) (by omega) e)
theorem names_len (ks : List Int) (at_ m : Nat) : (names ks at_ m).length = m := by
  unfold names
  rw [List.length_map, List.length_range]
theorem names_more (ks : List Int) (at_ m : Nat) : names ks at_ (m + 1) = names ks at_ m ++ [nameOf ks at_ m] := by
  unfold names
  rw [List.range_succ, List.map_append]
  rfl
/-! texts by their codes -/
abbrev tx (l : List Nat) : Str := ⟨l.toArray⟩
theorem tx_add (l m : List Nat) : tx l ++ tx m = tx (l ++ m) := Str.ext' (by rw [Str.cps_append]; simp)
theorem tx_one (c : Nat) : (⟨#[c]⟩ : Str) = tx [c] := rfl
theorem tx_len (l : List Nat) : (tx l).length = l.length := by
  show l.toArray.size = _
  rw [List.size_toArray]
theorem tx_to (l : List Nat) (n : Nat) : cutS (tx l) none (some (n : Int)) = tx (l.take n) := by
  have e : (tx l).cps.toList = l := rfl
  unfold cutS
  rw [HT.sIx_nat, HT.sIx_none, e, tx_len, List.drop_zero, Nat.sub_zero]
  rcases Nat.le_total n l.length with h | h
  · rw [Nat.min_eq_left h]
  · rw [Nat.min_eq_right h, List.take_length, List.take_of_length_le h]
theorem tx_from (l : List Nat) (n : Nat) : cutS (tx l) (some (n : Int)) none = tx (l.drop n) := by
  have e : (tx l).cps.toList = l := rfl
  unfold cutS
  rw [HT.sIx_nat, HT.sIx_none, e, tx_len]
  rcases Nat.le_total n l.length with h | h
  · rw [Nat.min_eq_left h, List.take_of_length_le (by rw [List.length_drop]; exact Nat.le_refl _)]
  · rw [Nat.min_eq_right h, List.drop_length, List.drop_eq_nil_of_le h, List.take_nil]
theorem one_len (c : Nat) : (⟨#[c]⟩ : Str).length = 1 := rfl
def sp__law_names (K : PySem.W.Frag) : Sp := fun vs H Q _ => ∃ (p : Addr) (ks : List Int) (at_ m : Nat), vs = [.ref p, .int (at_ : Int), .int (m : Int)] ∧ Nums K H p ks ∧ 2 ≤ at_ ∧ at_ ≤ 100 ∧ m ≤ 72 ∧
  ∀ H' q, Ex H H' → H q = none → H' q = some (.lst ((names ks at_ m).map V.str)) → Q (.ref q) H'
section
variable {P : Program} {w : World} {K : PySem.W.Frag} {mg : Str → Option Value} {base : Heap} {a : Ad}
end
end EV

set_option Elab.async false
set_option linter.all false
set_option maxRecDepth 100000
set_option maxHeartbeats 4000000
namespace EV
open PySem PySem.Spec PyProof.Rows L2 EvS Evl
/-! ### a heap without one place -/
def del (H : Hp) (D : Addr) : Hp := fun a => if a = D then none else H a
theorem del_upd {H : Hp} {D : Addr} {o : HO} : del (upd H D o) D = del H D := by
  funext a
  unfold del
  by_cases h : a = D
  · rw [if_pos h, if_pos h]
  · rw [if_neg h, if_neg h, upd_ne h]
theorem del_ex {H : Hp} {D : Addr} : Ex (del H D) H := fun a o h => by
  unfold del at h
  split at h
  · cases h
  · exact h
theorem ex_del {H H' : Hp} {D : Addr} (e : Ex H H') : Ex (del H D) (del H' D) := fun a o h => by
  unfold del at h ⊢
  split at h
  · cases h
  · rename_i n
    rw [if_neg n]
    exact e _ _ h
theorem ex_to_del {H H' : Hp} {D : Addr} (e : Ex H H') (h : H D = none) : Ex H (del H' D) := fun a o q => by
  unfold del
  rw [if_neg (ne_of_none q h)]
  exact e _ _ q
theorem del_at {H : Hp} {D a : Addr} {o : HO} (n : a ≠ D) (h : H a = some o) : del H D a = some o := by
  unfold del
  rw [if_neg n]
  exact h
theorem dps_drop {K : PySem.W.Frag} {H : Hp} : ∀ {vs : List V} {ds : List PyData} (n : Nat), DpAll K H vs ds → DpAll K H (vs.drop n) (ds.drop n)
  | _, _, 0, h => h
  | _, _, _ + 1, .nil => .nil
  | _, _, n + 1, .cons _ r => dps_drop n r
theorem dps_take {K : PySem.W.Frag} {H : Hp} : ∀ {vs : List V} {ds : List PyData} (n : Nat), DpAll K H vs ds → DpAll K H (vs.take n) (ds.take n)
  | _, _, 0, _ => .nil
  | _, _, _ + 1, .nil => .nil
  | _, _, n + 1, .cons h r => .cons h (dps_take n r)
theorem cut_from (xs : List V) (n : Nat) : cutV xs (some (n : Int)) none = xs.drop n := by
  unfold cutV
  rw [HT.sIx_nat, HT.sIx_none]
  rcases Nat.le_total n xs.length with h | h
  · rw [Nat.min_eq_left h, List.take_of_length_le (by rw [List.length_drop]; exact Nat.le_refl _)]
  · rw [Nat.min_eq_right h, List.drop_length, List.drop_eq_nil_of_le h, List.take_nil]
theorem cut_to (xs : List V) (n : Nat) : cutV xs none (some (n : Int)) = xs.take n := by
  unfold cutV
  rw [HT.sIx_nat, HT.sIx_none, List.drop_zero, Nat.sub_zero]
  rcases Nat.le_total n xs.length with h | h
  · rw [Nat.min_eq_left h]
  · rw [Nat.min_eq_right h, List.take_length, List.take_of_length_le h]
/-! ### pairs of places, by their numbers -/
def dIdx (ps : List Str) (q : Nat × Nat) : PyData := .tuple [.str (ps.getD q.1 ""), .str (ps.getD q.2 "")]
theorem getD_in {ps : List Str} {i : Nat} (h : i < ps.length) : ps.getD i "" ∈ ps ∧ ps[i]? = some (ps.getD i "") := by
  rw [List.getD_eq_getElem?_getD, List.getElem?_eq_getElem h]
  exact ⟨List.getElem_mem h, rfl⟩
theorem getD_inj {ps : List Str} (nd : ps.Nodup) {i j : Nat} (hi : i < ps.length) (hj : j < ps.length) (e : ps.getD i "" = ps.getD j "") : i = j := by
  rw [List.getD_eq_getElem?_getD, List.getElem?_eq_getElem hi, List.getD_eq_getElem?_getD, List.getElem?_eq_getElem hj] at e
  rcases Nat.lt_trichotomy i j with h | h | h
  · exact absurd e (List.pairwise_iff_getElem.mp nd i j hi hj h)
  · exact h
  · exact absurd e.symm (List.pairwise_iff_getElem.mp nd j i hj hi h)
theorem idx_ne {ps : List Str} (nd : ps.Nodup) {q r : Nat × Nat} (hq : q.1 < q.2 ∧ q.2 < ps.length) (hr : r.1 < r.2 ∧ r.2 < ps.length) (ne : q ≠ r) : ¬ [ps.getD q.1 "", ps.getD q.2 ""].Perm [ps.getD r.1 "", ps.getD r.2 ""] := fun p => by
  have inj := fun {i j : Nat} (hi : i < ps.length) (hj : j < ps.length) e => getD_inj nd hi hj e
  have h1 : q.1 = r.1 ∨ q.1 = r.2 := by
    have z := p.mem_iff.mp (List.mem_cons_self : ps.getD q.1 "" ∈ _)
    rcases List.mem_cons.mp z with z | z
    · exact .inl (inj (by omega) (by omega) z)
    · exact .inr (inj (by omega) (by omega) (List.mem_singleton.mp z))
  have h2 : q.2 = r.1 ∨ q.2 = r.2 := by
    have z := p.mem_iff.mp (List.mem_cons_of_mem _ (List.mem_singleton.mpr rfl) : ps.getD q.2 "" ∈ [ps.getD q.1 "", ps.getD q.2 ""])
    rcases List.mem_cons.mp z with z | z
    · exact .inl (inj (by omega) (by omega) z)
    · exact .inr (inj (by omega) (by omega) (List.mem_singleton.mp z))
  refine ne (Prod.ext ?_ ?_) <;> omega
theorem idx_apart {ps : List Str} (nd : ps.Nodup) {I : List (Nat × Nat)} : ∀ {pa : List (Str × Str × Int)}, I.Nodup → (∀ q ∈ I, q.1 < q.2 ∧ q.2 < ps.length) → All2 (fun (x : Str × Str × Int) (q : Nat × Nat) => [x.1, x.2.1].Perm [ps.getD q.1 "", ps.getD q.2 ""] ∧ 1 ≤ x.2.2 ∧ x.2.2 ≤ 1000) pa I → (pa.map fun p => (p.1, p.2.1)).Pairwise Apart ∧ ∀ p ∈ pa, PathOk ps p := by
  induction I with
  | nil =>
    intro pa _ _ h
    cases h
    exact ⟨List.Pairwise.nil, fun p hp => by cases hp⟩
  | cons q I ih =>
    intro pa hn hI h
    cases h with
    | @cons x _ xs _ hx r =>
      rw [List.nodup_cons] at hn
      obtain ⟨h1, h2⟩ := ih hn.2 (fun q hq => hI q (List.mem_cons_of_mem _ hq)) r
      have hq := hI q List.mem_cons_self
      refine ⟨?_, fun p hp => ?_⟩
      · rw [List.map_cons, List.pairwise_cons]
        refine ⟨fun y hy pm => ?_, h1⟩
        obtain ⟨z, hz, rfl⟩ := List.mem_map.mp hy
        obtain ⟨i, hi, ei⟩ := List.getElem_of_mem hz
        obtain ⟨r2, hr2, p2⟩ := r.at i (show xs[i]? = some z by rw [List.getElem?_eq_getElem hi, ei])
        have hm := List.mem_of_getElem? hr2
        exact idx_ne nd hq (hI r2 (List.mem_cons_of_mem _ hm)) (fun e => hn.1 (e ▸ hm)) (hx.1.symm.trans (pm.trans p2.1))
      · rcases List.mem_cons.mp hp with rfl | hp
        · have g1 := (getD_in (ps := ps) (i := q.1) (by omega)).1
          have g2 := (getD_in (ps := ps) (i := q.2) (by omega)).1
          have m1 := hx.1.mem_iff.mp (List.mem_cons_self : p.1 ∈ _)
          have m2 := hx.1.mem_iff.mp (List.mem_cons_of_mem _ (List.mem_singleton.mpr rfl) : p.2.1 ∈ [p.1, p.2.1])
          refine ⟨?_, ?_, fun e => ?_, hx.2.1, hx.2.2⟩
          · rcases List.mem_cons.mp m1 with z | z
            · rw [z]; exact g1
            · rw [List.mem_singleton.mp z]; exact g2
          · rcases List.mem_cons.mp m2 with z | z
            · rw [z]; exact g1
            · rw [List.mem_singleton.mp z]; exact g2
          · have z1 := hx.1.symm.mem_iff.mp (List.mem_cons_self : ps.getD q.1 "" ∈ _)
            have z2 := hx.1.symm.mem_iff.mp (List.mem_cons_of_mem _ (List.mem_singleton.mpr rfl) : ps.getD q.2 "" ∈ [ps.getD q.1 "", ps.getD q.2 ""])
            rw [← e] at z1 z2
            have w1 : ps.getD q.1 "" = p.1 := by simpa using z1
            have w2 : ps.getD q.2 "" = p.1 := by simpa using z2
            have := getD_inj nd (by omega) (by omega) (w1.trans w2.symm)
            omega
        · exact h2 p hp
def sp__law_paths (K : PySem.W.Frag) : Sp := fun vs H Q _ => ∃ (p pl : Addr) (ks : List Int) (ps : List Str) (k m : Int), vs = [.ref p, .int k, .ref pl, .int m] ∧ Nums K H p ks ∧ SqL K H pl (ps.map V.str) ∧ Good ps ∧ ps.length ≤ 24 ∧ 0 ≤ k ∧ 0 ≤ m ∧ m ≤ 60 ∧
  ∀ H' q (pa : List (Str × Str × Int)), Ex H H' → H q = none → Dp K H' (.ref q) (.list (pa.map dPath)) → pa.length ≤ 60 → (∀ p ∈ pa, PathOk ps p) → (pa.map fun p => (p.1, p.2.1)).Pairwise Apart → Q (.ref q) H'
section
variable {P : Program} {w : World} {K : PySem.W.Frag} {mg : Str → Option Value} {base : Heap} {a : Ad}
end
end EV

set_option Elab.async false
set_option linter.all false
set_option maxRecDepth 100000
set_option maxHeartbeats 4000000
namespace EV
open PySem PySem.Spec PyProof.Rows L2 EvS Evl
theorem other_ne {o y L : Int} (o0 : 0 ≤ o) (oL : o < L) (y0 : 0 ≤ y) (yL : y < L - 1) : 0 ≤ (o + 1 + y).fmod L ∧ (o + 1 + y).fmod L < L ∧ (o + 1 + y).fmod L ≠ o := by
  rw [Int.fmod_eq_emod_of_nonneg _ (by omega)]
  rcases Int.lt_or_le (o + 1 + y) L with h | h
  · rw [Int.emod_eq_of_lt (by omega) h]
    omega
  · have e : o + 1 + y = (o + 1 + y - L) + L := by omega
    rw [e, Int.add_emod_right, Int.emod_eq_of_lt (by omega) (by omega)]
    omega
def sp__law_parts (K : PySem.W.Frag) : Sp := fun vs H Q _ => ∃ (p : Addr) (ks : List Int), vs = [.ref p] ∧ Nums K H p ks ∧ ∀ H' q D, Ex H H' → H q = none → Dp K H' (.ref q) (dParts D) → LandOk D → Q (.ref q) H'
section
variable {P : Program} {w : World} {K : PySem.W.Frag} {mg : Str → Option Value} {base : Heap} {a : Ad}
end
end EV

set_option Elab.async false
set_option linter.all false
set_option maxRecDepth 100000
set_option maxHeartbeats 4000000
namespace EV
open PySem PySem.Spec PyProof.Rows L2 EvS Evl
/-! ### data that may be compared -/
theorem sign_small : ∀ c ∈ LETS ++ DIGS, c < 1114112 := by decide +kernel
theorem name_strOk {z : Str} (h : isName z = true) : PyData.strOk z = true := by
  unfold isName at h
  rw [Bool.and_eq_true] at h
  unfold PyData.strOk
  rw [Array.all_eq_true_iff_forall_mem]
  intro c hc
  have q := List.all_eq_true.mp h.2 c (Array.mem_toList_iff.mpr hc)
  unfold okSign at q
  rw [Bool.or_eq_true] at q
  refine decide_eq_true (sign_small c ?_)
  rcases q with q | q
  · exact List.mem_append_left _ (of_decide_eq_true q)
  · exact List.mem_append_right _ (of_decide_eq_true q)
theorem lay_of : ∀ {ds : List PyData}, (∀ d ∈ ds, PyData.canLay0 d = true) → PyData.canLayAll0 ds = true
  | [], _ => by simp [PyData.canLayAll0]
  | d :: ds, h => by
    rw [PyData.canLayAll0, h d List.mem_cons_self, lay_of fun x hx => h x (List.mem_cons_of_mem _ hx)]
    rfl
theorem deep_of {n : Nat} : ∀ {ds : List PyData}, (∀ d ∈ ds, PyData.depth d ≤ n) → PyData.depthAll ds ≤ n
  | [], _ => by simp [PyData.depthAll]
  | d :: ds, h => by
    have h1 := h d List.mem_cons_self
    have h2 := deep_of (n := n) (ds := ds) fun x hx => h x (List.mem_cons_of_mem _ hx)
    simp only [PyData.depthAll]
    omega
/-- small data: fit to be laid, and not deep -/
def Sh (n : Nat) (d : PyData) : Prop := PyData.canLay0 d = true ∧ PyData.depth d ≤ n
theorem sh_str {z : Str} {n : Nat} (h : isName z = true) : Sh (n + 1) (.str z) := ⟨by simp only [PyData.canLay0]; exact name_strOk h, by simp only [PyData.depth]; omega⟩
theorem sh_tup {n : Nat} {ds : List PyData} (h : ∀ d ∈ ds, Sh n d) : Sh (n + 1) (.tuple ds) := by
  have := deep_of (n := n) fun d hd => (h d hd).2
  exact ⟨by simp only [PyData.canLay0]; exact lay_of fun d hd => (h d hd).1, by simp only [PyData.depth]; omega⟩
theorem sh_lst {n : Nat} {ds : List PyData} (h : ∀ d ∈ ds, Sh n d) : Sh (n + 1) (.list ds) := by
  have := deep_of (n := n) fun d hd => (h d hd).2
  exact ⟨by simp only [PyData.canLay0]; exact lay_of fun d hd => (h d hd).1, by simp only [PyData.depth]; omega⟩
theorem sh_int (i : Int) (n : Nat) : Sh (n + 1) (.int i) := ⟨by simp only [PyData.canLay0], by simp only [PyData.depth]; omega⟩
theorem sh_up {n m : Nat} {d : PyData} (h : n ≤ m) (q : Sh n d) : Sh m d := ⟨q.1, Nat.le_trans q.2 h⟩
theorem sh_shaped {n : Nat} {d : PyData} (h : Sh n d) (hn : n ≤ 64) : SeqAt.shaped d = true := by
  show (PyData.canLay0 d && decide (PyData.depth d ≤ 64)) = true
  rw [Bool.and_eq_true]
  exact ⟨h.1, decide_eq_true (Nat.le_trans h.2 hn)⟩
theorem sh_time (b : Option (Int × Int)) : Sh 3 (dTime b) := by
  cases b with
  | none => exact ⟨by simp [dTime, PyData.canLay0], by simp [dTime, PyData.depth]⟩
  | some b =>
    refine sh_tup (n := 2) fun d hd => ?_
    rcases List.mem_cons.mp hd with rfl | hd
    · exact sh_int _ _
    · rw [List.mem_singleton.mp hd]
      exact sh_int _ _
theorem sh_strs {ns : List Str} (h : ∀ n ∈ ns, isName n = true) : Sh 6 (.tuple (ns.map .str)) := sh_tup (n := 5) fun d hd => by
  obtain ⟨n, hn, rfl⟩ := List.mem_map.mp hd
  exact sh_str (h n hn)
theorem mem4 {α : Type} {x a b c d : α} (h : x ∈ [a, b, c, d]) : x = a ∨ x = b ∨ x = c ∨ x = d := by simpa using h
theorem sh_link {D : LandD} (ok : LandOk D) {k : Link} (hk : k ∈ D.ls) : Sh 5 (dLink k) := by
  have l := ok.lk k hk
  refine sh_tup (n := 4) fun d hd => ?_
  rcases mem4 hd with rfl | rfl | rfl | rfl
  · exact sh_str (ok.gl.1 _ (List.mem_map.mpr ⟨k, hk, rfl⟩))
  · exact sh_str (ok.gp.1 _ l.o)
  · exact sh_str (ok.gp.1 _ l.t)
  · refine sh_tup (n := 3) fun d hd => ?_
    obtain ⟨b, _, rfl⟩ := List.mem_map.mp hd
    exact sh_time b
theorem sh_path {D : LandD} (ok : LandOk D) {p : Str × Str × Int} (hp : p ∈ D.pa) : Sh 5 (dPath p) := by
  have l := ok.pt p hp
  refine sh_tup (n := 4) fun d hd => ?_
  have q : d = .str p.1 ∨ d = .str p.2.1 ∨ d = .int p.2.2 := by simpa using hd
  rcases q with rfl | rfl | rfl
  · exact sh_str (ok.gp.1 _ l.o)
  · exact sh_str (ok.gp.1 _ l.t)
  · exact sh_int _ _
theorem sh_land {D : LandD} (ok : LandOk D) : Sh 7 (dLand D) := by
  refine sh_tup (n := 6) fun d hd => ?_
  rcases mem4 hd with rfl | rfl | rfl | rfl
  · exact sh_strs ok.gw.1
  · exact sh_strs ok.gp.1
  · refine sh_tup (n := 5) fun d hd => ?_
    obtain ⟨b, hb, rfl⟩ := List.mem_map.mp hd
    exact sh_link ok hb
  · refine sh_tup (n := 5) fun d hd => ?_
    obtain ⟨b, hb, rfl⟩ := List.mem_map.mp hd
    exact sh_path ok hb
theorem shaped_land {D : LandD} (ok : LandOk D) : SeqAt.shaped (dLand D) = true := sh_shaped (sh_land ok) (by decide)
theorem eqv_self {d : PyData} (h : SeqAt.shaped d = true) : PyData.eqv d d = true := SeqAt.eqv_refl _ (SeqAt.canLay_of_shaped h)
/-! ### the parts of a list of parts -/
structure PartsAt (K : PySem.W.Frag) (H : Hp) (p : Addr) (D : LandD) (wi pl li pa : Addr) (rows prs : List V) : Prop where
  ob : SqL K H p [.ref wi, .ref pl, .ref li, .ref pa]
  wi : SqL K H wi (D.ws.map V.str)
  pl : SqL K H pl (D.ps.map V.str)
  li : SqL K H li rows
  ls : DpAll K H rows (D.ls.map dRaw)
  pa : SqL K H pa prs
  ps : DpAll K H prs (D.pa.map dPath)
theorem PartsAt.ex {K : PySem.W.Frag} {H H' : Hp} {p : Addr} {D : LandD} {wi pl li pa : Addr} {rows prs : List V} (e : Ex H H') (h : PartsAt K H p D wi pl li pa rows prs) : PartsAt K H' p D wi pl li pa rows prs :=
  ⟨ex_l e h.ob, ex_l e h.wi, ex_l e h.pl, ex_l e h.li, dps_ex e h.ls, ex_l e h.pa, dps_ex e h.ps⟩
theorem parts_in {K : PySem.W.Frag} {H : Hp} {p : Addr} {D : LandD} (h : Dp K H (.ref p) (dParts D)) : ∃ wi pl li pa rows prs, PartsAt K H p D wi pl li pa rows prs := by
  unfold dParts at h
  cases h with
  | lst hs hr =>
    cases hr with
    | cons a1 hr =>
      cases a1 with
      | lst s1 d1 =>
        cases hr with
        | cons a2 hr =>
          cases a2 with
          | lst s2 d2 =>
            cases hr with
            | cons a3 hr =>
              cases a3 with
              | lst s3 d3 =>
                cases hr with
                | cons a4 hr =>
                  cases a4 with
                  | lst s4 d4 =>
                    cases hr
                    rw [dps_strs d1] at s1
                    rw [dps_strs d2] at s2
                    exact ⟨_, _, _, _, _, _, hs, s1, s2, s3, d3, s4, d4⟩
def sp__law_made (K : PySem.W.Frag) (C : Addr) : Sp := fun vs H Q _ => ∃ (p : Addr) (D : LandD), vs = [.ref p] ∧ Dp K H (.ref p) (dParts D) ∧ LandOk D ∧ ∀ H' x, Ex H H' → H x = none → IsLand K C H' x D → Q (.ref x) H'
def sp__law_frozen (K : PySem.W.Frag) : Sp := fun vs H Q _ => ∃ (p : Addr) (D : LandD), vs = [.ref p] ∧ Dp K H (.ref p) (dParts D) ∧ LandOk D ∧ ∀ H' q, Ex H H' → H q = none → Dp K H' (.ref q) (dLand D) → Q (.ref q) H'
def sp__law_same (K : PySem.W.Frag) (C : Addr) : Sp := fun vs H Q _ => ∃ (x d : Addr) (D : LandD), vs = [.ref x, .ref d] ∧ IsLand K C H x D ∧ Dp K H (.ref d) (dLand D) ∧ LandOk D ∧ ∀ H', Ex H H' → Q (.bl true) H'
section
variable {P : Program} {w : World} {K : PySem.W.Frag} {mg : Str → Option Value} {base : Heap} {a : Ad}
end
end EV

set_option Elab.async false
set_option linter.all false
set_option maxRecDepth 100000
set_option maxHeartbeats 4000000
namespace EV
open PySem PySem.Spec PyProof.Rows L2 EvS Evl
/-! ### names as the law makes them from one number -/
def sizeN (n : Int) : Nat := (n % 10).toNat
def restTo (n : Int) (m : Nat) : List Nat := (List.range m).map fun (k : Nat) => chAt ((n + 7 * (k : Int) * (k : Int)) % 36)
def restN (n : Int) : List Nat := restTo n (sizeN n)
def plcN (n : Int) : Nat := ((n / 10).fmod ((sizeN n : Int) + 1)).toNat
def turnN (n : Int) (m k : Nat) : Nat := if (n / 100) % 2 = 1 then m - 1 - k else k
def codesN (n : Int) (m k : Nat) : List Nat := chAt ((n + 3 * (turnN n m k : Int)) % 26) :: ((restN n).take (plcN n) ++ (chAt ((turnN n m k : Int) % 36) :: (restN n).drop (plcN n)))
def nameN (n : Int) (m k : Nat) : Str := tx (codesN n m k)
def namesTo (n : Int) (m i : Nat) : List Str := (List.range i).map (nameN n m)
def namesN (n : Int) (m : Nat) : List Str := namesTo n m m
theorem sizeN_le (n : Int) : sizeN n ≤ 9 := by
  have := Int.emod_lt_of_pos n (show (0 : Int) < 10 by decide)
  unfold sizeN
  omega
theorem restTo_len (n : Int) (m : Nat) : (restTo n m).length = m := by unfold restTo; rw [List.length_map, List.length_range]
theorem restN_len (n : Int) : (restN n).length = sizeN n := restTo_len _ _
theorem restN_ok (n : Int) : ∀ c ∈ restN n, okSign c = true := fun c hc => by
  obtain ⟨j, _, rfl⟩ := List.mem_map.mp hc
  exact chAt_ok (m36 _).1 (m36 _).2
theorem plcN_le (n : Int) : plcN n ≤ (restN n).length := by
  have pd : (0 : Int) < ((sizeN n : Nat) : Int) + 1 := by omega
  have := Int.fmod_lt_of_pos (n / 10) pd
  have := Int.fmod_nonneg_of_pos (n / 10) pd
  rw [restN_len]
  unfold plcN
  omega
theorem codesN_len (n : Int) (m k : Nat) : (codesN n m k).length = sizeN n + 2 := by
  have h := plcN_le n
  have := restN_len n
  unfold codesN
  rw [List.length_cons, List.length_append, List.length_take, List.length_cons, List.length_drop]
  omega
theorem nameN_ok (n : Int) (m k : Nat) : isName (nameN n m k) = true := by
  have hl := codesN_len n m k
  have ho := sizeN_le n
  have len : (nameN n m k).length = (codesN n m k).length := by
    show (codesN n m k).toArray.size = _
    rw [List.size_toArray]
  have lst : (nameN n m k).cps.toList = codesN n m k := rfl
  unfold isName
  rw [lst, len, Bool.and_eq_true, Bool.and_eq_true]
  refine ⟨⟨decide_eq_true ⟨by omega, by omega⟩, ?_⟩, ?_⟩
  · have e : (codesN n m k).head? = some (chAt ((n + 3 * (turnN n m k : Int)) % 26)) := rfl
    rw [e]
    exact decide_eq_true (chAt_let (Int.emod_nonneg _ (by decide)) (Int.emod_lt_of_pos _ (by decide)))
  · rw [List.all_eq_true]
    intro c hc
    unfold codesN at hc
    rcases List.mem_cons.mp hc with z | z
    · rw [z]
      have := Int.emod_lt_of_pos (n + 3 * (turnN n m k : Int)) (show (0 : Int) < 26 by decide)
      exact chAt_ok (Int.emod_nonneg _ (by decide)) (by omega)
    rcases List.mem_append.mp z with z | z
    · exact restN_ok _ c (List.mem_of_mem_take z)
    rcases List.mem_cons.mp z with z | z
    · rw [z]
      exact chAt_ok (m36 _).1 (m36 _).2
    · exact restN_ok _ c (List.mem_of_mem_drop z)
theorem nameN_inj (n : Int) {m i j : Nat} (hm : m ≤ 36) (hi : i < m) (hj : j < m) (e : nameN n m i = nameN n m j) : i = j := by
  have ec : codesN n m i = codesN n m j := congrArg (fun s : Str => s.cps.toList) e
  unfold codesN at ec
  have z := (List.cons.inj ec).2
  have z2 := List.append_cancel_left z
  have z3 := (List.cons.inj z2).1
  have y := chAt_inj (m36 _).1 (m36 _).2 (m36 _).1 (m36 _).2 z3
  unfold turnN at y
  split at y <;> omega
theorem namesN_good (n : Int) {m : Nat} (h : m ≤ 36) : Good (namesN n m) := by
  refine ⟨fun z hz => ?_, ?_⟩
  · obtain ⟨k, _, rfl⟩ := List.mem_map.mp hz
    exact nameN_ok n m k
  · unfold namesN namesTo
    refine List.pairwise_map.mpr (List.Pairwise.imp_of_mem (fun ha hb ne e => ?_) (List.nodup_range (n := m)))
    have h1 := List.mem_range.mp ha
    have h2 := List.mem_range.mp hb
    exact ne (nameN_inj n h h1 h2 e)
theorem namesTo_len (n : Int) (m i : Nat) : (namesTo n m i).length = i := by unfold namesTo; rw [List.length_map, List.length_range]
theorem namesN_len (n : Int) (m : Nat) : (namesN n m).length = m := namesTo_len n m m
theorem namesTo_more (n : Int) (m i : Nat) : namesTo n m (i + 1) = namesTo n m i ++ [nameN n m i] := by
  unfold namesTo
  rw [List.range_succ, List.map_append]
  rfl
theorem join_ones : ∀ l : List Nat, Txt.join "" (l.map fun c => tx [c]) = tx l := fun l => by
  rw [show Txt.join "" (l.map fun c => tx [c]) = Str.join "" (l.map fun c => tx [c]) from StrLaws.glued_eq_join _ _]
  induction l with
  | nil => rfl
  | cons c r ih =>
    cases r with
    | nil => rfl
    | cons d r =>
      show tx [c] ++ "" ++ Str.join "" ((d :: r).map fun c => tx [c]) = tx (c :: d :: r)
      rw [ih]
      have e : (tx [c] ++ ("" : Str)) = tx [c] := Str.ext' (by rw [Str.cps_append]; simp; rfl)
      rw [e, tx_add]
      rfl
theorem ones_sum : ∀ l : List Nat, ((l.map fun c => tx [c]).map (·.length)).sum = l.length
  | [] => rfl
  | c :: r => by
    have ih := ones_sum r
    rw [List.map_cons, List.map_cons, List.sum_cons, ih, List.length_cons]
    show 1 + r.length = _
    omega
def sp2__law_names : Sp := fun vs H Q _ => ∃ (n : Int) (m : Nat), vs = [.int n, .int (m : Int)] ∧ 0 ≤ n ∧ n < 1009 ∧ m ≤ 36 ∧
  ∀ H' q, Ex H H' → H q = none → H' q = some (.lst ((namesN n m).map V.str)) → Q (.ref q) H'
end EV

set_option Elab.async false
set_option linter.all false
set_option maxRecDepth 100000
set_option maxHeartbeats 4000000
namespace EV
open PySem PySem.Spec PyProof.Rows L2 EvS Evl
section
variable {P : Program} {w : World} {K : PySem.W.Frag} {mg : Str → Option Value} {base : Heap} {a : Ad}
theorem G__law_names (T : Txt K mg a) : FnOk P w K mg base CX0 1 a.f__law_names a.d__law_names ["number", "many"] sp2__law_names := by
  refine T.F__law_names.ok sc__law_names (fun vs H Q E h => ?_) (fun cdv A outer s H vs Q E hr h => ?_)
  · obtain ⟨n, m, rfl, _⟩ := h
    rfl
  · obtain ⟨n, m, rfl, n0, n1, m36', k⟩ := h
    refine ⟨_, (pss_cons (ps_set (i := 2) sc__law_names.nd rfl (Or.inr rfl) pe_str)
      (pss_cons (ps_set (i := 3) sc__law_names.nd rfl (Or.inl rfl) (pe_op op_mod (pe_callTy call_int1 (by rfl) T.z_int (by decide +kernel) (pa_cons (pv 0) pa_nil)) pe_int))
      (pss_cons (ps_set (i := 4) sc__law_names.nd rfl (Or.inl rfl) (pe_join pe_str (pe_lc (own := [("k", 7)]) (g := gName 7) (tt := tYes) rfl sc__law_names.nd (pi_range1 (by rfl) T.z_range (pa_cons (pv 3) pa_nil)) (blkOk_by (N := ["number", "many", "letters", "size", "rest", "place", "names", "k", "turn"]) (sc := defScope s__law_names) (by decide +kernel)) (fun _ _ _ _ _ => pg_name (i := 7) sc__law_names.nd rfl (Or.inl rfl)) (fun _ _ _ _ _ => pts_nil) (fun _ _ _ _ _ => (pe_ix ix_str (pv 2) (pe_op op_mod (pe_callTy call_int1 (by rfl) T.z_int (by decide +kernel) (pa_cons (pe_op op_add (pv 0) (pe_op op_mul (pe_op op_mul pe_int (pv 7)) (pv 7))) pa_nil)) pe_int) (fun _ _ => rfl))))))
      (pss_cons (ps_set (i := 5) sc__law_names.nd rfl (Or.inl rfl) (pe_op op_modN (pe_callTy call_int1 (by rfl) T.z_int (by decide +kernel) (pa_cons (pe_op op_fdiv (pv 0) pe_int) pa_nil)) (pe_op op_add (pv 3) pe_int)))
      (pss_cons (ps_set (i := 6) sc__law_names.nd rfl (Or.inl rfl) (pe_lst pa_nil))
      (pss_cons (ps_for PassesOwn.never rfl (pi_range1 (by rfl) T.z_range (pa_cons (pv 1) pa_nil)) (pg_name (i := 7) sc__law_names.nd rfl (Or.inl rfl)) (pss_cons (ps_set (i := 8) sc__law_names.nd rfl (Or.inl rfl) (pv 7))
        (Evl.pss_cut (ps_if (pt_cmpR op_eq (pe_op op_mod (pe_callTy call_int1 (by rfl) T.z_int (by decide +kernel) (pa_cons (pe_op op_fdiv (pv 0) pe_int) pa_nil)) pe_int) pe_int (nomark _)) (pss_one (ps_set (i := 8) sc__law_names.nd rfl (Or.inl rfl) (pe_op op_sub (pe_op op_sub (pv 1) pe_int) (pv 7)))) pss_nil)
        (pss_one (ps_expr (pe_bm PySem.F.plainAttrs_list PySem.F.slot_list_append PySem.F.type_list_append mt_append (pv 6) (pa_cons (pe_op op_add_str (pe_op op_add_str (pe_op op_add_str (pe_ix ix_str (pv 2) (pe_op op_mod (pe_callTy call_int1 (by rfl) T.z_int (by decide +kernel) (pa_cons (pe_op op_add (pv 0) (pe_op op_mul pe_int (pv 8))) pa_nil)) pe_int) (fun _ _ => rfl)) (pe_slice sl_str (pv 4) po_none (po_some (pv 5)))) (pe_ix ix_str (pv 2) (pe_op op_mod (pe_callTy call_int1 (by rfl) T.z_int (by decide +kernel) (pa_cons (pv 8) pa_nil)) pe_int) (fun _ _ => rfl))) (pe_slice sl_str (pv 4) (po_some (pv 5)) po_none)) pa_nil)))))))
      (pss_one (ps_ret (pv 6))))))))), ?_⟩
    have s36 : ("abcdefghijklmnopqrstuvwxyz0123456789" : Str).length ≤ sizeLine := by decide +kernel
    have z0 := Int.emod_nonneg n (show (10 : Int) ≠ 0 by decide)
    have z1 := Int.emod_lt_of_pos n (show (0 : Int) < 10 by decide)
    have es : n % 10 = ((sizeN n : Nat) : Int) := by unfold sizeN; omega
    have sl := sizeN_le n
    refine ⟨_, rfl, .inl ⟨_, rfl, _, _, rfl, rfl, (by show (0 : Int) < 10; decide), ?_⟩⟩
    -- rest
    refine ⟨⟨_, rfl⟩, _, rfl, _, rfl, by omega, by omega, fun D hD => lc_range (lo := 0) (n := (n % 10).toNat) (fun i H' => Ex H H' ∧ H' D = some (.lst (((restTo n i).map fun c => tx [c]).map V.str))) ⟨Ex.new hD, upd_same⟩ ?_ ?_⟩
    · rintro i H' hi ⟨e, hL⟩
      refine ⟨rfl, _, rfl, _, rfl, _, rfl, _, _, rfl, rfl, .inl ⟨by decide, by decide⟩, _, rfl, _, _, rfl, rfl, .inl ⟨by omega, by omega⟩, _, _, rfl, rfl, .inl ⟨_, rfl, _, _, rfl, rfl, (by show (0 : Int) < 36; decide), _, _, _, rfl, rfl, s36, ch_get (m36 _).1 (m36 _).2, _, hL, sz_lt ?_, e.mut hD, ?_⟩⟩
      · rw [List.length_map, List.length_map, restTo_len]; omega
      · rw [upd_same]
        have st : restTo n (i + 1) = restTo n i ++ [chAt ((n + 7 * (0 + (i : Int)) * (0 + (i : Int))) % 36)] := by
          unfold restTo
          rw [List.range_succ, List.map_append, Int.zero_add]
          rfl
        rw [st, List.map_append, List.map_append]
        rfl
    rintro H1 ⟨e1, hL1⟩
    refine ⟨_, D, _, rfl, rfl, .inl (SqL.of hL1), ?_, ?_⟩
    · rw [ones_sum, List.length_map, restTo_len]
      show _ + _ * 0 ≤ _
      omega
    have ej : Txt.join "" ((restTo n (n % 10).toNat).map fun c => tx [c]) = tx (restN n) := by rw [join_ones]; rfl
    clear hL1
    have rl := restN_len n
    -- place
    have pd : (0 : Int) < ((sizeN n : Nat) : Int) + 1 := by omega
    have pq := Int.fmod_nonneg_of_pos (n / 10) pd
    have ep : (n / 10).fmod (((sizeN n : Nat) : Int) + 1) = ((plcN n : Nat) : Int) := by unfold plcN; omega
    have pl := plcN_le n
    refine ⟨_, rfl, _, _, rfl, rfl, ⟨by decide, by decide⟩, .inl ⟨_, rfl, _, rfl, _, _, rfl, rfl, _, _, rfl, rfl, by omega, ?_⟩⟩
    have ep' : (n / 10).fmod (n % 10 + 1) = ((plcN n : Nat) : Int) := by rw [es]; exact ep
    -- names
    refine ⟨Nat.zero_le _, fun q hq => ?_⟩
    have e2 : Ex H (upd H1 q (.lst [])) := e1.trans (Ex.new hq)
    have hqH := fresh_back e1 hq
    refine ⟨_, rfl, _, rfl, by omega, by omega, for_range (n := ((m : Nat) : Int).toNat) (fun i σ H' => ∃ v7 v8, σ = [some (.int n), some (.int (m : Int)), some (.str "abcdefghijklmnopqrstuvwxyz0123456789"), some (.int ((sizeN n : Nat) : Int)), some (.str (tx (restN n))), some (.int ((plcN n : Nat) : Int)), some (.ref q), v7, v8] ∧ Ex H H' ∧ H' q = some (.lst ((namesTo n m i).map V.str))) ?_ ?_ ?_⟩
    · refine ⟨none, none, ?_, e2, upd_same⟩
      show [some (V.int n), some (.int (m : Int)), some (.str "abcdefghijklmnopqrstuvwxyz0123456789"), some (.int (n % 10)), some (.str (Txt.join "" ((restTo n (n % 10).toNat).map fun c => tx [c]))), some (.int ((n / 10).fmod (n % 10 + 1))), some (.ref q), none, none] = _
      rw [ep', ej, es]
    · rintro i σ H' hi ⟨v7, v8, rfl, e, hL⟩
      have hi' : i < m := by omega
      have rls : (tx (restN n)).length ≤ sizeLine := sz_of (by rw [tx_len]; omega)
      -- turn
      refine ⟨_, rfl, ?_⟩
      refine ⟨fun σ H2 => σ = [some (.int n), some (.int (m : Int)), some (.str "abcdefghijklmnopqrstuvwxyz0123456789"), some (.int ((sizeN n : Nat) : Int)), some (.str (tx (restN n))), some (.int ((plcN n : Nat) : Int)), some (.ref q), some (.int (0 + (i : Int))), some (.int ((turnN n m i : Nat) : Int))] ∧ H2 = H', ?_, ?_⟩
      · refine ⟨_, rfl, _, _, rfl, rfl, ⟨by decide, by decide⟩, .inl ⟨_, rfl, _, _, rfl, rfl, (by show (0 : Int) < 2; decide), rfl, _, rfl, ?_⟩⟩
        refine ite2 (fun h => ?_) (fun h => ?_)
        · have h' : (n / 100) % 2 = 1 := V.int.inj (of_decide_eq_true h)
          have e : ((turnN n m i : Nat) : Int) = (m : Int) - 1 - (0 + (i : Int)) := by unfold turnN; rw [if_pos h']; omega
          refine ⟨_, rfl, _, _, rfl, rfl, _, rfl, _, _, rfl, rfl, ?_, rfl⟩
          rw [e]
          rfl
        · have h' : ¬ (n / 100) % 2 = 1 := fun z => h (decide_eq_true (congrArg V.int z))
          have e : ((turnN n m i : Nat) : Int) = 0 + (i : Int) := by unfold turnN; rw [if_neg h']; omega
          refine ⟨?_, rfl⟩
          rw [e]
          rfl
      rintro σ H2 ⟨rfl, hH⟩
      rw [hH]
      clear hH H2
      have tl : turnN n m i < 36 := by unfold turnN; split <;> omega
      have f0 := Int.emod_nonneg (n + 3 * ((turnN n m i : Nat) : Int)) (show (26 : Int) ≠ 0 by decide)
      have f1 := Int.emod_lt_of_pos (n + 3 * ((turnN n m i : Nat) : Int)) (show (0 : Int) < 26 by decide)
      refine ⟨_, rfl, .inl ⟨rfl, _, SqL.of hL⟩, _, rfl, _, rfl, _, rfl, _, _, rfl, rfl, .inl ⟨by decide, by decide⟩, _, _, rfl, rfl, .inl ⟨_, rfl, _, _, rfl, rfl, (by show (0 : Int) < 26; decide), _, _, _, rfl, rfl, s36, ch_get f0 (by omega), _, rfl, _, rfl, _, rfl, _, rfl, rls, _, _, rfl, rfl, sz_of ?_, ?_⟩⟩
      · rw [tx_to, tx_len, List.length_singleton, tx_len, List.length_take]; omega
      refine ⟨_, rfl, _, rfl, .inl ⟨_, rfl, _, _, rfl, rfl, (by show (0 : Int) < 36; decide), _, _, _, rfl, rfl, s36, ch_get (m36 _).1 (m36 _).2, _, _, rfl, rfl, sz_of ?_, _, rfl, _, rfl, _, rfl, _, rfl, rls, _, _, rfl, rfl, sz_of ?_, q, _, _, rfl, rfl, hL, sz_lt (by rw [List.length_map, namesTo_len]; omega), ?_⟩⟩
      · rw [tx_to, Str.length_append, tx_len, List.length_singleton, tx_len, one_len, List.length_take]; omega
      · rw [tx_to, tx_from, Str.length_append, Str.length_append, tx_len, List.length_singleton, tx_len, one_len, tx_len, List.length_take, List.length_drop]; omega
      · refine ⟨_, _, rfl, e.mut hqH, ?_⟩
        rw [upd_same, namesTo_more, List.map_append, tx_to, tx_from, tx_one, tx_one, tx_add, tx_add, tx_add]
        show some (HO.lst (_ ++ [V.str (tx _)])) = some (HO.lst (_ ++ [V.str (tx (codesN n m i))]))
        unfold codesN
        rw [List.append_assoc, List.append_assoc]
        rfl
    · rintro σ H' ⟨v7, v8, rfl, e, hL⟩
      rw [show ((m : Nat) : Int).toNat = m by omega] at hL
      exact ⟨_, rfl, k H' q e hqH hL⟩
end
end EV

set_option Elab.async false
set_option linter.all false
set_option maxRecDepth 100000
set_option maxHeartbeats 4000000
namespace EV
open PySem PySem.Spec PyProof.Rows L2 EvS Evl
/-! ### the parts of a drawn land -/
structure Parts2 (K : PySem.W.Frag) (H : Hp) (p : Addr) (D : LandD) (wi pl li pa : Addr) (rows prs : List V) : Prop where
  ob : SqL K H p [.ref wi, .ref pl, .ref li, .ref pa]
  wi : TupX.Bare H wi (D.ws.map V.str)
  pl : SqT K H pl (D.ps.map V.str)
  li : SqT K H li rows
  ls : DpAll K H rows (D.ls.map dLink)
  pa : SqT K H pa prs
  ps : DpAll K H prs (D.pa.map dPath)
theorem Parts2.ex {K : PySem.W.Frag} {H H' : Hp} {p : Addr} {D : LandD} {wi pl li pa : Addr} {rows prs : List V} (e : Ex H H') (h : Parts2 K H p D wi pl li pa rows prs) : Parts2 K H' p D wi pl li pa rows prs :=
  ⟨ex_l e h.ob, h.wi.ex e, ex_t e h.pl, ex_t e h.li, dps_ex e h.ls, ex_t e h.pa, dps_ex e h.ps⟩
structure Small2 (D : LandD) : Prop where
  w3 : D.ws.length ≤ 3
  p2 : 2 ≤ D.ps.length
  p7 : D.ps.length ≤ 7
  l10 : D.ls.length ≤ 10
  a6 : D.pa.length ≤ 6
  m15 : ∀ k ∈ D.ls, ∀ b, some b ∈ k.ts → b.2 ≤ 15
def sp2__law_parts (K : PySem.W.Frag) : Sp := fun vs H Q _ => ∃ (p : Addr) (ks : List Int), vs = [.ref p, .int 0] ∧ Nums K H p ks ∧
  ∀ H' q D wi pl li pa rows prs, Ex H H' → H q = none → H' q = some (.lst [.ref wi, .ref pl, .ref li, .ref pa]) → Parts2 K H' q D wi pl li pa rows prs → LandOk D → Small2 D → Q (.ref q) H'
theorem perm2 {α : Type} {a b c d : α} (h : [a, b].Perm [c, d]) : (a = c ∧ b = d) ∨ (a = d ∧ b = c) := by
  have m := h.mem_iff.mp (List.mem_cons_self : a ∈ _)
  rcases List.mem_cons.mp m with z | z
  · subst z
    have := (List.perm_cons a).mp h
    have e := List.perm_singleton.mp this
    exact .inl ⟨rfl, (List.cons.inj e).1⟩
  · have z := List.mem_singleton.mp z
    subst z
    have s : [a, b].Perm [a, c] := h.trans (List.Perm.swap a c [])
    have e := List.perm_singleton.mp ((List.perm_cons a).mp s)
    exact .inr ⟨rfl, (List.cons.inj e).1⟩
def dPair (a b : Str) : PyData := .tuple [.str a, .str b]
theorem sh_pair {a b : Str} (ha : isName a = true) (hb : isName b = true) : Sh 5 (dPair a b) := sh_tup (n := 4) fun d hd => by
  have q : d = .str a ∨ d = .str b := by simpa using hd
  rcases q with rfl | rfl
  · exact sh_str ha
  · exact sh_str hb
theorem eqv_pair (a b c d : Str) : PyData.eqv (dPair a b) (dPair c d) = (a == c && b == d) := by
  unfold dPair
  simp only [PyData.eqv, PyData.eqvAll, Bool.and_true]
end EV

set_option Elab.async false
set_option linter.all false
set_option maxRecDepth 100000
set_option maxHeartbeats 4000000
namespace EV
open PySem PySem.Spec PyProof.Rows L2 EvS Evl
section
variable {P : Program} {w : World} {K : PySem.W.Frag} {mg : Str → Option Value} {base : Heap} {a : Ad}
theorem G__law_parts (T : Txt K mg a) : FnOk P w K mg base CX0 2 a.f__law_parts a.d__law_parts ["numbers", "at"] (sp2__law_parts K) := by
  refine T.F__law_parts.ok sc__law_parts (fun vs H Q E h => ?_) (fun cdv A outer s H vs Q E hr h => ?_)
  · obtain ⟨p, ks, rfl, _⟩ := h
    rfl
  · obtain ⟨p, ks, rfl, N, k⟩ := h
    have lo := N.lo
    have sm := N.sm
    refine ⟨_, (pss_cons (ps_set (i := 2) sc__law_parts.nd rfl (Or.inl rfl) (pe_call (G__law_names T) (hr.mono (by decide)) (by rfl) T.g__law_names T.k__law_names T.B__law_names .nil pass0 (pa_cons (pe_ix ix_list (pv 0) (pv 1) (fun _ _ => rfl)) (pa_cons (pe_op op_add pe_int (pe_op op_mod (pe_callTy call_int1 (by rfl) T.z_int (by decide +kernel) (pa_cons (pe_ix ix_list (pv 0) (pe_op op_add (pv 1) pe_int) (fun _ _ => rfl)) pa_nil)) pe_int)) pa_nil))))
      (pss_cons (ps_set (i := 3) sc__law_parts.nd rfl (Or.inl rfl) (pe_call (G__law_names T) (hr.mono (by decide)) (by rfl) T.g__law_names T.k__law_names T.B__law_names .nil pass0 (pa_cons (pe_ix ix_list (pv 0) (pe_op op_add (pv 1) pe_int) (fun _ _ => rfl)) (pa_cons (pe_op op_add pe_int (pe_op op_mod (pe_callTy call_int1 (by rfl) T.z_int (by decide +kernel) (pa_cons (pe_ix ix_list (pv 0) (pe_op op_add (pv 1) pe_int) (fun _ _ => rfl)) pa_nil)) pe_int)) pa_nil))))
      (pss_cons (ps_set (i := 4) sc__law_parts.nd rfl (Or.inl rfl) (pe_call (G__law_names T) (hr.mono (by decide)) (by rfl) T.g__law_names T.k__law_names T.B__law_names .nil pass0 (pa_cons (pe_ix ix_list (pv 0) (pe_op op_add (pv 1) pe_int) (fun _ _ => rfl)) (pa_cons pe_int pa_nil))))
      (pss_cons (ps_set (i := 5) sc__law_parts.nd rfl (Or.inl rfl) (pe_lst pa_nil))
      (pss_cons (ps_for PassesOwn.never rfl (pi_range1 (by rfl) T.z_range (pa_cons (pe_op op_mod (pe_callTy call_int1 (by rfl) T.z_int (by decide +kernel) (pa_cons (pe_ix ix_list (pv 0) (pe_op op_add (pv 1) pe_int) (fun _ _ => rfl)) pa_nil)) pe_int) pa_nil)) (pg_name (i := 6) sc__law_parts.nd rfl (Or.inl rfl)) (pss_cons (ps_set (i := 7) sc__law_parts.nd rfl (Or.inl rfl) (pe_op op_add (pe_op op_add (pv 1) pe_int) (pe_op op_mul pe_int (pv 6))))
        (pss_cons (ps_set (i := 8) sc__law_parts.nd rfl (Or.inl rfl) (pe_op op_modN (pe_callTy call_int1 (by rfl) T.z_int (by decide +kernel) (pa_cons (pe_ix ix_list (pv 0) (pv 7) (fun _ _ => rfl)) pa_nil)) (pe_callB call_len_seq (by rfl) T.z_len PySem.boot_len (pa_cons (pv 3) pa_nil))))
        (pss_cons (ps_set (i := 9) sc__law_parts.nd rfl (Or.inl rfl) (pe_op op_modN (pe_callTy call_int1 (by rfl) T.z_int (by decide +kernel) (pa_cons (pe_op op_add (pe_op op_add (pv 8) pe_int) (pe_op op_modN (pe_callTy call_int1 (by rfl) T.z_int (by decide +kernel) (pa_cons (pe_ix ix_list (pv 0) (pe_op op_add (pv 7) pe_int) (fun _ _ => rfl)) pa_nil)) (pe_op op_sub (pe_callB call_len_seq (by rfl) T.z_len PySem.boot_len (pa_cons (pv 3) pa_nil)) pe_int))) pa_nil)) (pe_callB call_len_seq (by rfl) T.z_len PySem.boot_len (pa_cons (pv 3) pa_nil))))
        (pss_cons (ps_set (i := 10) sc__law_parts.nd rfl (Or.inl rfl) (pe_lst pa_nil))
        (pss_cons (ps_for PassesOwn.never rfl (pi_range1 (by rfl) T.z_range (pa_cons (pe_callB call_len_seq (by rfl) T.z_len PySem.boot_len (pa_cons (pv 2) pa_nil)) pa_nil)) (pg_name (i := 11) sc__law_parts.nd rfl (Or.inl rfl)) (pss_one (ps_if (pt_cmpR op_eq (pe_op op_mod (pe_callTy call_int1 (by rfl) T.z_int (by decide +kernel) (pa_cons (pe_ix ix_list (pv 0) (pe_op op_add (pe_op op_add (pv 7) pe_int) (pv 11)) (fun _ _ => rfl)) pa_nil)) pe_int) pe_int (nomark _)) (pss_one (ps_expr (pe_bm PySem.F.plainAttrs_list PySem.F.slot_list_append PySem.F.type_list_append mt_append (pv 10) (pa_cons pe_non pa_nil)))) (pss_cons (ps_set (i := 12) sc__law_parts.nd rfl (Or.inl rfl) (pe_op op_add pe_int (pe_op op_mod (pe_callTy call_int1 (by rfl) T.z_int (by decide +kernel) (pa_cons (pe_ix ix_list (pv 0) (pe_op op_add (pe_op op_add (pv 7) pe_int) (pv 11)) (fun _ _ => rfl)) pa_nil)) pe_int)))
            (pss_one (ps_expr (pe_bm PySem.F.plainAttrs_list PySem.F.slot_list_append PySem.F.type_list_append mt_append (pv 10) (pa_cons (pe_tup (pa_cons (pv 12) (pa_cons (pe_op op_add (pv 12) (pe_op op_mod (pe_callTy call_int1 (by rfl) T.z_int (by decide +kernel) (pa_cons (pe_ix ix_list (pv 0) (pe_op op_add (pe_op op_add (pv 7) pe_int) (pv 11)) (fun _ _ => rfl)) pa_nil)) pe_int)) pa_nil))) pa_nil))))))))
        (pss_one (ps_expr (pe_bm PySem.F.plainAttrs_list PySem.F.slot_list_append PySem.F.type_list_append mt_append (pv 5) (pa_cons (pe_tup (pa_cons (pe_ix ix_list (pv 4) (pv 6) (fun _ _ => rfl)) (pa_cons (pe_ix ix_list (pv 3) (pv 8) (fun _ _ => rfl)) (pa_cons (pe_ix ix_list (pv 3) (pv 9) (fun _ _ => rfl)) (pa_cons (pe_callTy call_tupK (by rfl) T.z_tuple (by decide +kernel) (pa_cons (pv 10) pa_nil)) pa_nil))))) pa_nil))))))))))
      (pss_cons (ps_set (i := 13) sc__law_parts.nd rfl (Or.inl rfl) (pe_lst pa_nil))
      (pss_cons (ps_for PassesOwn.never rfl (pi_range1 (by rfl) T.z_range (pa_cons (pe_op op_mod (pe_callTy call_int1 (by rfl) T.z_int (by decide +kernel) (pa_cons (pe_ix ix_list (pv 0) (pe_op op_add (pv 1) pe_int) (fun _ _ => rfl)) pa_nil)) pe_int) pa_nil)) (pg_name (i := 6) sc__law_parts.nd rfl (Or.inl rfl)) (pss_cons (ps_set (i := 8) sc__law_parts.nd rfl (Or.inl rfl) (pe_op op_modN (pe_callTy call_int1 (by rfl) T.z_int (by decide +kernel) (pa_cons (pe_ix ix_list (pv 0) (pe_op op_add (pe_op op_add (pv 1) pe_int) (pe_op op_mul pe_int (pv 6))) (fun _ _ => rfl)) pa_nil)) (pe_callB call_len_seq (by rfl) T.z_len PySem.boot_len (pa_cons (pv 3) pa_nil))))
        (pss_cons (ps_set (i := 9) sc__law_parts.nd rfl (Or.inl rfl) (pe_op op_modN (pe_callTy call_int1 (by rfl) T.z_int (by decide +kernel) (pa_cons (pe_op op_add (pe_op op_add (pv 8) pe_int) (pe_op op_modN (pe_callTy call_int1 (by rfl) T.z_int (by decide +kernel) (pa_cons (pe_ix ix_list (pv 0) (pe_op op_add (pe_op op_add (pv 1) pe_int) (pe_op op_mul pe_int (pv 6))) (fun _ _ => rfl)) pa_nil)) (pe_op op_sub (pe_callB call_len_seq (by rfl) T.z_len PySem.boot_len (pa_cons (pv 3) pa_nil)) pe_int))) pa_nil)) (pe_callB call_len_seq (by rfl) T.z_len PySem.boot_len (pa_cons (pv 3) pa_nil))))
        (pss_cons (ps_set (i := 14) sc__law_parts.nd rfl (Or.inl rfl) (pe_op op_cat (pe_lc (own := [("path", 15)]) (g := gName 15) (tt := tYes) rfl sc__law_parts.nd (pi_list (pv 13)) (blkOk_by (N := ["numbers", "at", "winds", "places", "names", "links", "k", "spot", "one", "other", "times", "j", "least", "paths", "known", "path"]) (sc := defScope s__law_parts) (by decide +kernel)) (fun _ _ _ _ _ => pg_name (i := 15) sc__law_parts.nd rfl (Or.inl rfl)) (fun _ _ _ _ _ => pts_nil) (fun _ _ _ _ _ => (pe_tup (pa_cons (pe_ix (show IxR _ (rIxT K) from ix_tup) (pv 15) pe_int (fun _ _ => rfl)) (pa_cons (pe_ix (show IxR _ (rIxT K) from ix_tup) (pv 15) pe_int (fun _ _ => rfl)) pa_nil))))) (pe_lc (own := [("path", 15)]) (g := gName 15) (tt := tYes) rfl sc__law_parts.nd (pi_list (pv 13)) (blkOk_by (N := ["numbers", "at", "winds", "places", "names", "links", "k", "spot", "one", "other", "times", "j", "least", "paths", "known", "path"]) (sc := defScope s__law_parts) (by decide +kernel)) (fun _ _ _ _ _ => pg_name (i := 15) sc__law_parts.nd rfl (Or.inl rfl)) (fun _ _ _ _ _ => pts_nil) (fun _ _ _ _ _ => (pe_tup (pa_cons (pe_ix (show IxR _ (rIxT K) from ix_tup) (pv 15) pe_int (fun _ _ => rfl)) (pa_cons (pe_ix (show IxR _ (rIxT K) from ix_tup) (pv 15) pe_int (fun _ _ => rfl)) pa_nil)))))))
        (pss_one (ps_if (pt_cmpR (op_notInD (EvS.r65 hr)) (pe_tup (pa_cons (pe_ix ix_list (pv 3) (pv 8) (fun _ _ => rfl)) (pa_cons (pe_ix ix_list (pv 3) (pv 9) (fun _ _ => rfl)) pa_nil))) (pv 14) (by rfl)) (pss_one (ps_expr (pe_bm PySem.F.plainAttrs_list PySem.F.slot_list_append PySem.F.type_list_append mt_append (pv 13) (pa_cons (pe_tup (pa_cons (pe_ix ix_list (pv 3) (pv 8) (fun _ _ => rfl)) (pa_cons (pe_ix ix_list (pv 3) (pv 9) (fun _ _ => rfl)) (pa_cons (pe_op op_add pe_int (pe_op op_mod (pe_callTy call_int1 (by rfl) T.z_int (by decide +kernel) (pa_cons (pe_ix ix_list (pv 0) (pe_op op_add (pe_op op_add (pv 1) pe_int) (pe_op op_mul pe_int (pv 6))) (fun _ _ => rfl)) pa_nil)) pe_int)) pa_nil)))) pa_nil)))) pss_nil))))))
      (pss_one (ps_ret (pe_lst (pa_cons (pe_callTy TupX.call_tupF (by rfl) T.z_tuple (by decide +kernel) (pa_cons (pv 2) pa_nil)) (pa_cons (pe_callTy call_tupK (by rfl) T.z_tuple (by decide +kernel) (pa_cons (pv 3) pa_nil)) (pa_cons (pe_callTy call_tupK (by rfl) T.z_tuple (by decide +kernel) (pa_cons (pv 5) pa_nil)) (pa_cons (pe_callTy call_tupK (by rfl) T.z_tuple (by decide +kernel) (pa_cons (pv 13) pa_nil)) pa_nil)))))))))))))), ?_⟩
    have get : ∀ {H' : Hp} {i : Int}, 0 ≤ i → i < 150 → ∃ n, 0 ≤ n ∧ n < 1009 ∧ atI (ks.map V.int) i = some (.int n) := fun {H' i} h0 h1 => by
      obtain ⟨n, hn, hat, _⟩ := num_in (ks := ks) (i := i) h0 (by omega)
      exact ⟨n, (sm n hn).1, (sm n hn).2, hat⟩
    -- winds
    obtain ⟨n0, l0, u0, g0⟩ := get (H' := H) (i := 0) (by decide) (by decide)
    obtain ⟨n1, l1, u1, g1⟩ := get (H' := H) (i := 0 + 1) (by decide) (by decide)
    obtain ⟨n2, l2, u2, g2⟩ := get (H' := H) (i := 0 + 2) (by decide) (by decide)
    obtain ⟨n3, l3, u3, g3⟩ := get (H' := H) (i := 0 + 3) (by decide) (by decide)
    obtain ⟨n4, l4, u4, g4⟩ := get (H' := H) (i := 0 + 4) (by decide) (by decide)
    obtain ⟨n5, l5, u5, g5⟩ := get (H' := H) (i := 0 + 5) (by decide) (by decide)
    obtain ⟨n88, l88, u88, g88⟩ := get (H' := H) (i := 0 + 88) (by decide) (by decide)
    have a0 := Int.emod_nonneg n1 (show (3 : Int) ≠ 0 by decide)
    have a1 := Int.emod_lt_of_pos n1 (show (0 : Int) < 3 by decide)
    obtain ⟨m1, em1⟩ : ∃ m1 : Nat, 1 + n1 % 3 = (m1 : Int) := ⟨_, (Int.toNat_of_nonneg (by omega)).symm⟩
    refine ⟨_, rfl, _, rfl, p, _, _, _, rfl, rfl, N.at_, g0, _, rfl, _, rfl, _, _, rfl, rfl, p, _, _, _, rfl, rfl, N.at_, g1, .inl ⟨_, rfl, _, _, rfl, rfl, (by show (0 : Int) < 3; decide), _, _, rfl, rfl, ?_⟩⟩
    refine ⟨n0, m1, congrArg (fun x : Int => [V.int n0, .int x]) em1, l0, u0, by omega, fun H1 q1 e1 f1 h1 => ?_⟩
    -- places
    have b0 := Int.emod_nonneg n3 (show (6 : Int) ≠ 0 by decide)
    have b1 := Int.emod_lt_of_pos n3 (show (0 : Int) < 6 by decide)
    obtain ⟨m2, em2⟩ : ∃ m2 : Nat, 2 + n3 % 6 = (m2 : Int) := ⟨_, (Int.toNat_of_nonneg (by omega)).symm⟩
    refine ⟨_, rfl, _, rfl, _, _, rfl, rfl, p, _, _, _, rfl, rfl, (N.ex e1).at_, g2, _, rfl, _, rfl, _, _, rfl, rfl, p, _, _, _, rfl, rfl, (N.ex e1).at_, g3, .inl ⟨_, rfl, _, _, rfl, rfl, (by show (0 : Int) < 6; decide), _, _, rfl, rfl, ?_⟩⟩
    refine ⟨n2, m2, congrArg (fun x : Int => [V.int n2, .int x]) em2, l2, u2, by omega, fun H2 q2 e2 f2 h2 => ?_⟩
    have g12 := e1.trans e2
    -- names
    refine ⟨_, rfl, _, rfl, _, _, rfl, rfl, p, _, _, _, rfl, rfl, (N.ex g12).at_, g4, n4, 10, rfl, l4, u4, by decide, fun H3 q3 e3 f3 h3 => ?_⟩
    have g13 := g12.trans e3
    have N3 := N.ex g13
    have h13 := e3 _ _ (e2 _ _ h1)
    have h23 := e3 _ _ h2
    have gw := namesN_good n0 (m := m1) (by omega)
    have gp := namesN_good n2 (m := m2) (by omega)
    have gn := namesN_good n4 (m := 10) (by omega)
    have lw := namesN_len n0 m1
    have lp := namesN_len n2 m2
    have ln := namesN_len n4 10
    generalize namesN n0 m1 = ws at h1 h13 gw lw
    generalize namesN n2 m2 = ps at h2 h23 gp lp
    generalize namesN n4 10 = ns at h3 gn ln
    have L1 : (ws.map V.str).length = m1 := by rw [List.length_map, lw]
    have L2 : (ps.map V.str).length = m2 := by rw [List.length_map, lp]
    have pat : ∀ {xs : List Str} {i : Nat} {j : Int}, i < xs.length → j = (i : Int) → atI (xs.map V.str) j = some (.str (xs.getD i "")) := fun {xs i j} hi ej => by
      rw [ej]
      exact atI_nat (by rw [List.getElem?_map, (getD_in hi).2] <;> rfl)
    clear e1 e2 e3 g12 f1 f2 f3 g0 g1 g2 g3 g4
    -- links
    have c0 := Int.emod_nonneg n5 (show (11 : Int) ≠ 0 by decide)
    have c1 := Int.emod_lt_of_pos n5 (show (0 : Int) < 11 by decide)
    refine ⟨Nat.zero_le _, fun D hD => ?_⟩
    have start : Ex H3 (upd H3 D (.lst [])) := Ex.new hD
    refine ⟨_, rfl, _, rfl, _, _, rfl, rfl, p, _, _, _, rfl, rfl, (N3.ex start).at_, g5, .inl ⟨_, rfl, _, _, rfl, rfl, (by show (0 : Int) < 11; decide), _, rfl, by omega, by omega, for_range (n := (n5 % 11).toNat) (fun i σ H' => ∃ (rows : List V) (ls : List Link) (v6 v7 v8 v9 v10 v11 v12 : Option V), σ = [some (.ref p), some (.int 0), some (.ref q1), some (.ref q2), some (.ref q3), some (.ref D), v6, v7, v8, v9, v10, v11, v12, none, none, none] ∧ Ex H3 H' ∧ H' D = some (.lst rows) ∧ DpAll K H' rows (ls.map dLink) ∧ ls.map (·.n) = ns.take i ∧ (∀ k ∈ ls, LinkOk ws ps k) ∧ ∀ k ∈ ls, ∀ b, some b ∈ k.ts → b.2 ≤ 15) ?_ ?_ ?_⟩⟩
    · exact ⟨[], [], none, none, none, none, none, none, none, rfl, start, upd_same, .nil, rfl, (fun k hk => by cases hk), fun k hk => by cases hk⟩
    · rintro i σ H4 hi ⟨rows, ls, v6, v7, v8, v9, v10, v11, v12, rfl, e4, hR, hd, hn, hok, hsm⟩
      have hi3 : i < ns.length := by omega
      have N4 := N3.ex e4
      have sq2 := SqL.of (K := K) (e4 _ _ h23)
      have rl : rows.length = i := by
        have z := congrArg List.length hn
        rw [List.length_map, List.length_take] at z
        rw [dps_len hd, List.length_map, z]
        omega
      obtain ⟨x1, x10, x11, gx1⟩ := get (H' := H4) (i := 0 + 6 + 8 * (0 + (i : Int))) (by omega) (by omega)
      obtain ⟨x2, x20, x21, gx2⟩ := get (H' := H4) (i := 0 + 6 + 8 * (0 + (i : Int)) + 1) (by omega) (by omega)
      refine ⟨_, rfl, _, _, rfl, rfl, _, rfl, _, _, rfl, rfl, .inl ⟨by decide, by decide⟩, _, _, rfl, rfl, ?_⟩
      refine ⟨_, rfl, _, rfl, p, _, _, _, rfl, rfl, N4.at_, gx1, .inl ⟨_, rfl, _, rfl, q2, _, rfl, .inl sq2, _, _, rfl, rfl, by rw [L2]; omega, ?_⟩⟩
      refine ⟨_, rfl, _, _, rfl, rfl, _, rfl, _, rfl, _, _, rfl, rfl, p, _, _, _, rfl, rfl, N4.at_, gx2, .inl ⟨_, rfl, _, rfl, q2, _, rfl, .inl sq2, _, _, rfl, rfl, _, _, rfl, rfl, by rw [L2]; omega, _, _, rfl, rfl, .inl ⟨_, rfl, _, rfl, q2, _, rfl, .inl sq2, _, _, rfl, rfl, by rw [L2]; omega, ?_⟩⟩⟩
      have o0 := Int.fmod_nonneg_of_pos x1 (b := (((ps.map V.str).length : Nat) : Int)) (by rw [L2]; omega)
      have o1 := Int.fmod_lt_of_pos x1 (b := (((ps.map V.str).length : Nat) : Int)) (by rw [L2]; omega)
      have y0 := Int.fmod_nonneg_of_pos x2 (b := (((ps.map V.str).length : Nat) : Int) - 1) (by rw [L2]; omega)
      have y1 := Int.fmod_lt_of_pos x2 (b := (((ps.map V.str).length : Nat) : Int) - 1) (by rw [L2]; omega)
      obtain ⟨t0, t1, tn⟩ := other_ne o0 o1 y0 y1
      obtain ⟨ia, ea⟩ : ∃ ia : Nat, x1.fmod (((ps.map V.str).length : Nat) : Int) = (ia : Int) := ⟨_, (Int.toNat_of_nonneg o0).symm⟩
      obtain ⟨ib, eb⟩ : ∃ ib : Nat, (x1.fmod (((ps.map V.str).length : Nat) : Int) + 1 + x2.fmod ((((ps.map V.str).length : Nat) : Int) - 1)).fmod (((ps.map V.str).length : Nat) : Int) = (ib : Int) := ⟨_, (Int.toNat_of_nonneg t0).symm⟩
      have ha : ia < ps.length := by omega
      have hb : ib < ps.length := by omega
      have hab : ia ≠ ib := by omega
      -- times
      refine ⟨Nat.zero_le _, fun l hl => ?_⟩
      have e5 : Ex H4 (upd H4 l (.lst [])) := Ex.new hl
      refine ⟨_, rfl, q1, _, rfl, .inl (SqL.of (e5 _ _ (e4 _ _ h13))), _, rfl, by omega, by omega, for_range (n := (((ws.map V.str).length : Nat) : Int).toNat) (fun j σ H' => ∃ (us : List V) (ts : List (Option (Int × Int))) (v11 v12 : Option V), σ = [some (.ref p), some (.int 0), some (.ref q1), some (.ref q2), some (.ref q3), some (.ref D), some (.int (0 + (i : Int))), some (.int (0 + 6 + 8 * (0 + (i : Int)))), some (.int (x1.fmod (((ps.map V.str).length : Nat) : Int))), some (.int ((x1.fmod (((ps.map V.str).length : Nat) : Int) + 1 + x2.fmod ((((ps.map V.str).length : Nat) : Int) - 1)).fmod (((ps.map V.str).length : Nat) : Int))), some (.ref l), v11, v12, none, none, none] ∧ Ex H4 H' ∧ H' l = some (.lst us) ∧ DpAll K H' us (ts.map dTime) ∧ ts.length = j ∧ (∀ b ∈ ts, TimeOk b) ∧ ∀ b, some b ∈ ts → b.2 ≤ 15) ?_ ?_ ?_⟩
      · exact ⟨[], [], v11, v12, rfl, e5, upd_same, .nil, rfl, (fun b hb => by cases hb), fun b hb => by cases hb⟩
      · rintro j σ H6 hj ⟨us, ts, v11, v12, rfl, e6, hU, hdu, hlu, hku, hsu⟩
        have hj3 : j < 3 := by omega
        have N6 := N4.ex e6
        have ul : us.length = j := by rw [dps_len hdu, List.length_map, hlu]
        obtain ⟨y1', y10, y11, gy1⟩ := get (H' := H6) (i := 0 + 6 + 8 * (0 + (i : Int)) + 2 + (0 + (j : Int))) (by omega) (by omega)
        obtain ⟨y2', y20, y21, gy2⟩ := get (H' := H6) (i := 0 + 6 + 8 * (0 + (i : Int)) + 5 + (0 + (j : Int))) (by omega) (by omega)
        refine ⟨_, rfl, _, rfl, _, _, rfl, rfl, _, rfl, _, _, rfl, rfl, p, _, _, _, rfl, rfl, N6.at_, gy1, .inl ⟨_, rfl, _, _, rfl, rfl, (by show (0 : Int) < 4; decide), rfl, _, rfl, ?_⟩⟩
        refine ite2 (fun _ => ?_) (fun _ => ?_)
        · refine ⟨_, rfl, .inl ⟨rfl, _, SqL.of hU⟩, l, us, _, rfl, rfl, hU, sz_lt (by omega), us ++ [.non], ts ++ [none], _, _, rfl, e6.mut hl, upd_same, ?_, by rw [List.length_append, hlu] <;> rfl, fun b hb => ?_, fun b hb => ?_⟩
          · rw [List.map_append]
            exact dps_app (dps_exT (exT_mut hU) hdu (frozen_times _)) (dps_one .non)
          · rcases List.mem_append.mp hb with z | z
            · exact hku b z
            · rw [List.mem_singleton.mp z]; trivial
          · rcases List.mem_append.mp hb with z | z
            · exact hsu b z
            · cases List.mem_singleton.mp z
        · have z0 := Int.emod_nonneg y1' (show (9 : Int) ≠ 0 by decide)
          have z1 := Int.emod_lt_of_pos y1' (show (0 : Int) < 9 by decide)
          have z2 := Int.emod_nonneg y2' (show (7 : Int) ≠ 0 by decide)
          have z3 := Int.emod_lt_of_pos y2' (show (0 : Int) < 7 by decide)
          refine ⟨_, rfl, _, rfl, _, _, rfl, rfl, _, rfl, _, _, rfl, rfl, p, _, _, _, rfl, rfl, N6.at_, gy1, .inl ⟨_, rfl, _, _, rfl, rfl, (by show (0 : Int) < 9; decide), _, _, rfl, rfl, ?_⟩⟩
          refine ⟨_, rfl, .inl ⟨rfl, _, SqL.of hU⟩, _, rfl, _, rfl, _, rfl, _, rfl, _, _, rfl, rfl, _, rfl, _, _, rfl, rfl, p, _, _, _, rfl, rfl, N6.at_, gy2, .inl ⟨_, rfl, _, _, rfl, rfl, (by show (0 : Int) < 7; decide), _, _, rfl, rfl, by show 2 ≤ sizeLine; decide, fun t ht => ?_⟩⟩
          have e7 : Ex H6 (upd H6 t (.tup [.int (1 + y1' % 9), .int (1 + y1' % 9 + y2' % 7)])) := Ex.new ht
          refine ⟨l, us, _, rfl, rfl, e7 _ _ hU, sz_lt (by omega), us ++ [.ref t], ts ++ [some (1 + y1' % 9, 1 + y1' % 9 + y2' % 7)], _, _, rfl, (e6.trans e7).mut hl, upd_same, ?_, by rw [List.length_append, hlu] <;> rfl, fun b hb => ?_, fun b hb => ?_⟩
          · rw [List.map_append]
            exact dps_app (dps_exT (exT_mut (e7 _ _ hU)) (dps_ex e7 hdu) (frozen_times _)) (dps_one (dp_exT (exT_mut (e7 _ _ hU)) (.tup (st_of upd_same) (.cons (.int _) (.cons (.int _) .nil))) (frozen_time (some (1 + y1' % 9, 1 + y1' % 9 + y2' % 7)))))
          · rcases List.mem_append.mp hb with z | z
            · exact hku b z
            · rw [List.mem_singleton.mp z]
              exact ⟨by show 1 ≤ 1 + y1' % 9; omega, by show 1 + y1' % 9 ≤ 1 + y1' % 9 + y2' % 7; omega, by show 1 + y1' % 9 + y2' % 7 ≤ 1000; omega⟩
          · rcases List.mem_append.mp hb with z | z
            · exact hsu b z
            · obtain rfl := Option.some.inj (List.mem_singleton.mp z)
              show 1 + y1' % 9 + y2' % 7 ≤ 15
              omega
      rintro σ H6 ⟨us, ts, v11, v12, rfl, e6, hU, hdu, hlu, hku, hsu⟩
      have g46 := e4.trans e6
      refine ⟨_, rfl, .inl ⟨rfl, _, SqL.of (e6 _ _ hR)⟩, _, rfl, _, rfl, q3, _, _, _, rfl, rfl, SqL.of (g46 _ _ h3), pat hi3 (Int.zero_add _), _, rfl, _, rfl, q2, _, _, _, rfl, rfl, SqL.of (g46 _ _ h23), pat ha ea, _, rfl, _, rfl, q2, _, _, _, rfl, rfl, SqL.of (g46 _ _ h23), pat hb eb, _, rfl, l, _, rfl, .inl ⟨SqL.of hU, fun u hu => ⟨by show 4 ≤ sizeLine; decide, fun t ht => ?_⟩⟩⟩
      have e8 : Ex H6 (upd (upd H6 u (.tup us)) t (.tup [.str (ns.getD i ""), .str (ps.getD ia ""), .str (ps.getD ib ""), .ref u])) := (Ex.new hu).trans (Ex.new ht)
      have hRR := e8 _ _ (e6 _ _ hR)
      refine ⟨D, rows, _, rfl, rfl, hRR, sz_lt (by omega), rows ++ [.ref t], ls ++ [⟨ns.getD i "", ps.getD ia "", ps.getD ib "", ts⟩], _, _, _, _, _, _, _, rfl, (g46.trans e8).mut hD, upd_same, ?_, ?_, fun k0 hk => ?_, fun k0 hk => ?_⟩
      · rw [List.map_append]
        refine dps_exT (exT_mut hRR) (dps_app (dps_ex (e6.trans e8) hd) (dps_one (.tup (st_of upd_same) (.cons (.str _) (.cons (.str _) (.cons (.str _) (.cons (.tup (st_of (Ex.new ht _ _ upd_same)) (dps_ex e8 hdu)) .nil))))))) ?_
        rw [← List.map_append]
        exact frozen_links _
      · rw [List.map_append, hn, take_one (getD_in hi3).2]
        rfl
      · rcases List.mem_append.mp hk with z | z
        · exact hok k0 z
        · rw [List.mem_singleton.mp z]
          refine ⟨(getD_in ha).1, (getD_in hb).1, fun q => hab (getD_inj gp.2 ha hb q), ?_, hku⟩
          show ts.length = ws.length
          omega
      · rcases List.mem_append.mp hk with z | z
        · exact hsm k0 z
        · rw [List.mem_singleton.mp z]
          exact hsu
    rintro σ H4 ⟨rows, ls, v6, v7, v8, v9, v10, v11, v12, rfl, e4, hR, hd, hn, hok, hsm⟩
    have ll : ls.length ≤ 10 := by
      have z := congrArg List.length hn
      rw [List.length_map, List.length_take] at z
      omega
    have gl : Good (ls.map (·.n)) := by
      rw [hn]
      exact ⟨fun z hz => gn.1 z (List.mem_of_mem_take hz), List.Nodup.sublist (List.take_sublist _ _) gn.2⟩
    have N4 := N3.ex e4
    have sq2 := SqL.of (K := K) (e4 _ _ h23)
    -- paths
    have d0 := Int.emod_nonneg n88 (show (7 : Int) ≠ 0 by decide)
    have d1 := Int.emod_lt_of_pos n88 (show (0 : Int) < 7 by decide)
    refine ⟨Nat.zero_le _, fun A0 hA => ?_⟩
    have start2 : Ex H4 (upd H4 A0 (.lst [])) := Ex.new hA
    refine ⟨_, rfl, _, rfl, _, _, rfl, rfl, p, _, _, _, rfl, rfl, (N4.ex start2).at_, g88, .inl ⟨_, rfl, _, _, rfl, rfl, (by show (0 : Int) < 7; decide), _, rfl, by omega, by omega, for_range (n := (n88 % 7).toNat) (fun i σ H' => ∃ (prs : List V) (pa : List (Str × Str × Int)) (v6 v8 v9 v14 : Option V), σ = [some (.ref p), some (.int 0), some (.ref q1), some (.ref q2), some (.ref q3), some (.ref D), v6, v7, v8, v9, v10, v11, v12, some (.ref A0), v14, none] ∧ Ex H4 H' ∧ H' A0 = some (.lst prs) ∧ DpAll K H' prs (pa.map dPath) ∧ pa.length ≤ i ∧ (∀ p ∈ pa, PathOk ps p) ∧ (pa.map fun p => (p.1, p.2.1)).Pairwise Apart) ?_ ?_ ?_⟩⟩
    · exact ⟨[], [], v6, v8, v9, none, rfl, start2, upd_same, .nil, Nat.zero_le _, (fun k hk => by cases hk), List.Pairwise.nil⟩
    · rintro i σ H5 hi ⟨prs, pa, v6, v8, v9, v14, rfl, e5, hA5, hd5, hl5, hok5, hap5⟩
      have N5 := N4.ex e5
      have sq5 := ex_l e5 sq2
      have i6 : i < 6 := by omega
      have pl : prs.length = pa.length := by rw [dps_len hd5, List.length_map]
      obtain ⟨x1, x10, x11, gx1⟩ := get (H' := H5) (i := 0 + 89 + 3 * (0 + (i : Int))) (by omega) (by omega)
      obtain ⟨x2, x20, x21, gx2⟩ := get (H' := H5) (i := 0 + 90 + 3 * (0 + (i : Int))) (by omega) (by omega)
      obtain ⟨x3, x30, x31, gx3⟩ := get (H' := H5) (i := 0 + 91 + 3 * (0 + (i : Int))) (by omega) (by omega)
      refine ⟨_, rfl, _, rfl, _, _, rfl, rfl, _, rfl, _, _, rfl, rfl, .inl ⟨by decide, by decide⟩, _, _, rfl, rfl, p, _, _, _, rfl, rfl, N5.at_, gx1, .inl ⟨_, rfl, _, rfl, q2, _, rfl, .inl sq5, _, _, rfl, rfl, by rw [L2]; omega, ?_⟩⟩
      refine ⟨_, rfl, _, _, rfl, rfl, _, rfl, _, rfl, _, _, rfl, rfl, _, rfl, _, _, rfl, rfl, .inl ⟨by decide, by decide⟩, _, _, rfl, rfl, p, _, _, _, rfl, rfl, N5.at_, gx2, .inl ⟨_, rfl, _, rfl, q2, _, rfl, .inl sq5, _, _, rfl, rfl, _, _, rfl, rfl, by rw [L2]; omega, _, _, rfl, rfl, .inl ⟨_, rfl, _, rfl, q2, _, rfl, .inl sq5, _, _, rfl, rfl, by rw [L2]; omega, ?_⟩⟩⟩
      have o0 := Int.fmod_nonneg_of_pos x1 (b := (((ps.map V.str).length : Nat) : Int)) (by rw [L2]; omega)
      have o1 := Int.fmod_lt_of_pos x1 (b := (((ps.map V.str).length : Nat) : Int)) (by rw [L2]; omega)
      have y0 := Int.fmod_nonneg_of_pos x2 (b := (((ps.map V.str).length : Nat) : Int) - 1) (by rw [L2]; omega)
      have y1 := Int.fmod_lt_of_pos x2 (b := (((ps.map V.str).length : Nat) : Int) - 1) (by rw [L2]; omega)
      obtain ⟨t0, t1, tn⟩ := other_ne o0 o1 y0 y1
      obtain ⟨ia, ea⟩ : ∃ ia : Nat, x1.fmod (((ps.map V.str).length : Nat) : Int) = (ia : Int) := ⟨_, (Int.toNat_of_nonneg o0).symm⟩
      obtain ⟨ib, eb⟩ : ∃ ib : Nat, (x1.fmod (((ps.map V.str).length : Nat) : Int) + 1 + x2.fmod ((((ps.map V.str).length : Nat) : Int) - 1)).fmod (((ps.map V.str).length : Nat) : Int) = (ib : Int) := ⟨_, (Int.toNat_of_nonneg t0).symm⟩
      have ha : ia < ps.length := by omega
      have hb : ib < ps.length := by omega
      have hab : ia ≠ ib := by omega
      -- known
      refine ⟨_, rfl, A0, rfl, ⟨_, SqL.of hA5⟩, fun D1 hD1 => lcY_list (K := K) (a := A0) (xs := prs) (fun j H' => Ex H5 H' ∧ ∃ got, H' D1 = some (.lst got) ∧ got.length = j ∧ DpAll K H' got ((pa.take j).map fun p => dPair p.1 p.2.1)) ⟨Ex.new hD1, [], upd_same, rfl, .nil⟩ (fun j H' _ z => ex_l z.1 (SqL.of hA5)) ?_ ?_⟩
      · rintro j y H' hy ⟨e, got, hg, gl', hgd⟩
        have hj : j < prs.length := (List.getElem?_eq_some_iff.mp hy).1
        obtain ⟨b, hb'⟩ : ∃ b, pa[j]? = some b := ⟨pa[j]'(by omega), List.getElem?_eq_getElem (by omega)⟩
        obtain ⟨dd, hd1, hd2⟩ := dps_at (dps_ex e hd5) hy
        rw [List.getElem?_map, hb'] at hd1
        obtain rfl : dPath b = dd := Option.some.inj hd1
        obtain ⟨t, rfl, hT⟩ := path_in hd2
        refine ⟨rfl, _, rfl, t, _, _, _, rfl, rfl, hT, atI_nat (j := 0) rfl, _, rfl, t, _, _, _, rfl, rfl, hT, atI_nat (j := 1) rfl, by show 2 ≤ sizeLine; decide, fun t2 ht2 => ?_⟩
        have e' : Ex H' (upd H' t2 (.tup [.str b.1, .str b.2.1])) := Ex.new ht2
        refine ⟨got, e' _ _ hg, sz_lt (by omega), (e.trans e').mut hD1, got ++ [.ref t2], upd_same, by rw [List.length_append, gl'] <;> rfl, ?_⟩
        rw [take_one hb', List.map_append]
        refine dps_exT (exT_mut (e' _ _ hg)) (dps_app (dps_ex e' hgd) (dps_one (.tup (st_of upd_same) (.cons (.str _) (.cons (.str _) .nil))))) ?_
        exact frozenAll_of fun d hd => by
          rcases List.mem_append.mp hd with z | z
          · obtain ⟨q, _, rfl⟩ := List.mem_map.mp z
            simp [dPair, frozen, frozenAll]
          · obtain rfl : d = dPair b.1 b.2.1 := List.mem_singleton.mp z
            simp [dPair, frozen, frozenAll]
      rintro H6 ⟨e6, got1, hg1, gl1, hgd1⟩
      rw [pl, List.take_length] at hgd1
      have g56 := e5.trans e6
      have hA6 := e6 _ _ hA5
      refine ⟨_, rfl, A0, rfl, ⟨_, SqL.of hA6⟩, fun D2 hD2 => lcY_list (K := K) (a := A0) (xs := prs) (fun j H' => Ex H6 H' ∧ ∃ got, H' D2 = some (.lst got) ∧ got.length = j ∧ DpAll K H' got ((pa.take j).map fun p => dPair p.2.1 p.1)) ⟨Ex.new hD2, [], upd_same, rfl, .nil⟩ (fun j H' _ z => ex_l z.1 (SqL.of hA6)) ?_ ?_⟩
      · rintro j y H' hy ⟨e, got, hg, gl', hgd⟩
        have hj : j < prs.length := (List.getElem?_eq_some_iff.mp hy).1
        obtain ⟨b, hb'⟩ : ∃ b, pa[j]? = some b := ⟨pa[j]'(by omega), List.getElem?_eq_getElem (by omega)⟩
        obtain ⟨dd, hd1, hd2⟩ := dps_at (dps_ex (e6.trans e) hd5) hy
        rw [List.getElem?_map, hb'] at hd1
        obtain rfl : dPath b = dd := Option.some.inj hd1
        obtain ⟨t, rfl, hT⟩ := path_in hd2
        refine ⟨rfl, _, rfl, t, _, _, _, rfl, rfl, hT, atI_nat (j := 1) rfl, _, rfl, t, _, _, _, rfl, rfl, hT, atI_nat (j := 0) rfl, by show 2 ≤ sizeLine; decide, fun t2 ht2 => ?_⟩
        have e' : Ex H' (upd H' t2 (.tup [.str b.2.1, .str b.1])) := Ex.new ht2
        refine ⟨got, e' _ _ hg, sz_lt (by omega), (e.trans e').mut hD2, got ++ [.ref t2], upd_same, by rw [List.length_append, gl'] <;> rfl, ?_⟩
        rw [take_one hb', List.map_append]
        refine dps_exT (exT_mut (e' _ _ hg)) (dps_app (dps_ex e' hgd) (dps_one (.tup (st_of upd_same) (.cons (.str _) (.cons (.str _) .nil))))) ?_
        exact frozenAll_of fun d hd => by
          rcases List.mem_append.mp hd with z | z
          · obtain ⟨q, _, rfl⟩ := List.mem_map.mp z
            simp [dPair, frozen, frozenAll]
          · obtain rfl : d = dPair b.2.1 b.1 := List.mem_singleton.mp z
            simp [dPair, frozen, frozenAll]
      rintro H7 ⟨e7, got2, hg2, gl2, hgd2⟩
      rw [pl, List.take_length] at hgd2
      refine ⟨D1, D2, _, _, rfl, rfl, e7 _ _ hg1, hg2, sz_of (by omega), fun c hc => ?_⟩
      have e8 : Ex H7 (upd H7 c (.lst (got1 ++ got2))) := Ex.new hc
      have hdk : DpAll K (upd H7 c (.lst (got1 ++ got2))) (got1 ++ got2) ((pa.map fun p => dPair p.1 p.2.1) ++ (pa.map fun p => dPair p.2.1 p.1)) := dps_app (dps_ex (e7.trans e8) hgd1) (dps_ex e8 hgd2)
      have hck : (upd H7 c (.lst (got1 ++ got2))) c = some (.lst (got1 ++ got2)) := upd_same
      have g58 : Ex H5 (upd H7 c (.lst (got1 ++ got2))) := e6.trans (e7.trans e8)
      generalize upd H7 c (.lst (got1 ++ got2)) = H8 at hdk hck g58
      clear e8 e7 e6 hgd1 hgd2 hg1 hg2 hc
      have sq8 := ex_l g58 sq5
      -- the test
      refine ⟨_, rfl, _, rfl, q2, _, _, _, rfl, rfl, sq8, pat ha ea, _, rfl, _, rfl, q2, _, _, _, rfl, rfl, sq8, pat hb eb, by show 2 ≤ sizeLine; decide, fun t ht => ?_⟩
      have e9 : Ex H8 (upd H8 t (.tup [.str (ps.getD ia ""), .str (ps.getD ib "")])) := Ex.new ht
      have na := gp.1 _ (getD_in ha).1
      have nb := gp.1 _ (getD_in hb).1
      have shk : SeqAt.shaped (.list ((pa.map fun p => dPair p.1 p.2.1) ++ (pa.map fun p => dPair p.2.1 p.1))) = true := sh_shaped (sh_lst (n := 5) fun d hd => by
        rcases List.mem_append.mp hd with z | z
        · obtain ⟨q, hq, rfl⟩ := List.mem_map.mp z
          exact sh_pair (gp.1 _ (hok5 q hq).o) (gp.1 _ (hok5 q hq).t)
        · obtain ⟨q, hq, rfl⟩ := List.mem_map.mp z
          exact sh_pair (gp.1 _ (hok5 q hq).t) (gp.1 _ (hok5 q hq).o)) (by decide)
      refine ⟨_, rfl, dPair (ps.getD ia "") (ps.getD ib ""), _, .tup (st_of upd_same) (.cons (.str _) (.cons (.str _) .nil)), .lst (SqL.of (e9 _ _ hck)) (dps_ex e9 hdk), sh_shaped (sh_pair na nb) (by decide), shk, _, rfl, ?_⟩
      refine ite2 (fun hnew => ?_) (fun _ => ?_)
      · have g59 := g58.trans e9
        have hA9 := g59 _ _ hA5
        have hd9 := dps_ex g59 hd5
        have N9 := N5.ex g59
        have sq9 := ex_l g59 sq5
        generalize upd H8 t (.tup [.str (ps.getD ia ""), .str (ps.getD ib "")]) = H9 at g59 hA9 hd9 N9 sq9
        have w0 := Int.emod_nonneg x3 (show (9 : Int) ≠ 0 by decide)
        have w1 := Int.emod_lt_of_pos x3 (show (0 : Int) < 9 by decide)
        refine ⟨_, rfl, .inl ⟨rfl, _, SqL.of hA9⟩, _, rfl, _, rfl, q2, _, _, _, rfl, rfl, sq9, pat ha ea, _, rfl, _, rfl, q2, _, _, _, rfl, rfl, sq9, pat hb eb, _, rfl, _, rfl, _, _, rfl, rfl, _, rfl, _, _, rfl, rfl, .inl ⟨by decide, by decide⟩, _, _, rfl, rfl, p, _, _, _, rfl, rfl, N9.at_, gx3, .inl ⟨_, rfl, _, _, rfl, rfl, (by show (0 : Int) < 9; decide), _, _, rfl, rfl, by show 3 ≤ sizeLine; decide, fun t2 ht2 => ?_⟩⟩
        have e10 : Ex H9 (upd H9 t2 (.tup [.str (ps.getD ia ""), .str (ps.getD ib ""), .int (1 + x3 % 9)])) := Ex.new ht2
        refine ⟨A0, prs, _, rfl, rfl, e10 _ _ hA9, sz_lt (by omega), prs ++ [.ref t2], pa ++ [(ps.getD ia "", ps.getD ib "", 1 + x3 % 9)], _, _, _, _, rfl, (e5.trans (g59.trans e10)).mut hA, upd_same, ?_, by rw [List.length_append, List.length_singleton]; omega, fun q hq => ?_, ?_⟩
        · rw [List.map_append]
          refine dps_exT (exT_mut (e10 _ _ hA9)) (dps_app (dps_ex e10 hd9) (dps_one (.tup (st_of upd_same) (.cons (.str _) (.cons (.str _) (.cons (.int _) .nil)))))) ?_
          rw [← List.map_append]
          exact frozen_paths _
        · rcases List.mem_append.mp hq with z | z
          · exact hok5 q z
          · rw [List.mem_singleton.mp z]
            exact ⟨(getD_in ha).1, (getD_in hb).1, fun q => hab (getD_inj gp.2 ha hb q), by show 1 ≤ 1 + x3 % 9; omega, by show 1 + x3 % 9 ≤ 1000; omega⟩
        · rw [List.map_append]
          refine List.pairwise_append.mpr ⟨hap5, List.pairwise_singleton _ _, fun x hx y hy pm => ?_⟩
          obtain ⟨q, hq, rfl⟩ := List.mem_map.mp hx
          obtain rfl : y = (ps.getD ia "", ps.getD ib "") := List.mem_singleton.mp hy
          have no : (((pa.map fun p => dPair p.1 p.2.1) ++ (pa.map fun p => dPair p.2.1 p.1)).any fun z => PyData.eqv z (dPair (ps.getD ia "") (ps.getD ib ""))) = false := by simpa using hnew
          rw [List.any_eq_false] at no
          rcases perm2 pm with ⟨z1, z2⟩ | ⟨z1, z2⟩
          · refine no _ (List.mem_append_left _ (List.mem_map.mpr ⟨q, hq, rfl⟩)) ?_
            rw [eqv_pair]
            simp only [Bool.and_eq_true, beq_iff_eq]
            exact ⟨z1, z2⟩
          · refine no _ (List.mem_append_right _ (List.mem_map.mpr ⟨q, hq, rfl⟩)) ?_
            rw [eqv_pair]
            simp only [Bool.and_eq_true, beq_iff_eq]
            exact ⟨z2, z1⟩
      · exact ⟨prs, pa, _, _, _, _, rfl, e5.trans (g58.trans e9), e9 _ _ (g58 _ _ hA5), dps_ex (g58.trans e9) hd5, by omega, hok5, hap5⟩
    rintro σ H5 ⟨prs, pa, v6, v8, v9, v14, rfl, e5, hA5, hd5, hl5, hok5, hap5⟩
    have g35 := e4.trans e5
    refine ⟨_, rfl, q1, _, rfl, SqL.of (g35 _ _ h13), fun s1 H6 y1 z1 b1 => ?_⟩
    have g36 := g35.trans z1
    refine ⟨_, rfl, q2, _, rfl, .inl ⟨SqL.of (g36 _ _ h23), fun s2 z2 => ?_⟩⟩
    have k2 := z1.trans (Ex.new (o := .tup (ps.map V.str)) z2)
    refine ⟨_, rfl, D, _, rfl, .inl ⟨SqL.of (k2 _ _ (e5 _ _ hR)), fun s3 z3 => ?_⟩⟩
    have k3 := k2.trans (Ex.new (o := .tup rows) z3)
    refine ⟨_, rfl, A0, _, rfl, .inl ⟨SqL.of (k3 _ _ hA5), fun s4 z4 => ?_⟩⟩
    refine ⟨by show 4 ≤ sizeLine; decide, fun r hr => ?_⟩
    have f4 := (Ex.new (o := .tup prs) z4).trans (Ex.new (o := .lst [.ref s1, .ref s2, .ref s3, .ref s4]) hr)
    have k5 := k3.trans f4
    have g05 := g13.trans (g35.trans k5)
    have f26 := (Ex.new (o := .tup (ps.map V.str)) z2).trans ((Ex.new (o := .tup rows) z3).trans f4)
    refine k _ r ⟨ws, ps, ls, pa⟩ s1 s2 s3 s4 rows prs g05 (fresh_back (g13.trans (g35.trans (k3.trans (Ex.new z4)))) hr) upd_same ⟨SqL.of upd_same, ?_, ?_, ?_, ?_, ?_, ?_⟩ ?_ ?_
    · exact b1.ex f26
    · exact st_of (f4 _ _ (Ex.new z3 _ _ upd_same))
    · exact st_of (f4 _ _ upd_same)
    · exact dps_ex (e5.trans k5) hd
    · exact st_of (Ex.new hr _ _ upd_same)
    · exact dps_ex k5 hd5
    · exact ⟨by show 1 ≤ ws.length; omega, by show ws.length ≤ 4; omega, by show 1 ≤ ps.length; omega, by show ps.length ≤ 24; omega, by show ls.length ≤ 60; omega, by show pa.length ≤ 60; omega, gw, gp, gl, hok, hok5, hap5⟩
    · exact ⟨by show ws.length ≤ 3; omega, by show 2 ≤ ps.length; omega, by show ps.length ≤ 7; omega, ll, by show pa.length ≤ 6; omega, hsm⟩
end
end EV

set_option Elab.async false
set_option linter.all false
set_option maxRecDepth 100000
set_option maxHeartbeats 4000000
namespace EV
open PySem PySem.Spec PyProof.Rows L2 EvS Evl
/-! ### weathers, sides, numbers -/
def dWr (r : Int × Str) : PyData := .tuple [.int r.1, .str r.2]
def dPm (r : Str × Int) : PyData := .tuple [.str r.1, .int r.2]
theorem link_in {K : PySem.W.Frag} {H : Hp} {v : V} {k : Link} (h : Dp K H v (dLink k)) : ∃ t u vs, v = .ref t ∧ SqT K H t [.str k.n, .str k.o, .str k.t, .ref u] ∧ SqT K H u vs ∧ DpAll K H vs (k.ts.map dTime) := by
  unfold dLink at h
  cases h with
  | tup hs hr =>
    cases hr with
    | cons a1 hr =>
      cases a1
      cases hr with
      | cons a2 hr =>
        cases a2
        cases hr with
        | cons a3 hr =>
          cases a3
          cases hr with
          | cons a4 hr =>
            cases hr
            cases a4 with
            | tup hl ha => exact ⟨_, _, _, rfl, hs, hl, ha⟩
theorem wr_in {K : PySem.W.Frag} {H : Hp} {v : V} {r : Int × Str} (h : Dp K H v (dWr r)) : ∃ t, v = .ref t ∧ SqT K H t [.int r.1, .str r.2] := by
  unfold dWr at h
  cases h with
  | tup st al =>
    cases al with
    | cons d1 al =>
      cases al with
      | cons d2 al =>
        cases al
        cases d1
        cases d2
        exact ⟨_, rfl, st⟩
theorem pm_in {K : PySem.W.Frag} {H : Hp} {v : V} {r : Str × Int} (h : Dp K H v (dPm r)) : ∃ t, v = .ref t ∧ SqT K H t [.str r.1, .int r.2] := by
  unfold dPm at h
  cases h with
  | tup st al =>
    cases al with
    | cons d1 al =>
      cases al with
      | cons d2 al =>
        cases al
        cases d1
        cases d2
        exact ⟨_, rfl, st⟩
theorem pick {α : Type} {f : α → PyData} {K : PySem.W.Frag} {H : Hp} {vs : List V} {xs : List α} {i : Nat} {v : V} (h : DpAll K H vs (xs.map f)) (e : vs[i]? = some v) : ∃ x, xs[i]? = some x ∧ x ∈ xs ∧ Dp K H v (f x) := by
  obtain ⟨d, hd, dp⟩ := dps_at h e
  rw [List.getElem?_map] at hd
  obtain ⟨x, hx, rfl⟩ := Option.map_eq_some_iff.mp hd
  exact ⟨x, hx, List.mem_of_getElem? hx, dp⟩
theorem pick_i {α : Type} {f : α → PyData} {K : PySem.W.Frag} {H : Hp} {vs : List V} {xs : List α} {i : Nat} {x : α} (h : DpAll K H vs (xs.map f)) (e : xs[i]? = some x) : ∃ v, vs[i]? = some v ∧ Dp K H v (f x) := by
  have l := dps_len h
  rw [List.length_map] at l
  have hi := (List.getElem?_eq_some_iff.mp e).1
  obtain ⟨v, hv⟩ : ∃ v, vs[i]? = some v := ⟨vs[i]'(by omega), List.getElem?_eq_getElem (by omega)⟩
  obtain ⟨y, hy, _, d⟩ := pick h hv
  rw [e] at hy
  cases hy
  exact ⟨v, hv, d⟩
structure WOk (D : LandD) (ws : List (Int × Str)) : Prop where
  l1 : 1 ≤ ws.length
  l40 : ws.length ≤ 40
  nm : ∀ r ∈ ws, r.2 ∈ D.ws
  h0 : ∀ r ∈ ws.head?, r.1 = 0
  asc : ws.Pairwise fun a b => a.1 < b.1
  top : ∀ r ∈ ws, 0 ≤ r.1 ∧ r.1 ≤ 100000
def wt (D : LandD) (ws : List (Int × Str)) : FP.Wt := ws.map fun r => (r.1, D.ws.idxOf r.2)
def sideN (s : Nat) (b : Option (Int × Int)) : Option Int := b.map fun b => if s = 0 then b.1 else b.2
def lkS (s : Nat) (k : Link) : FP.Lk := ⟨k.o, k.t, k.ts.map (sideN s)⟩
def fireOf (D : LandD) (ws : List (Int × Str)) (st bs : List (Str × Int)) (s : Nat) : FP.Fire := ⟨wt D ws, D.ls.map (lkS s), st, FP.minOf bs⟩
def vInt : Option Int → V
  | none => .non
  | some i => .int i
def windS (ws : List (Int × Str)) (m : Int) (i : Nat) : Str := (ws.take i).foldl (fun z r => if r.1 ≤ m then r.2 else z) (ws.headD (0, "")).2
theorem fold_idx {ns : List Str} {m : Int} : ∀ {ws : List (Int × Str)} {z : Str}, ns.idxOf (ws.foldl (fun z r => if r.1 ≤ m then r.2 else z) z) = (ws.map fun r => (r.1, ns.idxOf r.2)).foldl (fun z r => if r.1 ≤ m then r.2 else z) (ns.idxOf z)
  | [], z => rfl
  | r :: ws, z => by
    rw [List.foldl_cons, List.map_cons, List.foldl_cons, fold_idx]
    congr 1
    by_cases h : r.1 ≤ m
    · rw [if_pos h, if_pos h]
    · rw [if_neg h, if_neg h]
theorem wind_idx {D : LandD} {ws : List (Int × Str)} {m : Int} (ne : ws ≠ []) : D.ws.idxOf (windS ws m ws.length) = FP.windAt (wt D ws) m := by
  unfold windS FP.windAt wt
  rw [List.take_length, fold_idx]
  cases ws with
  | nil => exact absurd rfl ne
  | cons r ws => rfl
theorem wind_mem {D : LandD} {ws : List (Int × Str)} {m : Int} (ok : WOk D ws) (i : Nat) : windS ws m i ∈ D.ws := by
  have key : ∀ (l : List (Int × Str)) (z : Str), z ∈ D.ws → (∀ r ∈ l, r.2 ∈ D.ws) → l.foldl (fun z r => if r.1 ≤ m then r.2 else z) z ∈ D.ws := fun l => by
    induction l with
    | nil => exact fun z hz _ => hz
    | cons r l ih =>
      intro z hz h
      rw [List.foldl_cons]
      refine ih _ ?_ fun x hx => h x (List.mem_cons_of_mem _ hx)
      split
      · exact h r List.mem_cons_self
      · exact hz
  unfold windS
  have l1 := ok.l1
  have hz : (ws.headD (0, "")).2 ∈ D.ws := by
    cases ws with
    | nil => exact absurd l1 (by decide)
    | cons r l => exact ok.nm r List.mem_cons_self
  exact key _ _ hz fun r hr => ok.nm r (List.mem_of_mem_take hr)
theorem wind_lt {D : LandD} {ws : List (Int × Str)} {m : Int} (ok : WOk D ws) : FP.windAt (wt D ws) m < D.ws.length := by
  rw [← wind_idx (fun e => by have := ok.l1; rw [e] at this; exact absurd this (by decide))]
  exact List.idxOf_lt_length_of_mem (wind_mem ok _)
def sp__law_wind (K : PySem.W.Frag) : Sp := fun vs H Q _ => ∃ (p w : Addr) (m : Int) (D : LandD) (wi pl li pa : Addr) (rows prs us : List V) (ws : List (Int × Str)), vs = [.ref p, .ref w, .int m] ∧ Parts2 K H p D wi pl li pa rows prs ∧
  SqL K H w us ∧ DpAll K H us (ws.map dWr) ∧ WOk D ws ∧ Q (.int (FP.windAt (wt D ws) m : Nat)) H
def sp__law_caught (K : PySem.W.Frag) : Sp := fun vs H Q _ => ∃ (p w t : Addr) (m : Int) (s : Nat) (D : LandD) (wi pl li pa : Addr) (rows prs us : List V) (ws : List (Int × Str)) (k : Link), vs = [.ref p, .ref w, .ref t, .int m, .int s] ∧ Parts2 K H p D wi pl li pa rows prs ∧
  SqL K H w us ∧ DpAll K H us (ws.map dWr) ∧ WOk D ws ∧ Dp K H (.ref t) (dLink k) ∧ k.ts.length = D.ws.length ∧ s < 2 ∧ ∀ H', Ex H H' → Q (vInt (FP.thr (wt D ws) (lkS s k).row m)) H'
section
variable {P : Program} {w : World} {K : PySem.W.Frag} {mg : Str → Option Value} {base : Heap} {a : Ad}
theorem G__law_wind (T : Txt K mg a) : FnOk P w K mg base CX0 1 a.f__law_wind a.d__law_wind ["parts", "weather", "minute"] (sp__law_wind K) := by
  refine T.F__law_wind.ok sc__law_wind (fun vs H Q E h => ?_) (fun cdv A outer s H vs Q E hr h => ?_)
  · obtain ⟨p, w, m, D, wi, pl, li, pa, rows, prs, us, ws, rfl, _⟩ := h
    rfl
  · obtain ⟨p, w, m, D, wi, pl, li, pa, rows, prs, us, ws, rfl, PT, hw, dw, ok, k⟩ := h
    have lu := dps_len dw
    rw [List.length_map] at lu
    have l1 := ok.l1
    have ne : ws ≠ [] := fun e => by rw [e] at l1; exact absurd l1 (by decide)
    refine ⟨_, (pss_cons (ps_set (i := 3) sc__law_wind.nd rfl (Or.inl rfl) (pe_ix ix_tup (pe_ix ix_list (pv 1) pe_int (fun _ _ => rfl)) pe_int (fun _ _ => rfl)))
      (pss_cons (ps_for PassesOwn.never rfl (pi_list (pv 1)) (pg_name (i := 4) sc__law_wind.nd rfl (Or.inl rfl)) (pss_one (ps_if (pt_cmpR op_le (pe_ix ix_tup (pv 4) pe_int (fun _ _ => rfl)) (pv 2) (nomark _)) (pss_one (ps_set (i := 3) sc__law_wind.nd rfl (Or.inl rfl) (pe_ix ix_tup (pv 4) pe_int (fun _ _ => rfl)))) pss_nil)))
      (pss_one (ps_ret (TupX.pe_bmT PySem.F.plainAttrs_tuple PySem.F.slot_tuple_index PySem.F.type_tuple_index mt_tup_index (pe_ix ix_list (pv 0) pe_int (fun _ _ => rfl)) (pa_cons (pv 3) pa_nil)))))), ?_⟩
    obtain ⟨r0, e0⟩ : ∃ r, ws[0]? = some r := ⟨ws[0], List.getElem?_eq_getElem (by omega)⟩
    obtain ⟨v0, ev0, d0⟩ := pick_i dw e0
    obtain ⟨t0, rfl, st0⟩ := wr_in d0
    have hd0 : (ws.headD (0, "")).2 = r0.2 := by
      cases ws with
      | nil => exact absurd rfl ne
      | cons r l => cases e0; rfl
    refine ⟨_, rfl, w, _, _, _, rfl, rfl, hw, atI_nat (j := 0) ev0, t0, _, _, _, rfl, rfl, st0, atI_nat (j := 1) rfl, ?_⟩
    refine ⟨_, rfl, w, rfl, ⟨_, hw⟩, for_list (K := K) (a := w) (xs := us) (fun i σ H' => ∃ v4, σ = [some (.ref p), some (.ref w), some (.int m), some (.str (windS ws m i)), v4] ∧ H' = H) ⟨none, ?_, rfl⟩ (fun i σ H' _ z => by obtain ⟨v4, _, e⟩ := z; rw [e]; exact hw) (fun i y σ H' hy z => ?_) (fun σ H' z => ?_)⟩
    · rw [show windS ws m 0 = r0.2 from hd0]
      rfl
    · obtain ⟨v4, rfl, e⟩ := z
      rw [e]
      obtain ⟨r, hr, hm, dp⟩ := pick dw hy
      obtain ⟨t, rfl, st⟩ := wr_in dp
      have nx : windS ws m (i + 1) = if r.1 ≤ m then r.2 else windS ws m i := by
        unfold windS
        rw [take_one hr, List.foldl_append]
        rfl
      refine ⟨_, rfl, t, _, _, _, rfl, rfl, st, atI_nat (j := 0) rfl, _, rfl, _, _, rfl, rfl, _, rfl, ?_⟩
      refine ite2 (fun c => ?_) (fun c => ?_)
      · rw [if_pos (of_decide_eq_true c)] at nx
        exact ⟨_, rfl, t, _, _, _, rfl, rfl, st, atI_nat (j := 1) rfl, _, by rw [nx] <;> rfl, rfl⟩
      · rw [if_neg fun q => c (decide_eq_true q)] at nx
        exact ⟨_, by rw [nx] <;> rfl, rfl⟩
    · obtain ⟨v4, rfl, e⟩ := z
      rw [e]
      rw [lu]
      have mem := wind_mem (m := m) ok ws.length
      have hj := List.idxOf_lt_length_of_mem mem
      refine ⟨_, rfl, p, _, _, _, rfl, rfl, PT.ob, atI_nat (j := 0) rfl, wi, _, rfl, PT.wi, _, rfl, wi, D.ws, _, D.ws.idxOf (windS ws m ws.length), rfl, rfl, PT.wi.sq, ?_, fun j hlt q => ?_, ?_⟩
      · rw [List.getElem?_eq_getElem hj]
        exact congrArg some (List.getElem_idxOf hj)
      · have h1 : j < D.ws.length := by omega
        rw [List.getElem?_eq_getElem h1] at q
        have := List.not_of_lt_findIdx (p := (· == windS ws m ws.length)) (xs := D.ws) hlt
        rw [Option.some.inj q] at this
        exact absurd this (by simp)
      · rw [wind_idx ne]
        exact k
theorem G__law_caught (T : Txt K mg a) : FnOk P w K mg base CX0 2 a.f__law_caught a.d__law_caught ["parts", "weather", "link", "minute", "side"] (sp__law_caught K) := by
  refine T.F__law_caught.ok sc__law_caught (fun vs H Q E h => ?_) (fun cdv A outer s H vs Q E hr h => ?_)
  · obtain ⟨p, w, t, m, sd, D, wi, pl, li, pa, rows, prs, us, ws, k0, rfl, _⟩ := h
    rfl
  · obtain ⟨p, w, t, m, sd, D, wi, pl, li, pa, rows, prs, us, ws, k0, rfl, PT, hw, dw, ok, dk, tl, s2, k⟩ := h
    have lu := dps_len dw
    rw [List.length_map] at lu
    have l40 := ok.l40
    obtain ⟨t', u, vs, et, hT, hU, hts⟩ := link_in dk
    cases et
    have vl := dps_len hts
    rw [List.length_map] at vl
    refine ⟨_, (pss_cons (ps_set (i := 5) sc__law_caught.nd rfl (Or.inl rfl) pe_non)
      (pss_cons (ps_for PassesOwn.never rfl (pi_list (pe_op op_cat (pe_lst (pa_cons (pv 3) pa_nil)) (pe_lc (own := [("row", 8)]) (g := gName 8) rfl sc__law_caught.nd (pi_list (pv 1)) (blkOk_by (N := ["parts", "weather", "link", "minute", "side", "caught", "start", "bounds", "row"]) (sc := defScope s__law_caught) (by decide +kernel)) (fun _ _ _ _ _ => pg_name (i := 8) sc__law_caught.nd rfl (Or.inl rfl)) (fun _ _ _ _ _ => pts_one (pt_cmpR op_gt (pe_ix (show IxR _ (rIxT K) from ix_tup) (pv 8) pe_int (fun _ _ => rfl)) (pv 3) (nomark _))) (fun _ _ _ _ _ => (pe_ix (show IxR _ (rIxT K) from ix_tup) (pv 8) pe_int (fun _ _ => rfl)))))) (pg_name (i := 6) sc__law_caught.nd rfl (Or.inl rfl)) (pss_cons (ps_set (i := 7) sc__law_caught.nd rfl (Or.inl rfl) (pe_ix ix_tup (pe_ix ix_tup (pv 2) pe_int (fun _ _ => rfl)) (pe_call (G__law_wind T) (hr.mono (by decide)) (by rfl) T.g__law_wind T.k__law_wind T.B__law_wind .nil pass0 (pa_cons (pv 0) (pa_cons (pv 1) (pa_cons (pv 6) pa_nil)))) (fun _ _ => rfl)))
        (pss_one (ps_if (PW.pt (pw_and (pt_cmpR op_notN (pv 7) pe_non (nomark _)) (pw_and1 (PW.pt (pw_or (pt_cmpR op_isN (pv 5) pe_non (nomark _)) (pw_or1 (pt_cmpR op_lt (pe_op op_add (pv 6) (pe_ix ix_tup (pv 7) (pv 4) (fun _ _ => rfl))) (pv 5) (nomark _)))))))) (pss_one (ps_set (i := 5) sc__law_caught.nd rfl (Or.inl rfl) (pe_op op_add (pv 6) (pe_ix ix_tup (pv 7) (pv 4) (fun _ _ => rfl))))) pss_nil))))
      (pss_one (ps_ret (pv 5))))), ?_⟩
    refine ⟨_, rfl, by show 1 ≤ sizeLine; decide, fun b hb => ?_⟩
    have e1 := Ex.new (o := .lst [.int m]) hb
    have mb : (upd H b (.lst [.int m])) b = some (.lst [.int m]) := upd_same
    generalize upd H b (.lst [.int m]) = H1 at e1 mb
    let late (l : List (Int × Str)) : List Int := (l.map (·.1)).filter fun s => decide (m < s)
    refine ⟨_, rfl, w, rfl, ⟨_, ex_l e1 hw⟩, fun B hB => lc_list (K := K) (a := w) (xs := us) (fun i H' => Ex H1 H' ∧ H' B = some (.lst ((late (ws.take i)).map V.int))) ⟨Ex.new hB, upd_same⟩ (fun i H' _ z => ex_l (e1.trans z.1) hw) (fun i y H' hy z => ?_) (fun H2 z => ?_)⟩
    · obtain ⟨e, hm⟩ := z
      obtain ⟨r, hr, _, dp⟩ := pick (dps_ex (e1.trans e) dw) hy
      obtain ⟨tr, rfl, st⟩ := wr_in dp
      have hi := (List.getElem?_eq_some_iff.mp hy).1
      have nx : late (ws.take (i + 1)) = late (ws.take i) ++ (if m < r.1 then [r.1] else []) := by
        show ((ws.take (i + 1)).map (·.1)).filter _ = _
        rw [take_one hr, List.map_append, List.filter_append]
        congr 1
        show List.filter _ [r.1] = _
        rw [List.filter_cons]
        by_cases c : m < r.1
        · rw [if_pos c, if_pos (decide_eq_true c)]; rfl
        · rw [if_neg c, if_neg fun q => c (of_decide_eq_true q)]; rfl
      have ll : (late (ws.take i)).length ≤ 40 := by
        refine Nat.le_trans (List.length_filter_le _ _) ?_
        rw [List.length_map, List.length_take]
        omega
      refine ⟨rfl, _, rfl, tr, _, _, _, rfl, rfl, st, atI_nat (j := 0) rfl, _, rfl, _, _, rfl, rfl, _, rfl, ?_⟩
      refine ite2 (fun c => ?_) (fun c => ?_)
      · have c' : m < r.1 := of_decide_eq_true c
        rw [if_pos c'] at nx
        refine ⟨_, rfl, tr, _, _, _, rfl, rfl, st, atI_nat (j := 0) rfl, _, hm, sz_lt (by rw [List.length_map]; omega), e.mut hB, ?_⟩
        rw [upd_same, nx, List.map_append]
        rfl
      · have c' : ¬ m < r.1 := fun q => c (decide_eq_true q)
        rw [if_neg c', List.append_nil] at nx
        exact ⟨e, by rw [nx]; exact hm⟩
    obtain ⟨e2, hm2⟩ := z
    rw [lu, List.take_length] at hm2
    have ll : (late ws).length ≤ 40 := by
      refine Nat.le_trans (List.length_filter_le _ _) ?_
      rw [List.length_map]
      omega
    refine ⟨b, B, _, _, rfl, rfl, e2 _ _ mb, hm2, sz_of (by rw [List.length_map, List.length_cons, List.length_nil]; omega), fun L hL => ?_⟩
    have eo : [V.int m] ++ (late ws).map V.int = (FP.outs (wt D ws) m).map V.int := by
      unfold FP.outs wt
      rw [List.map_map]
      rfl
    rw [eo]
    have e3 := (e1.trans e2).trans (Ex.new (o := .lst ((FP.outs (wt D ws) m).map V.int)) hL)
    have mL : (upd H2 L (.lst ((FP.outs (wt D ws) m).map V.int))) L = some (.lst ((FP.outs (wt D ws) m).map V.int)) := upd_same
    generalize upd H2 L (.lst ((FP.outs (wt D ws) m).map V.int)) = H3 at e3 mL
    let cn := FP.cand (wt D ws) (lkS sd k0).row
    let got (i : Nat) : Option Int := FP.leastL (((FP.outs (wt D ws) m).take i).map cn)
    refine ⟨L, rfl, ⟨_, SqL.of mL⟩, for_list (K := K) (a := L) (xs := (FP.outs (wt D ws) m).map V.int) (fun i σ H' => ∃ v6 v7, σ = [some (.ref p), some (.ref w), some (.ref t), some (.int m), some (.int sd), some (vInt (got i)), v6, v7, none] ∧ H' = H3) ⟨none, none, rfl, rfl⟩ (fun i σ H' _ z => by obtain ⟨v6, v7, _, e⟩ := z; rw [e]; exact SqL.of mL) (fun i y σ H' hy z => ?_) (fun σ H' z => ?_)⟩
    · obtain ⟨v6, v7, rfl, e⟩ := z
      rw [e]
      have hi : i < (FP.outs (wt D ws) m).length := by have := (List.getElem?_eq_some_iff.mp hy).1; rwa [List.length_map] at this
      obtain ⟨so, hso⟩ : ∃ so, (FP.outs (wt D ws) m)[i]? = some so := ⟨_, List.getElem?_eq_getElem hi⟩
      rw [List.getElem?_map, hso] at hy
      obtain rfl := Option.some.inj hy
      have nx : got (i + 1) = FP.least (got i) (cn so) := by
        show FP.leastL _ = _
        unfold FP.leastL
        rw [take_one hso, List.map_append, List.foldl_append]
        rfl
      have wl := wind_lt (m := so) ok
      obtain ⟨bn, hbn⟩ : ∃ bn, k0.ts[FP.windAt (wt D ws) so]? = some bn := ⟨k0.ts[FP.windAt (wt D ws) so]'(by omega), List.getElem?_eq_getElem (by omega)⟩
      obtain ⟨bv, ebv, db⟩ := pick_i hts hbn
      have ec : cn so = (sideN sd bn).map (so + ·) := by
        show Option.map _ (FP.num (k0.ts.map (sideN sd)) _) = _
        unfold FP.num
        rw [List.getD_eq_getElem?_getD, List.getElem?_map, hbn]
        rfl
      rw [ec] at nx
      refine ⟨_, rfl, t, _, _, _, rfl, rfl, ex_t e3 hT, atI_nat (j := 3) rfl, _, rfl, _, rfl, _, rfl, p, w, so, D, wi, pl, li, pa, rows, prs, us, ws, rfl, PT.ex e3, ex_l e3 hw, dps_ex e3 dw, ok, u, _, _, _, rfl, rfl, ex_t e3 hU, atI_nat ebv, ?_⟩
      cases bn with
      | none =>
        cases db
        have nx : got (i + 1) = got i := by
          rw [nx]
          show FP.least (got i) none = _
          cases got i <;> rfl
        refine ⟨_, rfl, rfl, _, rfl, iteF ⟨some (.int so), some .non, ?_, rfl⟩⟩
        rw [nx]
        rfl
      | some bn =>
        cases dp_ex e3 db with
        | @tup z _ _ hz hr =>
          cases hr with
          | cons a1 hr =>
            cases a1
            cases hr with
            | cons a2 hr =>
              cases a2
              cases hr
              obtain ⟨nn, hnn, en⟩ : ∃ nn, atI [V.int bn.1, .int bn.2] (sd : Int) = some (.int nn) ∧ sideN sd (some bn) = some nn := by
                rcases Nat.lt_succ_iff_lt_or_eq.mp s2 with q | q
                · obtain rfl : sd = 0 := by omega
                  exact ⟨bn.1, atI_nat (j := 0) rfl, rfl⟩
                · subst q
                  exact ⟨bn.2, atI_nat (j := 1) rfl, rfl⟩
              rw [en] at nx
              have nx : got (i + 1) = FP.least (got i) (some (so + nn)) := nx
              refine ⟨_, rfl, rfl, _, rfl, iteT ?_⟩
              refine ⟨_, rfl, ?_⟩
              cases hg : got i with
              | none =>
                rw [hg] at nx
                refine ⟨rfl, _, rfl, iteT ?_⟩
                refine ⟨_, rfl, _, rfl, _, rfl, z, _, _, _, rfl, rfl, hz, hnn, _, _, rfl, rfl, some (.int so), some (.ref z), ?_, rfl⟩
                rw [nx]
                rfl
              | some g =>
                rw [hg] at nx
                refine ⟨rfl, _, rfl, iteF ?_⟩
                refine ⟨_, rfl, _, rfl, _, rfl, z, _, _, _, rfl, rfl, hz, hnn, _, _, rfl, rfl, _, rfl, _, _, rfl, rfl, _, rfl, ?_⟩
                have nx : got (i + 1) = if so + nn < g then some (so + nn) else some g := nx
                refine ite2 (fun c => ?_) (fun c => ?_)
                · rw [if_pos (of_decide_eq_true c)] at nx
                  refine ⟨_, rfl, _, rfl, _, rfl, z, _, _, _, rfl, rfl, hz, hnn, _, _, rfl, rfl, some (.int so), some (.ref z), ?_, rfl⟩
                  rw [nx]
                  rfl
                · rw [if_neg fun q => c (decide_eq_true q)] at nx
                  refine ⟨some (.int so), some (.ref z), ?_, rfl⟩
                  rw [nx]
                  rfl
    · obtain ⟨v6, v7, rfl, e⟩ := z
      rw [e]
      have fin : got ((FP.outs (wt D ws) m).map V.int).length = FP.thr (wt D ws) (lkS sd k0).row m := by
        show FP.leastL _ = _
        rw [List.length_map, List.take_length]
        rfl
      rw [fin]
      exact ⟨_, rfl, k H3 e3⟩
end
end EV

set_option Elab.async false
set_option linter.all false
set_option maxRecDepth 100000
set_option maxHeartbeats 4000000
namespace EV
open PySem PySem.Spec PyProof.Rows L2 EvS Evl FD
def StOk (D : LandD) (sts : List (Str × Int)) : Prop := ∀ r ∈ sts, r.1 ∈ D.ps ∧ 0 ≤ r.2
theorem fire_ok {D : LandD} (ok : LandOk D) {ws : List (Int × Str)} {sts bs : List (Str × Int)} (hs : StOk D sts) (s : Nat) : FP.Ok (fireOf D ws sts bs s) D.ps where
  nn := fun r hr => (hs r hr).2
  rows := fun l hl => by
    obtain ⟨k, hk, rfl⟩ := List.mem_map.mp hl
    intro x hx
    obtain ⟨b, hb, e⟩ := List.mem_map.mp hx
    cases b with
    | none => cases e
    | some b =>
      have t := (ok.lk k hk).ok _ hb
      unfold sideN at e
      obtain rfl := Option.some.inj e
      obtain ⟨h1, h2, h3⟩ := t
      split
      · exact h1
      · exact Int.le_trans h1 h2
  sp := fun r hr => (hs r hr).1
  ends := fun l hl => by
    obtain ⟨k, hk, rfl⟩ := List.mem_map.mp hl
    exact ⟨(ok.lk k hk).o, (ok.lk k hk).t⟩
def sp__law_fire (K : PySem.W.Frag) : Sp := fun vs H Q _ => ∃ (p w st br : Addr) (s : Nat) (D : LandD) (wi pl li pa : Addr) (rows prs us xs ys : List V) (ws : List (Int × Str)) (sts bs : List (Str × Int)), vs = [.ref p, .ref w, .ref st, .ref br, .int s] ∧ Parts2 K H p D wi pl li pa rows prs ∧ LandOk D ∧
  SqL K H w us ∧ DpAll K H us (ws.map dWr) ∧ WOk D ws ∧ SqL K H st xs ∧ DpAll K H xs (sts.map dPm) ∧ SqL K H br ys ∧ DpAll K H ys (bs.map dPm) ∧ StOk D sts ∧ sts.length ≤ 1000 ∧ bs.length ≤ 1000 ∧ s < 2 ∧
  ∀ d H', Ex H H' → H d = none → Tab H' d (FP.first (fireOf D ws sts bs s)) → Q (.ref d) H'
theorem least_min (o : Option Int) (m : Int) : FP.least o (some m) = some (if (o.getD m) < m then o.getD m else m) := by
  cases o with
  | none => rw [if_neg (by simp)]; rfl
  | some c =>
    show (if m < c then some m else some c) = some (if c < m then c else m)
    by_cases h : m < c
    · rw [if_pos h, if_neg (by omega)]
    · rw [if_neg h]
      by_cases h2 : c < m
      · rw [if_pos h2]
      · rw [if_neg h2, show c = m by omega]
section
variable {P : Program} {w : World} {K : PySem.W.Frag} {mg : Str → Option Value} {base : Heap} {a : Ad}
end
end EV

set_option Elab.async false
set_option linter.all false
set_option maxRecDepth 100000
set_option maxHeartbeats 4000000
namespace EV
open PySem PySem.Spec PyProof.Rows L2 EvS Evl FD
/-- the reading of t.index(x), over K -/
def rTupIx (K : PySem.W.Frag) : V → List V → Hp → VK → Prop := fun x xs H Q => ∃ p, ∃ ys : List Str, ∃ z j, x = .ref p ∧ xs = [.str z] ∧ SqT K H p (ys.map V.str) ∧ ys[j]? = some z ∧ (∀ m, m < j → ys[m]? ≠ some z) ∧ Q (.int (j : Nat)) H
/-- the reading of len(..) of a list or a tuple, over K -/
def rLenK (K : PySem.W.Frag) : List V → Hp → VK → Prop := fun xs H Q => ∃ p ys, xs = [.ref p] ∧ (SqL K H p ys ∨ SqT K H p ys) ∧ Q (.int (ys.length : Nat)) H
theorem iteNT {A B : Prop} (h : B) : if (!true) = true then A else B := by
  simpa using h
theorem fs_check_place (wi pl li pa : Addr) : (landFs wi pl li pa).lookup ("check_place" : Str) = none := by
  unfold landFs
  rw [lookup_putF, if_neg (by decide +kernel), lookup_putF, if_neg (by decide +kernel), lookup_putF, if_neg (by decide +kernel), lookup_putF, if_neg (by decide +kernel)]
  rfl
theorem fs_check_wind (wi pl li pa : Addr) : (landFs wi pl li pa).lookup ("check_wind" : Str) = none := by
  unfold landFs
  rw [lookup_putF, if_neg (by decide +kernel), lookup_putF, if_neg (by decide +kernel), lookup_putF, if_neg (by decide +kernel), lookup_putF, if_neg (by decide +kernel)]
  rfl
theorem inV_in {z : Str} {ys : List Str} (h : z ∈ ys) : inV (.str z) (ys.map V.str) = true := by
  unfold inV
  rw [List.any_map, List.any_eq_true]
  exact ⟨z, h, by show (z == z) = true; exact beq_self_eq_true z⟩
theorem flat_strs (ys : List Str) : (ys.map V.str).all flatV = true := by
  rw [List.all_map, List.all_eq_true]
  intro x _
  rfl
def sp_check_place (K : PySem.W.Frag) (C : Addr) : Sp := fun vs H Q _ => ∃ (x : Addr) (D : LandD) (z : Str), vs = [.ref x, .str z] ∧ IsLand K C H x D ∧ z ∈ D.ps ∧ Q .non H
def sp_check_wind (K : PySem.W.Frag) (C : Addr) : Sp := fun vs H Q _ => ∃ (x : Addr) (D : LandD) (z : Str), vs = [.ref x, .str z] ∧ IsLand K C H x D ∧ z ∈ D.ws ∧ Q .non H
def sp_check_winds (K : PySem.W.Frag) (C : Addr) : Sp := fun vs H Q _ => ∃ (x w : Addr) (D : LandD) (us : List V) (ws : List (Int × Str)), vs = [.ref x, .ref w] ∧ IsLand K C H x D ∧ SqL K H w us ∧ DpAll K H us (ws.map dWr) ∧ (∀ r ∈ ws, r.2 ∈ D.ws) ∧ Q .non H
def sp_check_rows (K : PySem.W.Frag) : Sp := fun vs H Q _ => ∃ (w : Addr) (D : LandD) (us : List V) (ws : List (Int × Str)), vs = [.ref w] ∧ SqL K H w us ∧ DpAll K H us (ws.map dWr) ∧ WOk D ws ∧ ∀ H', Ex H H' → Q .non H'
def sp_least_minutes (K : PySem.W.Frag) : Sp := fun vs H Q _ => ∃ (b : Addr) (ys : List V) (bs : List (Str × Int)), vs = [.ref b] ∧ SqL K H b ys ∧ DpAll K H ys (bs.map dPm) ∧ bs.length ≤ 1000 ∧ ∀ d H', Ex H H' → H d = none → Tab H' d (FP.minOf bs) → Q (.ref d) H'
def dOpt : Option Int → PyData
  | none => .none
  | some i => .int i
theorem dp_opt {K : PySem.W.Frag} {H : Hp} (o : Option Int) : Dp K H (vInt o) (dOpt o) := by
  cases o with
  | none => exact .non
  | some i => exact .int i
theorem opt_dp {K : PySem.W.Frag} {H : Hp} {v : V} {o : Option Int} (h : Dp K H v (dOpt o)) : v = vInt o := by
  cases o with
  | none => cases h; rfl
  | some i => cases h; rfl
def dSp (s : FP.Spell) : PyData := .tuple [.int s.1, dOpt s.2.1, .int (s.2.2 : Nat)]
theorem frozen_opt (o : Option Int) : frozen (dOpt o) = true := by cases o <;> simp [dOpt, frozen]
theorem frozen_sp (s : FP.Spell) : frozen (dSp s) = true := by simp [dSp, frozen, frozenAll, frozen_opt]
theorem spells_get : ∀ {l : FP.Wt} {i : Nat}, (FP.spells l)[i]? = l[i]?.map fun r => (r.1, l[i + 1]?.map (·.1), r.2)
  | [], i => by simp [FP.spells]
  | [r], 0 => rfl
  | [r], i + 1 => by simp [FP.spells]
  | r :: q :: l, 0 => rfl
  | r :: q :: l, i + 1 => by
    show (FP.spells (q :: l))[i]? = _
    rw [spells_get]
    rfl
theorem spells_len (l : FP.Wt) : (FP.spells l).length = l.length := by
  have key : ∀ l : FP.Wt, (FP.spells l).length = l.length := fun l => by
    induction l with
    | nil => rfl
    | cons r l ih =>
      cases l with
      | nil => rfl
      | cons q l =>
        show (FP.spells (q :: l)).length + 1 = _
        rw [ih]
        rfl
  exact key l
def sp_spells_of (K : PySem.W.Frag) (C : Addr) : Sp := fun vs H Q _ => ∃ (x w : Addr) (D : LandD) (us : List V) (ws : List (Int × Str)), vs = [.ref x, .ref w] ∧ IsLand K C H x D ∧ SqL K H w us ∧ DpAll K H us (ws.map dWr) ∧ WOk D ws ∧
  ∀ (l : Addr) (H' : Hp) (acc : List V), Ex H H' → H l = none → H' l = some (.lst acc) → DpAll K H' acc ((FP.spells (wt D ws)).map dSp) → Q (.ref l) H'
section
variable {P : Program} {w : World} {K : PySem.W.Frag} {mg : Str → Option Value} {base : Heap} {a : Ad}
theorem G_check_place (T : Txt K mg a) : FnOk P w K mg base CX0 1 a.f_check_place a.d_check_place ["self", "place"] (sp_check_place K a.C) := by
  refine T.F_check_place.ok sc_check_place (fun vs H Q E h => ?_) (fun cdv A outer s H vs Q E hr h => ?_)
  · obtain ⟨x, D, z, rfl, _⟩ := h
    rfl
  · obtain ⟨x, D, z, rfl, hx, hz, k⟩ := h
    obtain ⟨dx, wi, pl, li, pa, rows, prs, L⟩ := hx
    refine ⟨_, (pss_one (ps_if (pt_cmpR op_notIn_seq (pv 1) (pe_fld (pv 0) rfl) (by rfl)) pss_any pss_nil)), ?_⟩
    refine ⟨_, rfl, _, rfl, x, a.C, dx, _, _, rfl, L.ob, T.cl, T.nP, fs_places .., pl, _, rfl, .inr L.pl, rfl, flat_strs _, ?_⟩
    rw [inV_in hz]
    exact ⟨_, rfl, iteF k⟩
theorem G_check_wind (T : Txt K mg a) : FnOk P w K mg base CX0 1 a.f_check_wind a.d_check_wind ["self", "wind"] (sp_check_wind K a.C) := by
  refine T.F_check_wind.ok sc_check_wind (fun vs H Q E h => ?_) (fun cdv A outer s H vs Q E hr h => ?_)
  · obtain ⟨x, D, z, rfl, _⟩ := h
    rfl
  · obtain ⟨x, D, z, rfl, hx, hz, k⟩ := h
    obtain ⟨dx, wi, pl, li, pa, rows, prs, L⟩ := hx
    refine ⟨_, (pss_one (ps_if (pt_cmpR op_notIn_seq (pv 1) (pe_fld (pv 0) rfl) (by rfl)) pss_any pss_nil)), ?_⟩
    refine ⟨_, rfl, _, rfl, x, a.C, dx, _, _, rfl, L.ob, T.cl, T.nW, fs_winds .., wi, _, rfl, .inr L.wi.sq, rfl, flat_strs _, ?_⟩
    rw [inV_in hz]
    exact ⟨_, rfl, iteF k⟩
theorem G_check_winds (T : Txt K mg a) : FnOk P w K mg base CX0 2 a.f_check_winds a.d_check_winds ["land", "weather"] (sp_check_winds K a.C) := by
  refine T.F_check_winds.ok sc_check_winds (fun vs H Q E h => ?_) (fun cdv A outer s H vs Q E hr h => ?_)
  · obtain ⟨x, w, D, us, ws, rfl, _⟩ := h
    rfl
  · obtain ⟨x, w, D, us, ws, rfl, hx, hw, dw, hm, k⟩ := h
    obtain ⟨dx, wi, pl, li, pa, rows, prs, L⟩ := id hx
    refine ⟨_, (pss_one (ps_for PassesOwn.never rfl (pi_list (pv 1)) (pg_tup (by rfl) (pgs_cons (pg_name (i := 2) sc_check_winds.nd rfl (Or.inl rfl)) (pgs_cons (pg_name (i := 3) sc_check_winds.nd rfl (Or.inl rfl)) pgs_nil))) (pss_one (ps_expr (pe_meth (pv 0) T.cl T.m_check_wind (G_check_wind T) (hr.mono (by decide)) T.B_check_wind .nil pass0 (pa_cons (pv 3) pa_nil)))))), ?_⟩
    refine ⟨_, rfl, w, rfl, ⟨_, hw⟩, for_list (K := K) (a := w) (xs := us) (fun i σ H' => ∃ v2 v3, σ = [some (.ref x), some (.ref w), v2, v3] ∧ H' = H) ⟨none, none, rfl, rfl⟩ (fun i σ H' _ z => by obtain ⟨_, _, _, e⟩ := z; rw [e]; exact hw) (fun i y σ H' hy z => ?_) (fun σ H' z => ?_)⟩
    · obtain ⟨v2, v3, rfl, e⟩ := z
      rw [e]
      obtain ⟨r, hrr, hmr, dp⟩ := pick dw hy
      obtain ⟨t, rfl, st⟩ := wr_in dp
      exact ⟨t, _, rfl, st, rfl, _, _, rfl, _, _, rfl, rfl, _, rfl, x, dx, _, rfl, L.ob, fs_check_wind .., _, rfl, x, D, r.2, rfl, hx, hm r hmr, _, _, rfl, rfl⟩
    · obtain ⟨v2, v3, rfl, e⟩ := z
      rw [e]
      exact k
theorem G_check_rows (T : Txt K mg a) : FnOk P w K mg base CX0 1 a.f_check_rows a.d_check_rows ["weather"] (sp_check_rows K) := by
  refine T.F_check_rows.ok sc_check_rows (fun vs H Q E h => ?_) (fun cdv A outer s H vs Q E hr h => ?_)
  · obtain ⟨w, D, us, ws, rfl, _⟩ := h
    rfl
  · obtain ⟨w, D, us, ws, rfl, hw, dw, ok, k⟩ := h
    have lu := dps_len dw
    rw [List.length_map] at lu
    have l1 := ok.l1
    have l40 := ok.l40
    refine ⟨_, (pss_cons (ps_if (pt_not (pt_chain op_le op_le pe_int (pe_callB call_len_seq (by rfl) T.z_len PySem.boot_len (pa_cons (pv 0) pa_nil)) (pe_gI rfl T.c_MOST_ROWS))) pss_any pss_nil)
      (pss_cons (ps_setLc (i := 1) (own := [("minute", 4), ("_", 5)]) (g := gTup K 2 (gCons (gName 4) (gCons (gName 5) gNil))) (tt := tYes) rfl sc_check_rows.nd rfl rfl (sw_true rfl rfl rfl (by decide +kernel)) (pi_list (pv 0)) (blkOk_by (N := ["weather", "minutes", "before", "behind", "minute", "_"]) (sc := defScope s_check_rows) (by decide +kernel)) (fun _ _ _ _ _ => (pg_tup (by rfl) (pgs_cons (pg_name (i := 4) sc_check_rows.nd rfl (Or.inl rfl)) (pgs_cons (pg_name (i := 5) sc_check_rows.nd rfl (Or.inl rfl)) pgs_nil)))) (fun _ _ _ _ _ => pts_nil) (fun _ _ _ _ _ => (pv 4)))
      (pss_cons (ps_if (pt_cmpR op_ne (pe_ix ix_list (pv 1) pe_int (fun _ _ => rfl)) pe_int (nomark _)) pss_any pss_nil)
      (pss_cons (ps_for PassesOwn.never rfl (pi_zip (by rfl) T.z_zip (pa_cons (pv 1) (pa_cons (pe_slice sl_list (pv 1) (po_some pe_int) po_none) pa_nil))) (pg_tup (by rfl) (pgs_cons (pg_name (i := 2) sc_check_rows.nd rfl (Or.inl rfl)) (pgs_cons (pg_name (i := 3) sc_check_rows.nd rfl (Or.inl rfl)) pgs_nil))) (pss_one (ps_if (pt_cmpR op_le (pv 3) (pv 2) (nomark _)) pss_any pss_nil)))
      (pss_one (ps_if (pt_cmpR op_gt (pe_ix ix_list (pv 1) (pe_un un_neg pe_int) (fun _ _ => rfl)) (pe_gI rfl T.c_LAST_CHANGE) (nomark _)) pss_any pss_nil)))))), ?_⟩
    refine ⟨_, rfl, w, _, rfl, .inl hw, _, _, rfl, rfl, _, rfl, ?_⟩
    rw [decide_eq_true (show (1 : Int) ≤ (us.length : Int) by omega)]
    refine iteT ⟨_, _, rfl, rfl, _, rfl, ?_⟩
    rw [decide_eq_true (show (us.length : Int) ≤ 40 by omega)]
    refine iteNT ?_
    refine ⟨_, rfl, w, rfl, ⟨_, hw⟩, fun D0 hD => lcY_list (K := K) (a := w) (xs := us) (fun i H' => Ex H H' ∧ H' D0 = some (.lst (((ws.take i).map (·.1)).map V.int))) ⟨Ex.new hD, upd_same⟩ (fun i H' _ z => ex_l z.1 hw) (fun i y H' hy z => ?_) (fun H1 z => ?_)⟩
    · have hi := (List.getElem?_eq_some_iff.mp hy).1
      obtain ⟨r, hrr, hmr, dp⟩ := pick (dps_ex z.1 dw) hy
      obtain ⟨t, rfl, st⟩ := wr_in dp
      refine ⟨t, _, rfl, st, rfl, _, _, rfl, _, _, rfl, rfl, rfl, _, rfl, _, z.2, sz_lt (by simp only [List.length_map, List.length_take]; omega), z.1.mut hD, ?_⟩
      rw [upd_same, take_one hrr, List.map_append, List.map_append]
      rfl
    rw [lu, List.take_length] at z
    obtain ⟨e1, hm⟩ := z
    obtain ⟨r0, rest, ew⟩ : ∃ r l, ws = r :: l := by
      cases ws with
      | nil => exact absurd l1 (by decide)
      | cons r l => exact ⟨r, l, rfl⟩
    have z0 : r0.1 = 0 := ok.h0 r0 (by rw [ew]; rfl)
    refine ⟨_, rfl, D0, _, _, _, rfl, rfl, SqL.of hm, atI_nat (j := 0) (v := .int 0) (by rw [ew, ← z0]; rfl), rfl, _, rfl, ?_⟩
    rw [decide_eq_true rfl]
    refine iteNT ?_
    refine ⟨_, rfl, _, rfl, _, rfl, D0, _, rfl, SqL.of hm, fun B hB => ?_⟩
    rw [show (1 : Int) = ((1 : Nat) : Int) from rfl, cut_from]
    have e2 := Ex.new (o := .lst ((((ws.map (·.1)).map V.int)).drop 1)) hB
    have mB : (upd H1 B (.lst ((((ws.map (·.1)).map V.int)).drop 1))) B = some (.lst ((((ws.map (·.1)).map V.int)).drop 1)) := upd_same
    have mD := e2 _ _ hm
    generalize upd H1 B (.lst ((((ws.map (·.1)).map V.int)).drop 1)) = H2 at e2 mB mD
    refine ⟨D0, B, _, _, rfl, SqL.of mD, SqL.of mB, for_it (walk_zip (n := min ((ws.map (·.1)).map V.int).length ((((ws.map (·.1)).map V.int)).drop 1).length) rfl) (fun i σ H' => ∃ v2 v3, σ = [some (.ref w), some (.ref D0), v2, v3, none, none] ∧ Ex H2 H') ⟨none, none, rfl, Ex.refl _⟩ (fun i σ H' _ z => by obtain ⟨_, _, _, e⟩ := z; exact ⟨SqL.of (e _ _ mD), SqL.of (e _ _ mB)⟩) (fun i y σ H' H'' hi z yy => ?_) (fun σ H' z => ?_)⟩
    · obtain ⟨v2, v3, rfl, e⟩ := z
      obtain ⟨t, u, v, rfl, ht, rfl, h1, h2⟩ := yy
      have h1 : ((ws.map (·.1)).map V.int)[i]? = some u := h1
      have h2 : ((((ws.map (·.1)).map V.int)).drop 1)[i]? = some v := h2
      rw [List.getElem?_drop] at h2
      rw [List.getElem?_map, List.getElem?_map] at h1 h2
      obtain ⟨m1, q1, rfl⟩ := Option.map_eq_some_iff.mp h1
      obtain ⟨r1, hr1, rfl⟩ := Option.map_eq_some_iff.mp q1
      obtain ⟨m2, q2, rfl⟩ := Option.map_eq_some_iff.mp h2
      obtain ⟨r2, hr2, rfl⟩ := Option.map_eq_some_iff.mp q2
      have lt : r1.1 < r2.1 := by
        have i1 := (List.getElem?_eq_some_iff.mp hr1)
        have i2 := (List.getElem?_eq_some_iff.mp hr2)
        obtain ⟨i1, rfl⟩ := i1
        obtain ⟨i2, rfl⟩ := i2
        exact List.pairwise_iff_getElem.mp ok.asc _ _ i1 i2 (by omega)
      refine ⟨t, _, rfl, st_of upd_same, rfl, _, _, rfl, _, _, rfl, rfl, _, rfl, _, rfl, _, _, rfl, rfl, _, rfl, ?_⟩
      rw [decide_eq_false (by omega)]
      exact iteF ⟨_, _, rfl, e.trans (Ex.new ht)⟩
    · obtain ⟨v2, v3, rfl, e⟩ := z
      have hl : ws.length - 1 < ws.length := by omega
      obtain ⟨rl, hrl⟩ : ∃ r, ws[ws.length - 1]? = some r := ⟨_, List.getElem?_eq_getElem hl⟩
      have tp := (ok.top rl (List.mem_of_getElem? hrl)).2
      have last : atI ((ws.map (·.1)).map V.int) (-1) = some (.int rl.1) := by
        unfold atI ixN
        have lV : ((ws.map (·.1)).map V.int).length = ws.length := by rw [List.length_map, List.length_map]
        rw [if_neg (by decide), if_pos (by omega), lV]
        show ((ws.map (·.1)).map V.int)[((ws.length : Int) + -1).toNat]? = _
        rw [show ((ws.length : Int) + -1).toNat = ws.length - 1 by omega, List.getElem?_map, List.getElem?_map, hrl]
        rfl
      refine ⟨_, rfl, _, rfl, D0, _, _, _, rfl, rfl, SqL.of (e _ _ mD), last, _, _, rfl, rfl, _, rfl, ?_⟩
      rw [decide_eq_false (by omega)]
      exact iteF (k _ ((e1.trans e2).trans e))
theorem G_least_minutes (T : Txt K mg a) : FnOk P w K mg base CX0 1 a.f_least_minutes a.d_least_minutes ["rows"] (sp_least_minutes K) := by
  refine T.F_least_minutes.ok sc_least_minutes (fun vs H Q E h => ?_) (fun cdv A outer s H vs Q E hr h => ?_)
  · obtain ⟨b, ys, bs, rfl, _⟩ := h
    rfl
  · obtain ⟨b, ys, bs, rfl, hb, db, lb, k⟩ := h
    have ly := dps_len db
    rw [List.length_map] at ly
    refine ⟨_, (pss_cons (ps_set (i := 1) sc_least_minutes.nd rfl (Or.inl rfl) pe_dnewK)
      (pss_cons (ps_for PassesOwn.never rfl (pi_list (pv 0)) (pg_tup (by rfl) (pgs_cons (pg_name (i := 2) sc_least_minutes.nd rfl (Or.inl rfl)) (pgs_cons (pg_name (i := 3) sc_least_minutes.nd rfl (Or.inl rfl)) pgs_nil))) (pss_one (ps_if (PW.pt (pw_or (pt_cmp (pc_dnotin (hu_of hr) (pv 2) (pv 1))) (pw_or1 (pt_cmpR op_lt (pv 3) (pe_dget (hu_of hr) (pv 1) (pv 2) (fun _ _ => rfl)) (nomark _))))) (pss_one (ps_dput (hu_of hr) (pv 1) (pv 2) (pv 3) rfl)) pss_nil)))
      (pss_one (ps_ret (pv 1))))), ?_⟩
    refine fun d hd => ?_
    have x1 := Ex.new (o := .dK []) hd
    refine ⟨_, rfl, b, rfl, ⟨_, ex_l x1 hb⟩, for_list (K := K) (a := b) (xs := ys) (fun i σ H' => ∃ (v2 v3 : Option V) (kvs : List (Key × V)), σ = [some (.ref b), some (.ref d), v2, v3] ∧ Ex H H' ∧ H' d = some (.dK kvs) ∧ TabK kvs (FP.minOf (bs.take i)) ∧ kvs.length ≤ i) ⟨none, none, [], rfl, x1, upd_same, .nil, Nat.le_refl _⟩ (fun i σ H' _ z => by obtain ⟨v2, v3, kvs, rfl, ex, _⟩ := z; exact ex_l ex hb) (fun i y σ H' hy z => ?_) (fun σ H2 z => ?_)⟩
    · obtain ⟨v2, v3, kvs, rfl, ex, hk, tb, lk⟩ := z
      have hi := (List.getElem?_eq_some_iff.mp hy).1
      obtain ⟨r, hrr, hm, dp⟩ := pick (dps_ex ex db) hy
      obtain ⟨t, rfl, ht⟩ := pm_in dp
      have nx : ∀ q, FP.minOf (bs.take (i + 1)) q = if r.1 = q then FP.least (FP.minOf (bs.take i) q) (some r.2) else FP.minOf (bs.take i) q := fun q => by rw [take_one hrr, FP.minOf_more]
      have vB := tb r.1
      have gB : DGet H' d (.str r.1) (valV kvs (.inr r.1)) := DGet.k (k := Sum.inr r.1) hk
      rw [vB] at gB
      have put : (FP.least (FP.minOf (bs.take i) r.1) (some r.2) = some r.2) → ∃ (v2 v3 : Option V) (kvs2 : List (Key × V)), [some (V.ref b), some (.ref d), some (.str r.1), some (.int r.2)] = [some (V.ref b), some (.ref d), v2, v3] ∧ Ex H (upd H' d (.dK (putK kvs (Sum.inr r.1) (.int r.2)))) ∧ (upd H' d (.dK (putK kvs (Sum.inr r.1) (.int r.2)))) d = some (.dK kvs2) ∧ TabK kvs2 (FP.minOf (bs.take (i + 1))) ∧ kvs2.length ≤ i + 1 := fun e => by
        have := length_putK kvs (Sum.inr r.1) (V.int r.2)
        refine ⟨_, _, putK kvs (Sum.inr r.1) (.int r.2), rfl, ex.mut hd, upd_same, (tb.put r.1 r.2).same fun q => ?_, by omega⟩
        rw [nx q]
        unfold upd1
        by_cases c : r.1 = q
        · rw [if_pos c, if_pos c.symm, ← c, e]
        · rw [if_neg c, if_neg fun z => c z.symm]
      refine ⟨t, _, rfl, ht, rfl, _, _, rfl, _, _, rfl, rfl, ?_⟩
      refine ⟨_, rfl, _, rfl, d, _, rfl, gB, _, rfl, ?_⟩
      cases hf : FP.minOf (bs.take i) r.1 with
      | none =>
        rw [hf] at put
        exact iteT ⟨_, rfl, _, rfl, _, rfl, d, _, rfl, DPut.k (k := Sum.inr r.1) hk (sz_lt (by omega)), put rfl⟩
      | some u =>
        rw [hf] at put gB
        refine iteF ⟨_, rfl, _, rfl, _, rfl, d, _, rfl, gB, _, _, rfl, rfl, _, rfl, ?_⟩
        refine ite2 (fun c2 => ?_) (fun c2 => ?_)
        · exact ⟨_, rfl, _, rfl, _, rfl, d, _, rfl, DPut.k (k := Sum.inr r.1) hk (sz_lt (by omega)), put (if_pos (of_decide_eq_true c2))⟩
        · refine ⟨_, _, kvs, rfl, ex, hk, tb.same fun q => ?_, by omega⟩
          rw [nx q]
          by_cases c : r.1 = q
          · rw [if_pos c, ← c, hf]
            exact (if_neg fun z => c2 (decide_eq_true z)).symm
          · rw [if_neg c]
    · obtain ⟨v2, v3, kvs, rfl, ex, hk, tb, lk⟩ := z
      rw [ly, List.take_length] at tb
      exact ⟨_, rfl, k d H2 ex hd ⟨kvs, hk, by omega, tb⟩⟩
theorem G_spells_of (T : Txt K mg a) : FnOk P w K mg base CX0 1 a.f_spells_of a.d_spells_of ["land", "weather"] (sp_spells_of K a.C) := by
  refine T.F_spells_of.ok sc_spells_of (fun vs H Q E h => ?_) (fun cdv A outer s H vs Q E hr h => ?_)
  · obtain ⟨x, w, D, us, ws, rfl, _⟩ := h
    rfl
  · obtain ⟨x, w, D, us, ws, rfl, hx, hw, dw, ok, k⟩ := h
    have lu := dps_len dw
    rw [List.length_map] at lu
    have l1 := ok.l1
    have l40 := ok.l40
    refine ⟨_, (pss_cons (ps_set (i := 2) sc_spells_of.nd rfl (Or.inl rfl) (pe_op op_cat (pe_lc (own := [("minute", 3), ("_", 4)]) (g := gTup K 2 (gCons (gName 3) (gCons (gName 4) gNil))) (tt := tYes) rfl sc_spells_of.nd (pi_list (pe_slice sl_list (pv 1) (po_some pe_int) po_none)) (blkOk_by (N := ["land", "weather", "ends", "minute", "_", "begin", "wind", "end"]) (sc := defScope s_spells_of) (by decide +kernel)) (fun _ _ _ _ _ => (pg_tup (by rfl) (pgs_cons (pg_name (i := 3) sc_spells_of.nd rfl (Or.inl rfl)) (pgs_cons (pg_name (i := 4) sc_spells_of.nd rfl (Or.inl rfl)) pgs_nil)))) (fun _ _ _ _ _ => pts_nil) (fun _ _ _ _ _ => (pv 3))) (pe_lst (pa_cons pe_non pa_nil))))
      (pss_one (ps_ret (pe_lc (own := [("begin", 5), ("wind", 6), ("end", 7)]) (g := gTup K 2 (gCons (gTup K 2 (gCons (gName 5) (gCons (gName 6) gNil))) (gCons (gName 7) gNil))) (tt := tYes) rfl sc_spells_of.nd (pi_zip (by rfl) T.z_zip (pa_cons (pv 1) (pa_cons (pv 2) pa_nil))) (blkOk_by (N := ["land", "weather", "ends", "minute", "_", "begin", "wind", "end"]) (sc := defScope s_spells_of) (by decide +kernel)) (fun _ _ _ _ _ => (pg_tup (by rfl) (pgs_cons (pg_tup (by rfl) (pgs_cons (pg_name (i := 5) sc_spells_of.nd rfl (Or.inl rfl)) (pgs_cons (pg_name (i := 6) sc_spells_of.nd rfl (Or.inl rfl)) pgs_nil))) (pgs_cons (pg_name (i := 7) sc_spells_of.nd rfl (Or.inl rfl)) pgs_nil)))) (fun _ _ _ _ _ => pts_nil) (fun _ _ _ _ _ => (pe_tup (pa_cons (pv 5) (pa_cons (pv 7) (pa_cons (TupX.pe_bmT PySem.F.plainAttrs_tuple PySem.F.slot_tuple_index PySem.F.type_tuple_index (show MtR _ "tuple.index" (rTupIx K) from mt_tup_index) (show PE _ _ (tFld K (tVar 0) "winds") from pe_fld (pv 0) rfl) (pa_cons (pv 6) pa_nil)) pa_nil))))))))), ?_⟩
    refine ⟨_, rfl, _, rfl, w, _, rfl, hw, fun q hq => ?_⟩
    rw [show (1 : Int) = ((1 : Nat) : Int) from rfl, cut_from]
    have e1 := Ex.new (o := .lst (us.drop 1)) hq
    have mq : (upd H q (.lst (us.drop 1))) q = some (.lst (us.drop 1)) := upd_same
    generalize upd H q (.lst (us.drop 1)) = H1 at e1 mq
    have ddrop : DpAll K H1 (us.drop 1) ((ws.drop 1).map dWr) := by
      have := dps_drop 1 (dps_ex e1 dw)
      rwa [← List.map_drop] at this
    have ld : (us.drop 1).length = (ws.drop 1).length := by rw [List.length_drop, List.length_drop, lu]
    refine ⟨q, rfl, ⟨_, SqL.of mq⟩, fun D0 hD => lcY_list (K := K) (a := q) (xs := us.drop 1) (fun i H' => Ex H1 H' ∧ H' D0 = some (.lst ((((ws.drop 1).take i).map (·.1)).map V.int))) ⟨Ex.new hD, upd_same⟩ (fun i H' _ z => SqL.of (z.1 _ _ mq)) (fun i y H' hy z => ?_) (fun H2 z => ?_)⟩
    · have hi := (List.getElem?_eq_some_iff.mp hy).1
      obtain ⟨r, hrr, hmr, dp⟩ := pick (dps_ex z.1 ddrop) hy
      obtain ⟨t, rfl, st⟩ := wr_in dp
      refine ⟨t, _, rfl, st, rfl, _, _, rfl, _, _, rfl, rfl, rfl, _, rfl, _, z.2, sz_lt (by simp only [List.length_map, List.length_take, List.length_drop]; omega), z.1.mut hD, ?_⟩
      rw [upd_same, take_one hrr, List.map_append, List.map_append]
      rfl
    rw [ld, List.take_length] at z
    obtain ⟨e2, hm⟩ := z
    refine ⟨by show 1 ≤ sizeLine; decide, fun n1 hn1 => ?_⟩
    refine ⟨D0, n1, _, _, rfl, rfl, Ex.new hn1 _ _ hm, upd_same, sz_of (by simp only [List.length_map, List.length_drop, List.length_cons, List.length_nil]; omega), fun L hL => ?_⟩
    let ends := ((ws.drop 1).map (·.1)).map V.int ++ [V.non]
    have e3 := (e1.trans e2).trans ((Ex.new (o := .lst [.non]) hn1).trans (Ex.new (o := .lst ends) hL))
    have mL : (upd (upd H2 n1 (.lst [.non])) L (.lst ends)) L = some (.lst ends) := upd_same
    show _
    generalize upd (upd H2 n1 (.lst [.non])) L (.lst ends) = H3 at e3 mL
    have le : ends.length = us.length := by
      show (((ws.drop 1).map (·.1)).map V.int ++ [V.non]).length = _
      simp only [List.length_append, List.length_map, List.length_drop, List.length_cons, List.length_nil]
      omega
    have hw3 := ex_l e3 hw
    refine ⟨_, rfl, _, rfl, w, L, _, _, rfl, hw3, SqL.of mL, fun B hB => lc_it (walk_zip (n := us.length) (by rw [le, Nat.min_self])) (fun i H' => Ex H3 H' ∧ ∃ acc, H' B = some (.lst acc) ∧ DpAll K (del H' B) acc (((FP.spells (wt D ws)).take i).map dSp) ∧ acc.length = i) ⟨Ex.new hB, [], upd_same, .nil, rfl⟩ (fun i H' _ z => ⟨ex_l z.1 hw3, SqL.of (z.1 _ _ mL)⟩) (fun i y H' H'' hi z yy => ?_) (fun H4 z => ?_)⟩
    · obtain ⟨e, acc, ha, da, la⟩ := z
      obtain ⟨T0, u, v, rfl, ht, rfl, h1, h2⟩ := yy
      have h1 : us[i]? = some u := h1
      have h2 : ends[i]? = some v := h2
      obtain ⟨r, hrr, hmr, dp⟩ := pick (dps_ex (e3.trans e) dw) h1
      obtain ⟨t, rfl, st⟩ := wr_in dp
      have ev : v = vInt (ws[i + 1]?.map (·.1)) := by
        have h2 : (((ws.drop 1).map (·.1)).map V.int ++ [V.non])[i]? = some v := h2
        by_cases c : i + 1 < ws.length
        · rw [List.getElem?_append_left (by simp only [List.length_map, List.length_drop]; omega), List.getElem?_map, List.getElem?_map, List.getElem?_drop, show 1 + i = i + 1 by omega, List.getElem?_eq_getElem c] at h2
          rw [List.getElem?_eq_getElem c]
          exact (Option.some.inj h2).symm
        · rw [List.getElem?_append_right (by simp only [List.length_map, List.length_drop]; omega)] at h2
          have e0 : i - ((((ws.drop 1).map (·.1)).map V.int).length) = 0 := by simp only [List.length_map, List.length_drop]; omega
          rw [e0] at h2
          rw [List.getElem?_eq_none (by omega)]
          exact (Option.some.inj h2).symm
      subst ev
      have sg : (FP.spells (wt D ws))[i]? = some (r.1, ws[i + 1]?.map (·.1), D.ws.idxOf r.2) := by
        rw [spells_get]
        unfold wt
        rw [List.getElem?_map, List.getElem?_map, hrr]
        cases ws[i + 1]? <;> rfl
      have e4 := Ex.new (o := .tup [.ref t, vInt (ws[i + 1]?.map (·.1))]) ht
      obtain ⟨dx, wi, pl, li, pa, rows, prs, L4⟩ := (hx.ex (e3.trans e)).ex e4
      have mem := ok.nm r hmr
      have hj := List.idxOf_lt_length_of_mem mem
      refine ⟨T0, _, rfl, st_of upd_same, rfl, _, _, rfl, t, _, rfl, ex_t e4 st, rfl, _, _, rfl, _, _, rfl, rfl, _, _, rfl, rfl, rfl, ?_⟩
      refine ⟨_, rfl, _, rfl, _, rfl, x, a.C, dx, _, _, rfl, L4.ob, T.cl, T.nW, fs_winds .., wi, _, rfl, L4.wi, _, rfl, wi, D.ws, _, D.ws.idxOf r.2, rfl, rfl, L4.wi.sq, ?_, fun j hlt q => ?_, by show 3 ≤ sizeLine; decide, fun u hu => ?_⟩
      · rw [List.getElem?_eq_getElem hj]
        exact congrArg some (List.getElem_idxOf hj)
      · have h1 : j < D.ws.length := by omega
        rw [List.getElem?_eq_getElem h1] at q
        have := List.not_of_lt_findIdx (p := (· == r.2)) (xs := D.ws) hlt
        rw [Option.some.inj q] at this
        exact absurd this (by simp)
      have ha4 := e4 _ _ ha
      have uB : u ≠ B := fun q => by rw [q, ha4] at hu; cases hu
      have e5 := e4.trans (Ex.new (o := .tup [.int r.1, vInt (ws[i + 1]?.map (·.1)), .int (D.ws.idxOf r.2 : Nat)]) hu)
      refine ⟨acc, e5 _ _ ha, sz_lt (by omega), (e.trans e5).mut hB, _, upd_same, ?_, by rw [List.length_append, la] <;> rfl⟩
      rw [del_upd, take_one sg, List.map_append]
      exact dps_app (dps_ex (ex_del e5) da) (dps_one (.tup (st_of (del_at uB upd_same)) (.cons (.int _) (.cons (dp_opt _) (.cons (.int _) .nil)))))
    · obtain ⟨e, acc, ha, da, la⟩ := z
      have ls : (FP.spells (wt D ws)).length = us.length := by rw [spells_len]; unfold wt; rw [List.length_map, lu]
      rw [← ls, List.take_length] at da
      exact k B H4 acc (e3.trans e) (fresh_back e3 hB) ha (dps_ex del_ex da)
end
end EV

set_option Elab.async false
set_option linter.all false
set_option maxRecDepth 100000
set_option maxHeartbeats 4000000
namespace EV
open PySem PySem.Spec PyProof.Rows L2 EvS Evl FD EnT
/-! ### a question -/
theorem Ex.up {A B : Hp} {u : Addr} {o : HO} (e : Ex A B) : Ex (upd A u o) (upd B u o) := fun x y h => by
  by_cases q : x = u
  · subst q
    rw [upd_same] at h ⊢
    exact h
  · rw [upd_ne q] at h ⊢
    exact e _ _ h
def qFs (l w s b sp st lv : Addr) : List (Str × V) := putF "leaving" (.ref lv) (putF "stops" (.ref st) (putF "spells" (.ref sp) (putF "breaks" (.ref b) (putF "starts" (.ref s) (putF "weather" (.ref w) (putF "land" (.ref l) []))))))
theorem q_land (l w s b sp st lv : Addr) : (qFs l w s b sp st lv).lookup ("land" : Str) = some (V.ref l) := by
  unfold qFs
  rw [lookup_putF, if_neg (by decide +kernel), lookup_putF, if_neg (by decide +kernel), lookup_putF, if_neg (by decide +kernel), lookup_putF, if_neg (by decide +kernel), lookup_putF, if_neg (by decide +kernel), lookup_putF, if_neg (by decide +kernel), lookup_putF, if_pos rfl]
theorem q_weather (l w s b sp st lv : Addr) : (qFs l w s b sp st lv).lookup ("weather" : Str) = some (V.ref w) := by
  unfold qFs
  rw [lookup_putF, if_neg (by decide +kernel), lookup_putF, if_neg (by decide +kernel), lookup_putF, if_neg (by decide +kernel), lookup_putF, if_neg (by decide +kernel), lookup_putF, if_neg (by decide +kernel), lookup_putF, if_pos rfl]
theorem q_starts (l w s b sp st lv : Addr) : (qFs l w s b sp st lv).lookup ("starts" : Str) = some (V.ref s) := by
  unfold qFs
  rw [lookup_putF, if_neg (by decide +kernel), lookup_putF, if_neg (by decide +kernel), lookup_putF, if_neg (by decide +kernel), lookup_putF, if_neg (by decide +kernel), lookup_putF, if_pos rfl]
theorem q_breaks (l w s b sp st lv : Addr) : (qFs l w s b sp st lv).lookup ("breaks" : Str) = some (V.ref b) := by
  unfold qFs
  rw [lookup_putF, if_neg (by decide +kernel), lookup_putF, if_neg (by decide +kernel), lookup_putF, if_neg (by decide +kernel), lookup_putF, if_pos rfl]
theorem q_spells (l w s b sp st lv : Addr) : (qFs l w s b sp st lv).lookup ("spells" : Str) = some (V.ref sp) := by
  unfold qFs
  rw [lookup_putF, if_neg (by decide +kernel), lookup_putF, if_neg (by decide +kernel), lookup_putF, if_pos rfl]
theorem q_stops (l w s b sp st lv : Addr) : (qFs l w s b sp st lv).lookup ("stops" : Str) = some (V.ref st) := by
  unfold qFs
  rw [lookup_putF, if_neg (by decide +kernel), lookup_putF, if_pos rfl]
theorem q_leaving (l w s b sp st lv : Addr) : (qFs l w s b sp st lv).lookup ("leaving" : Str) = some (V.ref lv) := by
  unfold qFs
  rw [lookup_putF, if_pos rfl]
theorem q_is_ahead (l w s b sp st lv : Addr) : (qFs l w s b sp st lv).lookup ("is_ahead" : Str) = none := by
  unfold qFs
  rw [lookup_putF, if_neg (by decide +kernel), lookup_putF, if_neg (by decide +kernel), lookup_putF, if_neg (by decide +kernel), lookup_putF, if_neg (by decide +kernel), lookup_putF, if_neg (by decide +kernel), lookup_putF, if_neg (by decide +kernel), lookup_putF, if_neg (by decide +kernel)]
  rfl
theorem q_through (l w s b sp st lv : Addr) : (qFs l w s b sp st lv).lookup ("through" : Str) = none := by
  unfold qFs
  rw [lookup_putF, if_neg (by decide +kernel), lookup_putF, if_neg (by decide +kernel), lookup_putF, if_neg (by decide +kernel), lookup_putF, if_neg (by decide +kernel), lookup_putF, if_neg (by decide +kernel), lookup_putF, if_neg (by decide +kernel), lookup_putF, if_neg (by decide +kernel)]
  rfl
theorem q_catches (l w s b sp st lv : Addr) : (qFs l w s b sp st lv).lookup ("catches" : Str) = none := by
  unfold qFs
  rw [lookup_putF, if_neg (by decide +kernel), lookup_putF, if_neg (by decide +kernel), lookup_putF, if_neg (by decide +kernel), lookup_putF, if_neg (by decide +kernel), lookup_putF, if_neg (by decide +kernel), lookup_putF, if_neg (by decide +kernel), lookup_putF, if_neg (by decide +kernel)]
  rfl
theorem q_first_minutes (l w s b sp st lv : Addr) : (qFs l w s b sp st lv).lookup ("first_minutes" : Str) = none := by
  unfold qFs
  rw [lookup_putF, if_neg (by decide +kernel), lookup_putF, if_neg (by decide +kernel), lookup_putF, if_neg (by decide +kernel), lookup_putF, if_neg (by decide +kernel), lookup_putF, if_neg (by decide +kernel), lookup_putF, if_neg (by decide +kernel), lookup_putF, if_neg (by decide +kernel)]
  rfl
def outL (ls : List Link) (p : Str) (n : Nat) : List (Nat × Link) := (List.range n).filterMap fun j => (ls[j]?).bind fun k => if k.o = p then some (j, k) else none
theorem outL_next {ls : List Link} {p : Str} {n : Nat} {k : Link} (h : ls[n]? = some k) : outL ls p (n + 1) = outL ls p n ++ if k.o = p then [(n, k)] else [] := by
  unfold outL
  rw [List.range_succ, List.filterMap_append]
  congr 1
  rw [List.filterMap_cons, List.filterMap_nil, h, Option.bind_some]
  by_cases c : k.o = p
  · simp only [if_pos c]
  · simp only [if_neg c]
theorem outL_mem {ls : List Link} {p : Str} {n j : Nat} {k : Link} : (j, k) ∈ outL ls p n ↔ j < n ∧ ls[j]? = some k ∧ k.o = p := by
  unfold outL
  rw [List.mem_filterMap]
  constructor
  · rintro ⟨i, hi, h⟩
    obtain ⟨q, hq, h⟩ := Option.bind_eq_some_iff.mp h
    split at h
    · rename_i c
      cases h
      exact ⟨List.mem_range.mp hi, hq, c⟩
    · cases h
  · rintro ⟨h1, h2, h3⟩
    exact ⟨j, List.mem_range.mpr h1, by rw [h2]; exact if_pos h3⟩
theorem outL_len (ls : List Link) (p : Str) (n : Nat) : (outL ls p n).length ≤ n := by
  refine Nat.le_trans (List.length_filterMap_le _ _) ?_
  rw [List.length_range]
  exact Nat.le_refl _
def dNl (r : Nat × Link) : PyData := .tuple [.int (r.1 : Nat), dLink r.2]
structure QAt (K : PySem.W.Frag) (C CQ : Addr) (H : Hp) (x : Addr) (D : LandD) (ws : List (Int × Str)) (sts bs : List (Str × Int)) (dx l w s b sp st lv : Addr) (us ss bb acc : List V) (kvs : List (Key × V)) : Prop where
  ob : H x = some (.ins CQ dx (qFs l w s b sp st lv))
  ld : IsLand K C H l D
  hw : SqL K H w us
  dw : DpAll K H us (ws.map dWr)
  hs : SqL K H s ss
  ds : DpAll K H ss (sts.map dPm)
  hb : SqL K H b bb
  db : DpAll K H bb (bs.map dPm)
  sp : SqL K H sp acc
  da : DpAll K H acc ((FP.spells (wt D ws)).map dSp)
  st : Tab H st (FP.minOf bs)
  lv : H lv = some (.dK kvs)
  lk : ∀ p ∈ D.ps, ∃ c ys, valV kvs (.inr p) = some (.ref c) ∧ SqL K H c ys ∧ DpAll K H ys ((outL D.ls p D.ls.length).map dNl)
def IsQ (K : PySem.W.Frag) (C CQ : Addr) (H : Hp) (x : Addr) (D : LandD) (ws : List (Int × Str)) (sts bs : List (Str × Int)) : Prop := ∃ dx l w s b sp st lv us ss bb acc kvs, QAt K C CQ H x D ws sts bs dx l w s b sp st lv us ss bb acc kvs
theorem IsQ.ex {K : PySem.W.Frag} {C CQ : Addr} {H H' : Hp} {x : Addr} {D : LandD} {ws : List (Int × Str)} {sts bs : List (Str × Int)} (e : Ex H H') (h : IsQ K C CQ H x D ws sts bs) : IsQ K C CQ H' x D ws sts bs := by
  obtain ⟨dx, l, w, s, b, sp, st, lv, us, ss, bb, acc, kvs, Q⟩ := h
  refine ⟨dx, l, w, s, b, sp, st, lv, us, ss, bb, acc, kvs, e _ _ Q.ob, Q.ld.ex e, ex_l e Q.hw, dps_ex e Q.dw, ex_l e Q.hs, dps_ex e Q.ds, ex_l e Q.hb, dps_ex e Q.db, ex_l e Q.sp, dps_ex e Q.da, Q.st.ex e, e _ _ Q.lv, fun p hp => ?_⟩
  obtain ⟨c, ys, h1, h2, h3⟩ := Q.lk p hp
  exact ⟨c, ys, h1, ex_l e h2, dps_ex e h3⟩
/-- no tuple -/
def NoT (o : HO) : Prop := (∀ xs, o ≠ .tup xs) ∧ ∀ q xs, o ≠ .frz q (.tup xs)
/-- a heap without x and without g -/
def dl2 (x g : Addr) (H : Hp) : Hp := del (del H x) g
theorem dl2_upd {x g : Addr} {H : Hp} {o : HO} : dl2 x g (upd H x o) = dl2 x g H := congrArg (del · g) del_upd
theorem dl2_ex {x g : Addr} {H : Hp} : Ex (dl2 x g H) H := del_ex.trans del_ex
theorem ex_dl2 {x g : Addr} {H H' : Hp} (e : Ex H H') : Ex (dl2 x g H) (dl2 x g H') := ex_del (ex_del e)
theorem ex_to_dl2 {x g : Addr} {H H' : Hp} (e : Ex H H') (hx : H x = none) (hg : H g = none) : Ex H (dl2 x g H') := ex_to_del (ex_to_del e hx) hg
theorem dl2_at {x g a : Addr} {H : Hp} {o : HO} (n : a ≠ x) (m : a ≠ g) (h : H a = some o) : dl2 x g H a = some o := del_at m (del_at n h)
theorem dl2_none {x g a : Addr} {H : Hp} (h : H a = none) : dl2 x g H a = none := by
  unfold dl2 del
  split
  · rfl
  · split
    · rfl
    · exact h
theorem dl2_x {x g : Addr} {H : Hp} : dl2 x g H x = none := by
  unfold dl2 del
  split
  · rfl
  · exact if_pos rfl
theorem dl2_g {x g : Addr} {H : Hp} : dl2 x g H g = none := if_pos rfl
def sp_Question_init (K : PySem.W.Frag) (C CQ : Addr) : Sp := fun vs H Q _ => ∃ (H0 : Hp) (g x dx l w s b : Addr) (oD : HO) (D : LandD) (ws : List (Int × Str)) (sts bs : List (Str × Int)) (us ss bb : List V), vs = [.ref x, .ref l, .ref w, .ref s, .ref b] ∧ Ex H0 H ∧ H0 x = none ∧ H x = some (.ins CQ dx []) ∧ H0 g = none ∧ H g = some oD ∧ NoT oD ∧ g ≠ x ∧
  IsLand K C H0 l D ∧ LandOk D ∧ SqL K H0 w us ∧ DpAll K H0 us (ws.map dWr) ∧ WOk D ws ∧ SqL K H0 s ss ∧ DpAll K H0 ss (sts.map dPm) ∧ sts.length ≤ 1000 ∧ SqL K H0 b bb ∧ DpAll K H0 bb (bs.map dPm) ∧ bs.length ≤ 1000 ∧
  ∀ H', Ex H0 H' → H' g = some oD → IsQ K C CQ (del H' g) x D ws sts bs → Q .non H'
theorem frozen_spells (l : FP.Wt) : frozenAll ((FP.spells l).map dSp) = true := frozenAll_of fun d hd => by
  obtain ⟨b, _, rfl⟩ := List.mem_map.mp hd
  exact frozen_sp b
/-- tuples stand, though an instance goes -/
theorem exT_del {H : Hp} {x C dx : Addr} {fs : List (Str × V)} (h : H x = some (.ins C dx fs)) : ExT H (del H x) := fun a xs r => by
  have ne : ∀ {u : HO}, H a = some u → (∀ C dx fs, u ≠ .ins C dx fs) → a ≠ x := fun {u} e n q => by
    subst q
    rw [h] at e
    exact n _ _ _ (Option.some.inj e).symm
  rcases r with r | ⟨o, r⟩
  · exact .inl (del_at (ne r fun _ _ _ z => by cases z) r)
  · exact .inr ⟨o, del_at (ne r fun _ _ _ z => by cases z) r⟩
theorem exT_delT {H : Hp} {g : Addr} {o : HO} (h : H g = some o) (n : NoT o) : ExT H (del H g) := fun a xs r => by
  rcases r with r | ⟨q, r⟩
  · exact .inl (del_at (fun z => by subst z; rw [h] at r; exact n.1 _ (Option.some.inj r)) r)
  · exact .inr ⟨q, del_at (fun z => by subst z; rw [h] at r; exact n.2 _ _ (Option.some.inj r)) r⟩
theorem exT_dl2 {H : Hp} {x g C dx : Addr} {fs : List (Str × V)} {o : HO} (h : H x = some (.ins C dx fs)) (hg : H g = some o) (n : NoT o) (gx : g ≠ x) : ExT H (dl2 x g H) := (exT_del h).trans (exT_delT (del_at gx hg) n)
section
variable {P : Program} {w : World} {K : PySem.W.Frag} {mg : Str → Option Value} {base : Heap} {a : Ad}
theorem G_Question_init (T : Txt K mg a) : FnOk P w K mg base CX0 2 a.f_Question_init a.d_Question_init ["self", "land", "weather", "starts", "breaks"] (sp_Question_init K a.C a.C_Question) := by
  refine T.F_Question_init.ok sc_Question_init (fun vs H Q E h => ?_) (fun cdv A outer s H vs Q E hr h => ?_)
  · obtain ⟨H0, g, x, dx, l, w, s, b, oD, D, ws, sts, bs, us, ss, bb, rfl, _⟩ := h
    rfl
  · obtain ⟨H0, g, x, dx, l, w, s, b, oD, D, ws, sts, bs, us, ss, bb, rfl, e0, x0, hx, g0, hg, nT, gx, hl, ok, hw, dw, wok, hs, ds, ls, hb, db, lb, k⟩ := h
    have lu := dps_len dw
    rw [List.length_map] at lu
    have lss := dps_len ds
    rw [List.length_map] at lss
    have lbb := dps_len db
    rw [List.length_map] at lbb
    have l40 := wok.l40
    refine ⟨_, (pss_cons (ps_fld (pv 0) (pv 1) rfl)
      (pss_cons (ps_fld (pv 0) (pe_callTy call_lstK (by rfl) T.z_list (by decide +kernel) (pa_cons (pv 2) pa_nil)) rfl)
      (pss_cons (ps_fld (pv 0) (pe_lc (own := [("start", 7)]) (g := gName 7) (tt := tYes) rfl sc_Question_init.nd (pi_list (pv 3)) (blkOk_by (N := ["self", "land", "weather", "starts", "breaks", "number", "link", "start", "told", "place"]) (sc := defScope s_Question_init) (by decide +kernel)) (fun _ _ _ _ _ => pg_name (i := 7) sc_Question_init.nd rfl (Or.inl rfl)) (fun _ _ _ _ _ => pts_nil) (fun _ _ _ _ _ => (pe_callTy (show CallR _ _ (rTupK K) from call_tupK) (by rfl) T.z_tuple (by decide +kernel) (pa_cons (pv 7) pa_nil)))) rfl)
      (pss_cons (ps_fld (pv 0) (pe_lc (own := [("told", 8)]) (g := gName 8) (tt := tYes) rfl sc_Question_init.nd (pi_list (pv 4)) (blkOk_by (N := ["self", "land", "weather", "starts", "breaks", "number", "link", "start", "told", "place"]) (sc := defScope s_Question_init) (by decide +kernel)) (fun _ _ _ _ _ => pg_name (i := 8) sc_Question_init.nd rfl (Or.inl rfl)) (fun _ _ _ _ _ => pts_nil) (fun _ _ _ _ _ => (pe_callTy (show CallR _ _ (rTupK K) from call_tupK) (by rfl) T.z_tuple (by decide +kernel) (pa_cons (pv 8) pa_nil)))) rfl)
      (pss_cons (ps_fld (pv 0) (pe_call (G_spells_of T) (hr.mono (by decide)) (by rfl) T.g_spells_of T.k_spells_of T.B_spells_of .nil pass0 (pa_cons (pv 1) (pa_cons (pv 2) pa_nil))) rfl)
      (pss_cons (ps_fld (pv 0) (pe_call (G_least_minutes T) (hr.mono (by decide)) (by rfl) T.g_least_minutes T.k_least_minutes T.B_least_minutes .nil pass0 (pa_cons (pv 4) pa_nil)) rfl)
      (pss_cons (ps_fld (pv 0) (pe_dc (own := [("place", 9)]) (g := gName 9) (tt := tYes) rfl sc_Question_init.nd (pi_tup (pe_fld (pv 1) rfl)) (blkOk_by (N := ["self", "land", "weather", "starts", "breaks", "number", "link", "start", "told", "place"]) (sc := defScope s_Question_init) (by decide +kernel)) (fun _ _ _ _ _ => pg_name (i := 9) sc_Question_init.nd rfl (Or.inl rfl)) (fun _ _ _ _ _ => pts_nil) (fun _ _ _ _ _ => (pv 9)) (fun _ _ _ _ _ => (pe_lst pa_nil))) rfl)
      (pss_one (ps_for PassesOwn.never rfl (EnT.pi_enumT (by rfl) T.z_enumerate (pa_cons (pe_fld (pv 1) rfl) pa_nil)) (pg_tup (by rfl) (pgs_cons (pg_name (i := 5) sc_Question_init.nd rfl (Or.inl rfl)) (pgs_cons (pg_name (i := 6) sc_Question_init.nd rfl (Or.inl rfl)) pgs_nil))) (pss_one (ps_expr (pe_bm PySem.F.plainAttrs_list PySem.F.slot_list_append PySem.F.type_list_append mt_append (pe_dget (hu_of hr) (pe_fld (pv 0) rfl) (pe_ix ix_tup (pv 6) pe_int (fun _ _ => rfl)) (fun _ _ => rfl)) (pa_cons (pe_tup (pa_cons (pv 5) (pa_cons (pv 6) pa_nil))) pa_nil))))))))))))), ?_⟩
    -- B: the heap without x
    have b0 : Ex H0 (dl2 x g H) := ex_to_dl2 e0 x0 g0
    -- land
    refine ⟨_, rfl, _, rfl, x, a.C_Question, dx, [], rfl, hx, T.cl_Question, T.na_Question_land, by decide, ?_⟩
    have b1 : Ex H0 (dl2 x g (upd H x (.ins a.C_Question dx (putF "land" (.ref l) [])))) := by rw [dl2_upd]; exact b0
    have hx1 : (upd H x (.ins a.C_Question dx (putF "land" (.ref l) []))) x = some (.ins a.C_Question dx (putF "land" (.ref l) [])) := upd_same
    have hg1 : (upd H x (.ins a.C_Question dx (putF "land" (.ref l) []))) g = some oD := by rw [upd_ne gx]; exact hg
    generalize upd H x (.ins a.C_Question dx (putF "land" (.ref l) [])) = H1 at b1 hx1 hg1
    -- weather
    refine ⟨_, rfl, w, us, rfl, .inl (ex_l (b1.trans dl2_ex) hw), fun w' hw' => ?_⟩
    refine ⟨_, rfl, x, a.C_Question, dx, _, rfl, Ex.new hw' _ _ hx1, T.cl_Question, T.na_Question_weather, by show 1 < 1000; decide, ?_⟩
    have wg : w' ≠ g := fun q => by rw [q, hg1] at hw'; cases hw'
    have wx : w' ≠ x := fun q => by rw [q, hx1] at hw'; cases hw'
    have b2 : Ex (dl2 x g H1) (dl2 x g (upd (upd H1 w' (.lst us)) x (.ins a.C_Question dx (putF "weather" (.ref w') (putF "land" (.ref l) []))))) := by rw [dl2_upd]; exact ex_dl2 (Ex.new hw')
    have mw : (dl2 x g (upd (upd H1 w' (.lst us)) x (.ins a.C_Question dx (putF "weather" (.ref w') (putF "land" (.ref l) []))))) w' = some (.lst us) := by rw [dl2_upd]; exact dl2_at wx wg upd_same
    have hx2 : (upd (upd H1 w' (.lst us)) x (.ins a.C_Question dx (putF "weather" (.ref w') (putF "land" (.ref l) [])))) x = some (.ins a.C_Question dx (putF "weather" (.ref w') (putF "land" (.ref l) []))) := upd_same
    have hgH2 : (upd (upd H1 w' (.lst us)) x (.ins a.C_Question dx (putF "weather" (.ref w') (putF "land" (.ref l) [])))) g = some oD := by rw [upd_ne gx]; exact Ex.new hw' _ _ hg1
    generalize upd (upd H1 w' (.lst us)) x (.ins a.C_Question dx (putF "weather" (.ref w') (putF "land" (.ref l) []))) = H2 at b2 mw hx2 hgH2
    -- starts
    have f2 : Ex H0 (dl2 x g H2) := b1.trans b2
    refine ⟨_, rfl, s, rfl, ⟨_, ex_l (f2.trans dl2_ex) hs⟩, fun s' hs' => lcY_list (K := K) (a := s) (xs := ss) (fun i H' => Ex H2 H' ∧ H' s' = some (.lst (ss.take i))) ⟨Ex.new hs', upd_same⟩ (fun i H' _ z => ex_l ((f2.trans dl2_ex).trans z.1) hs) (fun i y H' hy z => ?_) (fun H3 z => ?_)⟩
    · have hi := (List.getElem?_eq_some_iff.mp hy).1
      obtain ⟨r, hrr, hmr, dp⟩ := pick (dps_ex ((f2.trans dl2_ex).trans z.1) ds) hy
      obtain ⟨t, rfl, st⟩ := pm_in dp
      refine ⟨rfl, _, rfl, t, _, rfl, .inr ⟨st, _, z.2, sz_lt (by simp only [List.length_take]; omega), z.1.mut hs', ?_⟩⟩
      rw [upd_same, take_one hy]
    obtain ⟨e3, ms⟩ := z
    rw [List.take_length] at ms
    refine ⟨_, rfl, x, a.C_Question, dx, _, rfl, e3 _ _ hx2, T.cl_Question, T.na_Question_starts, by show 2 < 1000; decide, ?_⟩
    have sg : s' ≠ g := fun q => by rw [q, hgH2] at hs'; cases hs'
    have sx : s' ≠ x := fun q => by rw [q, hx2] at hs'; cases hs'
    have b3 : Ex (dl2 x g H2) (dl2 x g (upd H3 x (.ins a.C_Question dx (putF "starts" (.ref s') (putF "weather" (.ref w') (putF "land" (.ref l) [])))))) := by rw [dl2_upd]; exact ex_dl2 e3
    have ms3 : (dl2 x g (upd H3 x (.ins a.C_Question dx (putF "starts" (.ref s') (putF "weather" (.ref w') (putF "land" (.ref l) [])))))) s' = some (.lst ss) := by rw [dl2_upd]; exact dl2_at sx sg ms
    have hx3 : (upd H3 x (.ins a.C_Question dx (putF "starts" (.ref s') (putF "weather" (.ref w') (putF "land" (.ref l) []))))) x = some (.ins a.C_Question dx (putF "starts" (.ref s') (putF "weather" (.ref w') (putF "land" (.ref l) [])))) := upd_same
    have hgH4 : (upd H3 x (.ins a.C_Question dx (putF "starts" (.ref s') (putF "weather" (.ref w') (putF "land" (.ref l) []))))) g = some oD := by rw [upd_ne gx]; exact e3 _ _ hgH2
    generalize upd H3 x (.ins a.C_Question dx (putF "starts" (.ref s') (putF "weather" (.ref w') (putF "land" (.ref l) [])))) = H4 at b3 ms3 hx3 hgH4
    clear e3 ms
    -- breaks
    have f3 : Ex H0 (dl2 x g H4) := f2.trans b3
    refine ⟨_, rfl, b, rfl, ⟨_, ex_l (f3.trans dl2_ex) hb⟩, fun b' hb' => lcY_list (K := K) (a := b) (xs := bb) (fun i H' => Ex H4 H' ∧ H' b' = some (.lst (bb.take i))) ⟨Ex.new hb', upd_same⟩ (fun i H' _ z => ex_l ((f3.trans dl2_ex).trans z.1) hb) (fun i y H' hy z => ?_) (fun H5 z => ?_)⟩
    · have hi := (List.getElem?_eq_some_iff.mp hy).1
      obtain ⟨r, hrr, hmr, dp⟩ := pick (dps_ex ((f3.trans dl2_ex).trans z.1) db) hy
      obtain ⟨t, rfl, st⟩ := pm_in dp
      refine ⟨rfl, _, rfl, t, _, rfl, .inr ⟨st, _, z.2, sz_lt (by simp only [List.length_take]; omega), z.1.mut hb', ?_⟩⟩
      rw [upd_same, take_one hy]
    obtain ⟨e4, mb⟩ := z
    rw [List.take_length] at mb
    refine ⟨_, rfl, x, a.C_Question, dx, _, rfl, e4 _ _ hx3, T.cl_Question, T.na_Question_breaks, by show 3 < 1000; decide, ?_⟩
    have bg : b' ≠ g := fun q => by rw [q, hgH4] at hb'; cases hb'
    have bx : b' ≠ x := fun q => by rw [q, hx3] at hb'; cases hb'
    have b4 : Ex (dl2 x g H4) (dl2 x g (upd H5 x (.ins a.C_Question dx (putF "breaks" (.ref b') (putF "starts" (.ref s') (putF "weather" (.ref w') (putF "land" (.ref l) []))))))) := by rw [dl2_upd]; exact ex_dl2 e4
    have mb4 : (dl2 x g (upd H5 x (.ins a.C_Question dx (putF "breaks" (.ref b') (putF "starts" (.ref s') (putF "weather" (.ref w') (putF "land" (.ref l) []))))))) b' = some (.lst bb) := by rw [dl2_upd]; exact dl2_at bx bg mb
    have hx4 : (upd H5 x (.ins a.C_Question dx (putF "breaks" (.ref b') (putF "starts" (.ref s') (putF "weather" (.ref w') (putF "land" (.ref l) [])))))) x = some (.ins a.C_Question dx (putF "breaks" (.ref b') (putF "starts" (.ref s') (putF "weather" (.ref w') (putF "land" (.ref l) []))))) := upd_same
    have hgH6 : (upd H5 x (.ins a.C_Question dx (putF "breaks" (.ref b') (putF "starts" (.ref s') (putF "weather" (.ref w') (putF "land" (.ref l) [])))))) g = some oD := by rw [upd_ne gx]; exact e4 _ _ hgH4
    generalize upd H5 x (.ins a.C_Question dx (putF "breaks" (.ref b') (putF "starts" (.ref s') (putF "weather" (.ref w') (putF "land" (.ref l) []))))) = H6 at b4 mb4 hx4 hgH6
    clear e4 mb
    -- spells
    have f4 : Ex H0 (dl2 x g H6) := f3.trans b4
    have g4 := f4.trans dl2_ex
    refine ⟨_, rfl, _, rfl, l, w, D, us, ws, rfl, hl.ex g4, ex_l g4 hw, dps_ex g4 dw, wok, fun sp H7 acc e5 sp0 msp dsp => ?_⟩
    refine ⟨_, rfl, x, a.C_Question, dx, _, rfl, e5 _ _ hx4, T.cl_Question, T.na_Question_spells, by show 4 < 1000; decide, ?_⟩
    have spg : sp ≠ g := fun q => by rw [q, hgH6] at sp0; cases sp0
    have spx : sp ≠ x := fun q => by rw [q, hx4] at sp0; cases sp0
    have b5 : Ex (dl2 x g H6) (dl2 x g (upd H7 x (.ins a.C_Question dx (putF "spells" (.ref sp) (putF "breaks" (.ref b') (putF "starts" (.ref s') (putF "weather" (.ref w') (putF "land" (.ref l) [])))))))) := by rw [dl2_upd]; exact ex_dl2 e5
    have msp5 : (dl2 x g (upd H7 x (.ins a.C_Question dx (putF "spells" (.ref sp) (putF "breaks" (.ref b') (putF "starts" (.ref s') (putF "weather" (.ref w') (putF "land" (.ref l) [])))))))) sp = some (.lst acc) := by rw [dl2_upd]; exact dl2_at spx spg msp
    have dsp5 : DpAll K (dl2 x g (upd H7 x (.ins a.C_Question dx (putF "spells" (.ref sp) (putF "breaks" (.ref b') (putF "starts" (.ref s') (putF "weather" (.ref w') (putF "land" (.ref l) [])))))))) acc ((FP.spells (wt D ws)).map dSp) := by rw [dl2_upd]; exact dps_exT (exT_dl2 (e5 _ _ hx4) (e5 _ _ hgH6) nT gx) dsp (frozen_spells _)
    have hx5 : (upd H7 x (.ins a.C_Question dx (putF "spells" (.ref sp) (putF "breaks" (.ref b') (putF "starts" (.ref s') (putF "weather" (.ref w') (putF "land" (.ref l) []))))))) x = some (.ins a.C_Question dx (putF "spells" (.ref sp) (putF "breaks" (.ref b') (putF "starts" (.ref s') (putF "weather" (.ref w') (putF "land" (.ref l) [])))))) := upd_same
    have hgH8 : (upd H7 x (.ins a.C_Question dx (putF "spells" (.ref sp) (putF "breaks" (.ref b') (putF "starts" (.ref s') (putF "weather" (.ref w') (putF "land" (.ref l) []))))))) g = some oD := by rw [upd_ne gx]; exact e5 _ _ hgH6
    generalize upd H7 x (.ins a.C_Question dx (putF "spells" (.ref sp) (putF "breaks" (.ref b') (putF "starts" (.ref s') (putF "weather" (.ref w') (putF "land" (.ref l) [])))))) = H8 at b5 msp5 dsp5 hx5 hgH8
    clear e5 msp dsp
    -- stops
    have f5 : Ex H0 (dl2 x g H8) := f4.trans b5
    have g5 := f5.trans dl2_ex
    refine ⟨_, rfl, b, bb, bs, rfl, ex_l g5 hb, dps_ex g5 db, lb, fun st H9 e6 st0 tst => ?_⟩
    refine ⟨_, rfl, x, a.C_Question, dx, _, rfl, e6 _ _ hx5, T.cl_Question, T.na_Question_stops, by show 5 < 1000; decide, ?_⟩
    have stg : st ≠ g := fun q => by rw [q, hgH8] at st0; cases st0
    have stx : st ≠ x := fun q => by rw [q, hx5] at st0; cases st0
    have b6 : Ex (dl2 x g H8) (dl2 x g (upd H9 x (.ins a.C_Question dx (putF "stops" (.ref st) (putF "spells" (.ref sp) (putF "breaks" (.ref b') (putF "starts" (.ref s') (putF "weather" (.ref w') (putF "land" (.ref l) []))))))))) := by rw [dl2_upd]; exact ex_dl2 e6
    have tst6 : Tab (dl2 x g (upd H9 x (.ins a.C_Question dx (putF "stops" (.ref st) (putF "spells" (.ref sp) (putF "breaks" (.ref b') (putF "starts" (.ref s') (putF "weather" (.ref w') (putF "land" (.ref l) []))))))))) st (FP.minOf bs) := by
      rw [dl2_upd]
      obtain ⟨kv, h1, h2, h3⟩ := tst
      exact ⟨kv, dl2_at stx stg h1, h2, h3⟩
    have hx6 : (upd H9 x (.ins a.C_Question dx (putF "stops" (.ref st) (putF "spells" (.ref sp) (putF "breaks" (.ref b') (putF "starts" (.ref s') (putF "weather" (.ref w') (putF "land" (.ref l) [])))))))) x = some (.ins a.C_Question dx (putF "stops" (.ref st) (putF "spells" (.ref sp) (putF "breaks" (.ref b') (putF "starts" (.ref s') (putF "weather" (.ref w') (putF "land" (.ref l) []))))))) := upd_same
    have hgHA : (upd H9 x (.ins a.C_Question dx (putF "stops" (.ref st) (putF "spells" (.ref sp) (putF "breaks" (.ref b') (putF "starts" (.ref s') (putF "weather" (.ref w') (putF "land" (.ref l) [])))))))) g = some oD := by rw [upd_ne gx]; exact e6 _ _ hgH8
    generalize upd H9 x (.ins a.C_Question dx (putF "stops" (.ref st) (putF "spells" (.ref sp) (putF "breaks" (.ref b') (putF "starts" (.ref s') (putF "weather" (.ref w') (putF "land" (.ref l) []))))))) = HA at b6 tst6 hx6 hgHA
    clear e6 tst
    -- leaving
    have f6 : Ex H0 (dl2 x g HA) := f5.trans b6
    have g6 := f6.trans dl2_ex
    obtain ⟨dxl, wi, pl, li, pa, rows, prs, L⟩ := hl.ex g6
    refine ⟨_, rfl, l, a.C, dxl, _, _, rfl, L.ob, T.cl, T.nP, fs_places .., pl, rfl, ⟨_, L.pl⟩, fun D0 hD => dcY_it (walk_tup (K := K) (a := pl) (xs := D.ps.map V.str)) (fun i H' => Ex HA H' ∧ ∃ kvs : List (Key × V), H' D0 = some (.dK kvs) ∧ kvs.length ≤ i ∧ (∀ p c, valV kvs (.inr p) = some (.ref c) → H' c = some (.lst []) ∧ HA c = none ∧ c ≠ D0) ∧
      (∀ p q c, valV kvs (.inr p) = some (.ref c) → valV kvs (.inr q) = some (.ref c) → p = q) ∧ ∀ p ∈ D.ps.take i, ∃ c, valV kvs (.inr p) = some (.ref c)) ⟨Ex.new hD, [], upd_same, Nat.le_refl _, (fun p c h => by cases h), (fun p q c h => by cases h), (fun p hp => by cases hp)⟩ (fun i H' _ z => ex_t z.1 L.pl) (fun i y H' H'' hi z yy => ?_) (fun HB z => ?_)⟩
    · obtain ⟨rfl, hy⟩ := yy
      obtain ⟨e, kvs, hk, lk, iA, iC, iB⟩ := z
      rw [List.getElem?_map] at hy
      obtain ⟨p, hp, rfl⟩ := Option.map_eq_some_iff.mp hy
      rw [List.length_map] at hi
      have p24 := ok.p24
      refine ⟨rfl, _, rfl, by show 0 ≤ sizeLine; decide, fun c hc => ?_⟩
      have cD : c ≠ D0 := fun q => by rw [q, hk] at hc; cases hc
      have hk2 := Ex.new (o := .lst []) hc _ _ hk
      have lp := length_putK kvs (Sum.inr p) (V.ref c)
      refine ⟨kvs, .inr p, rfl, hk2, sz_lt (by omega), (e.trans (Ex.new hc)).mut hD, putK kvs (.inr p) (.ref c), upd_same, by omega, fun q d hq => ?_, fun q q' d hq hq' => ?_, fun q hq => ?_⟩
      · rw [valV_put] at hq
        by_cases z : (Sum.inr q : Key) = Sum.inr p
        · rw [if_pos z] at hq
          cases hq
          exact ⟨by rw [upd_ne cD]; exact upd_same, fresh_back e hc, cD⟩
        · rw [if_neg z] at hq
          obtain ⟨h1, h2, h3⟩ := iA q d hq
          exact ⟨by rw [upd_ne h3]; exact Ex.new hc _ _ h1, h2, h3⟩
      · have nc : ∀ {z : Str}, valV kvs (.inr z) = some (.ref c) → False := fun {z} h => by
          have h1 := (iA z c h).1
          rw [hc] at h1
          cases h1
        rw [valV_put] at hq hq'
        by_cases z : (Sum.inr q : Key) = Sum.inr p
        · by_cases z' : (Sum.inr q' : Key) = Sum.inr p
          · rw [Sum.inr.inj z, Sum.inr.inj z']
          · rw [if_pos z] at hq
            rw [if_neg z'] at hq'
            cases hq
            exact (nc hq').elim
        · rw [if_neg z] at hq
          by_cases z' : (Sum.inr q' : Key) = Sum.inr p
          · rw [if_pos z'] at hq'
            cases hq'
            exact (nc hq).elim
          · rw [if_neg z'] at hq'
            exact iC q q' d hq hq'
      · rw [take_one hp] at hq
        rw [valV_put]
        by_cases z : (Sum.inr q : Key) = Sum.inr p
        · exact ⟨c, if_pos z⟩
        · rw [if_neg z]
          rcases List.mem_append.mp hq with h | h
          · exact iB q h
          · rw [List.mem_singleton.mp h] at z
            exact absurd rfl z
    obtain ⟨e7, kvs, hk, lk, iA, iC, iB⟩ := z
    rw [List.length_map] at iB lk
    rw [List.take_length] at iB
    refine ⟨_, rfl, x, a.C_Question, dx, _, rfl, e7 _ _ hx6, T.cl_Question, T.na_Question_leaving, by show 6 < 1000; decide, ?_⟩
    have D0x : D0 ≠ x := fun q => by rw [q, hx6] at hD; cases hD
    have cx : ∀ {c : Addr}, HA c = none → c ≠ x := fun {c} h q => by rw [q, hx6] at h; cases h
    have bB : Ex (dl2 x g HA) (upd HB x (.ins a.C_Question dx (putF "leaving" (.ref D0) (putF "stops" (.ref st) (putF "spells" (.ref sp) (putF "breaks" (.ref b') (putF "starts" (.ref s') (putF "weather" (.ref w') (putF "land" (.ref l) []))))))))) := (dl2_ex.trans e7).mut dl2_x
    have hxB : (upd HB x (.ins a.C_Question dx (putF "leaving" (.ref D0) (putF "stops" (.ref st) (putF "spells" (.ref sp) (putF "breaks" (.ref b') (putF "starts" (.ref s') (putF "weather" (.ref w') (putF "land" (.ref l) []))))))))) x = some (.ins a.C_Question dx (qFs l w' s' b' sp st D0)) := upd_same
    have hkB : (upd HB x (.ins a.C_Question dx (putF "leaving" (.ref D0) (putF "stops" (.ref st) (putF "spells" (.ref sp) (putF "breaks" (.ref b') (putF "starts" (.ref s') (putF "weather" (.ref w') (putF "land" (.ref l) []))))))))) D0 = some (.dK kvs) := by rw [upd_ne D0x]; exact hk
    have iA2 : ∀ p c, valV kvs (.inr p) = some (.ref c) → (upd HB x (.ins a.C_Question dx (putF "leaving" (.ref D0) (putF "stops" (.ref st) (putF "spells" (.ref sp) (putF "breaks" (.ref b') (putF "starts" (.ref s') (putF "weather" (.ref w') (putF "land" (.ref l) []))))))))) c = some (.lst []) ∧ (dl2 x g HA) c = none := fun p c h => by
      obtain ⟨h1, h2, h3⟩ := iA p c h
      exact ⟨by rw [upd_ne (cx h2)]; exact h1, dl2_none h2⟩
    have hgHC : (upd HB x (.ins a.C_Question dx (putF "leaving" (.ref D0) (putF "stops" (.ref st) (putF "spells" (.ref sp) (putF "breaks" (.ref b') (putF "starts" (.ref s') (putF "weather" (.ref w') (putF "land" (.ref l) []))))))))) g = some oD := by rw [upd_ne gx]; exact e7 _ _ hgHA
    generalize upd HB x (.ins a.C_Question dx (putF "leaving" (.ref D0) (putF "stops" (.ref st) (putF "spells" (.ref sp) (putF "breaks" (.ref b') (putF "starts" (.ref s') (putF "weather" (.ref w') (putF "land" (.ref l) [])))))))) = HC at bB hxB hkB iA2 hgHC
    have cg : ∀ p c, valV kvs (.inr p) = some (.ref c) → c ≠ g := fun p c h q => by
      have h2 := (iA p c h).2.1
      rw [q, hgHA] at h2
      cases h2
    have D0g : D0 ≠ g := fun q => by rw [q, hgHA] at hD; cases hD
    clear iA e7 hk
    have f7 : Ex H0 HC := f6.trans bB
    obtain ⟨dxl, wi, pl, li, pa, rows, prs, L⟩ := hl.ex f6
    have lr := dps_len L.ls
    rw [List.length_map] at lr
    have l60 := ok.l60
    refine ⟨_, rfl, l, a.C, dxl, _, _, rfl, bB _ _ L.ob, T.cl, T.nL, fs_links .., li, rows, rfl, ex_t bB L.li, for_it (walk_enumT (K := K) (a := li) (xs := rows)) (fun i σ H' => ∃ (v5 v6 : Option V) (Bi : Hp), σ = [some (.ref x), some (.ref l), some (.ref w), some (.ref s), some (.ref b), v5, v6, none, none, none] ∧ Ex (dl2 x g HA) Bi ∧ Ex Bi H' ∧ Bi g = none ∧ H' g = some oD ∧ H' x = some (.ins a.C_Question dx (qFs l w' s' b' sp st D0)) ∧ H' D0 = some (.dK kvs) ∧
      ∀ p c, valV kvs (.inr p) = some (.ref c) → ∃ ys, H' c = some (.lst ys) ∧ Bi c = none ∧ ys.length ≤ i ∧ DpAll K Bi ys ((outL D.ls p i).map dNl)) ⟨none, none, dl2 x g HA, rfl, Ex.refl _, bB, dl2_g, hgHC, hxB, hkB, fun p c h => ⟨[], (iA2 p c h).1, (iA2 p c h).2, Nat.le_refl _, .nil⟩⟩ (fun i σ H' _ z => by obtain ⟨v5, v6, Bi, _, h1, h2, _⟩ := z; exact ex_t (h1.trans h2) L.li) (fun i y σ H' H'' hi z yy => ?_) (fun σ H' z => ?_)⟩
    · obtain ⟨v5, v6, Bi, rfl, x1, x2, bg0, hg', hx', hk', lists⟩ := z
      obtain ⟨T0, y, rfl, ht, rfl, hy⟩ := yy
      obtain ⟨q, hq, hm, dp⟩ := pick (dps_ex x1 L.ls) hy
      obtain ⟨t, u, vs, rfl, hT, hU, hts⟩ := link_in dp
      have hT' := ex_t (x2.trans (Ex.new (o := .tup [.int (i : Nat), .ref t]) ht)) hT
      obtain ⟨c, hc⟩ := iB q.o (ok.lk q hm).o
      obtain ⟨ys, hys, bc, ly, dys⟩ := lists q.o c hc
      have eT := Ex.new (o := .tup [.int (i : Nat), .ref t]) ht
      refine ⟨T0, _, rfl, st_of upd_same, rfl, _, _, rfl, _, _, rfl, rfl, ?_⟩
      have gL : DGet (upd H' T0 (.tup [.int (i : Nat), .ref t])) D0 (.str q.o) (valV kvs (.inr q.o)) := DGet.k (k := Sum.inr q.o) (eT _ _ hk')
      rw [hc] at gL
      refine ⟨_, rfl, x, a.C_Question, dx, _, _, rfl, eT _ _ hx', T.cl_Question, T.na_Question_leaving, q_leaving .., _, rfl, t, _, _, _, rfl, rfl, hT', atI_nat (j := 1) rfl, D0, _, rfl, gL, .inl ⟨rfl, ys, SqL.of (eT _ _ hys)⟩, _, rfl, _, rfl, by show 2 ≤ sizeLine; decide, fun u0 hu0 => ?_⟩
      have eU := Ex.new (o := .tup [.int (i : Nat), .ref t]) hu0
      have x2' := (x2.trans eT)
      have bu : Bi u0 = none := fresh_back x2' hu0
      have hc1 := eU _ _ (eT _ _ hys)
      have cu : c ≠ u0 := ne_of_none (eT _ _ hys) hu0
      refine ⟨c, ys, _, rfl, rfl, hc1, sz_lt (by omega), _, _, upd Bi u0 (.tup [.int (i : Nat), .ref t]), rfl, x1.trans (Ex.new bu), ?_, ?_, ?_, ?_, ?_, fun p d hd => ?_⟩
      rotate_left 1
      · exact (by rw [upd_ne (ne_of_none (eT _ _ hg') hu0)]; exact bg0)
      · have gc : g ≠ c := (cg _ _ hc).symm
        rw [upd_ne gc]
        exact eU _ _ (eT _ _ hg')
      rotate_right 1
      · exact (Ex.up x2').mut (by rw [upd_ne cu]; exact bc)
      · have xc : x ≠ c := fun z => by rw [z, hys] at hx'; cases hx'
        rw [upd_ne xc]
        exact eU _ _ (eT _ _ hx')
      · have Dc : D0 ≠ c := fun z => by rw [z, hys] at hk'; cases hk'
        rw [upd_ne Dc]
        exact eU _ _ (eT _ _ hk')
      · by_cases z : q.o = p
        · subst z
          rw [hc] at hd
          cases hd
          refine ⟨_, upd_same, by rw [upd_ne cu]; exact bc, by rw [List.length_append]; show ys.length + 1 ≤ i + 1; omega, ?_⟩
          rw [outL_next hq, if_pos rfl, List.map_append]
          exact dps_app (dps_ex (Ex.new bu) dys) (dps_one (.tup (st_of upd_same) (.cons (.int _) (.cons (dp_ex (Ex.new bu) dp) .nil))))
        · obtain ⟨zs, hzs, bz, lz, dz⟩ := lists p d hd
          have dc : d ≠ c := fun e => by
            subst e
            exact z (iC _ _ _ hc hd)
          have du : d ≠ u0 := ne_of_none (eT _ _ hzs) hu0
          refine ⟨zs, by rw [upd_ne dc]; exact eU _ _ (eT _ _ hzs), by rw [upd_ne du]; exact bz, by omega, ?_⟩
          rw [outL_next hq, if_neg z, List.append_nil]
          exact dps_ex (Ex.new bu) dz
    · obtain ⟨v5, v6, Bi, rfl, x1, x2, bg0, hg', hx', hk', lists⟩ := z
      have e8 := x1.trans x2
      rw [lr] at lists
      have e9 : Ex (dl2 x g HA) (del H' g) := ex_to_del e8 dl2_g
      have x2g : Ex Bi (del H' g) := ex_to_del x2 bg0
      refine k H' (f6.trans e8) hg' ⟨dx, l, w', s', b', sp, st, D0, us, ss, bb, acc, kvs, del_at gx.symm hx', hl.ex (f6.trans e9), SqL.of (e9 _ _ (b6 _ _ (b5 _ _ (b4 _ _ (b3 _ _ mw))))), dps_ex (f6.trans e9) dw, SqL.of (e9 _ _ (b6 _ _ (b5 _ _ (b4 _ _ ms3)))), dps_ex (f6.trans e9) ds, SqL.of (e9 _ _ (b6 _ _ (b5 _ _ mb4))), dps_ex (f6.trans e9) db, SqL.of (e9 _ _ (b6 _ _ msp5)), dps_ex ((b6).trans e9) dsp5, tst6.ex e9, del_at D0g hk', fun p hp => ?_⟩
      obtain ⟨c, hc⟩ := iB p hp
      obtain ⟨ys, hys, bc, ly, dys⟩ := lists p c hc
      exact ⟨c, ys, hc, SqL.of (del_at (cg _ _ hc) hys), dps_ex x2g dys⟩
end
end EV

set_option Elab.async false
set_option linter.all false
set_option maxRecDepth 100000
set_option maxHeartbeats 4000000
namespace EV
open PySem PySem.Spec PyProof.Rows L2 EvS Evl FD EnT
def sp_Question_is_ahead (K : PySem.W.Frag) (C CQ : Addr) : Sp := fun vs H Q _ => ∃ (x : Addr) (m : Int) (p : Str) (D : LandD) (ws : List (Int × Str)) (sts bs : List (Str × Int)), vs = [.ref x, .int m, .str p] ∧ IsQ K C CQ H x D ws sts bs ∧ Q (.bl (FP.ahead (FP.minOf bs p) m)) H
def sp_Question_through (K : PySem.W.Frag) (C CQ : Addr) : Sp := fun vs H Q _ => ∃ (x r : Addr) (m : Int) (D : LandD) (ws : List (Int × Str)) (sts bs : List (Str × Int)) (row : List (Option Int)), vs = [.ref x, .ref r, .int m] ∧ IsQ K C CQ H x D ws sts bs ∧ SqT K H r (row.map vInt) ∧ row.length = D.ws.length ∧ FP.RowOk row ∧ WOk D ws ∧ 0 ≤ m ∧ Q (vInt (FP.thr (wt D ws) row m)) H
theorem wt_asc {D : LandD} {ws : List (Int × Str)} (ok : WOk D ws) : FP.Asc (wt D ws) := by
  unfold FP.Asc wt
  rw [List.pairwise_map]
  exact ok.asc
theorem wt_head {D : LandD} {ws : List (Int × Str)} (ok : WOk D ws) {m : Int} (h : 0 ≤ m) : ∀ r ∈ (wt D ws).head?, r.1 ≤ m := fun r hr => by
  cases ws with
  | nil => cases hr
  | cons q l =>
    cases hr
    have := ok.h0 q rfl
    show q.1 ≤ m
    omega
theorem wt_ne {D : LandD} {ws : List (Int × Str)} (ok : WOk D ws) : wt D ws ≠ [] := fun e => by
  have l1 := ok.l1
  have := congrArg List.length e
  unfold wt at this
  rw [List.length_map] at this
  simp at this
  subst this
  exact absurd l1 (by decide)
theorem spell_wind {D : LandD} {ws : List (Int × Str)} (ok : WOk D ws) {s : FP.Spell} (h : s ∈ FP.spells (wt D ws)) : s.2.2 < D.ws.length := by
  obtain ⟨i, hi⟩ := List.mem_iff_getElem?.mp h
  rw [spells_get] at hi
  obtain ⟨r, hr, rfl⟩ := Option.map_eq_some_iff.mp hi
  unfold wt at hr
  rw [List.getElem?_map] at hr
  obtain ⟨q, hq, rfl⟩ := Option.map_eq_some_iff.mp hr
  exact List.idxOf_lt_length_of_mem (ok.nm q (List.mem_of_getElem? hq))
theorem FP_go_cons (row : List (Option Int)) (m : Int) (s : FP.Spell) (r : List FP.Spell) (c : Option Int) : FP.goThr row m (s :: r) c = if FP.early c s.1 = true then c else FP.goThr row m r (FP.least c (FP.candS row m s)) := rfl
theorem cand_num {row : List (Option Int)} {m : Int} {s : FP.Spell} (h : FP.num row s.2.2 = none) : FP.candS row m s = none := by
  unfold FP.candS
  rw [h]
  split <;> rfl
theorem least_none (c : Option Int) : FP.least c none = c := by cases c <;> rfl
theorem sp_in {K : PySem.W.Frag} {H : Hp} {v : V} {s : FP.Spell} (h : Dp K H v (dSp s)) : ∃ t, v = .ref t ∧ SqT K H t [.int s.1, vInt s.2.1, .int (s.2.2 : Nat)] := by
  unfold dSp at h
  cases h with
  | tup st al =>
    cases al with
    | cons d1 al =>
      cases al with
      | cons d2 al =>
        cases al with
        | cons d3 al =>
          cases al
          cases d1
          cases d3
          rw [opt_dp d2] at st
          exact ⟨_, rfl, st⟩
section
variable {P : Program} {w : World} {K : PySem.W.Frag} {mg : Str → Option Value} {base : Heap} {a : Ad}
theorem G_Question_is_ahead (T : Txt K mg a) : FnOk P w K mg base CX0 1 a.f_Question_is_ahead a.d_Question_is_ahead ["self", "minute", "place"] (sp_Question_is_ahead K a.C a.C_Question) := by
  refine T.F_Question_is_ahead.ok sc_Question_is_ahead (fun vs H Q E h => ?_) (fun cdv A outer s H vs Q E hr h => ?_)
  · obtain ⟨x, m, p, D, ws, sts, bs, rfl, _⟩ := h
    rfl
  · obtain ⟨x, m, p, D, ws, sts, bs, rfl, hq, k⟩ := h
    obtain ⟨dx, l, w, s, b, sp, st, lv, us, ss, bb, acc, kvs, QA⟩ := hq
    obtain ⟨kst, hst, lst, tst⟩ := QA.st
    refine ⟨_, (pss_one (ps_ret (pe_or (pe_cmp (pc_dnotin (hu_of hr) (pv 2) (pe_fld (pv 0) rfl))) (pe_one (pe_cmpR op_lt (pv 1) (pe_dget (hu_of hr) (pe_fld (pv 0) rfl) (pv 2) (fun _ _ => rfl)) (nomark _)))))), ?_⟩
    have g : DGet H st (.str p) (valV kst (.inr p)) := DGet.k (k := Sum.inr p) hst
    rw [tst p] at g
    refine ⟨_, rfl, _, rfl, x, a.C_Question, dx, _, _, rfl, QA.ob, T.cl_Question, T.na_Question_stops, q_stops .., st, _, rfl, g, _, rfl, ?_⟩
    cases hs : FP.minOf bs p with
    | none =>
      rw [hs] at k
      exact iteT k
    | some u =>
      rw [hs] at k g
      exact iteF ⟨_, rfl, _, rfl, x, a.C_Question, dx, _, _, rfl, QA.ob, T.cl_Question, T.na_Question_stops, q_stops .., _, rfl, st, _, rfl, g, _, _, rfl, rfl, k⟩
theorem G_Question_through (T : Txt K mg a) : FnOk P w K mg base CX0 1 a.f_Question_through a.d_Question_through ["self", "row", "minute"] (sp_Question_through K a.C a.C_Question) := by
  refine T.F_Question_through.ok sc_Question_through (fun vs H Q E h => ?_) (fun cdv A outer s H vs Q E hr h => ?_)
  · obtain ⟨x, r, m, D, ws, sts, bs, row, rfl, _⟩ := h
    rfl
  · obtain ⟨x, r, m, D, ws, sts, bs, row, rfl, hq, hrow, lrow, rok, wok, m0, k⟩ := h
    obtain ⟨dx, l, w, s, b, sp, st, lv, us, ss, bb, acc, kvs, QA⟩ := hq
    have fin := FP.go_thr rok (wt_asc wok) (wt_head wok m0) (wt_ne wok)
    rw [← fin] at k
    have la := dps_len QA.da
    rw [List.length_map] at la
    refine ⟨_, (pss_cons (ps_set (i := 3) sc_Question_through.nd rfl (Or.inl rfl) pe_non)
      (pss_cons (ps_for PassesOwn.never rfl (pi_list (pe_fld (pv 0) rfl)) (pg_tup (by rfl) (pgs_cons (pg_name (i := 4) sc_Question_through.nd rfl (Or.inl rfl)) (pgs_cons (pg_name (i := 5) sc_Question_through.nd rfl (Or.inl rfl)) (pgs_cons (pg_name (i := 6) sc_Question_through.nd rfl (Or.inl rfl)) pgs_nil)))) (Evl.pss_cut (ps_if (PW.pt (pw_and (pt_cmpR op_notN (pv 3) pe_non (nomark _)) (pw_and1 (pt_cmpR op_le (pv 3) (pv 4) (nomark _))))) (pss_one ps_break) pss_nil)
        (Evl.pss_cut (ps_if (PW.pt (pw_or (pt_cmpR op_isN (pe_ix ix_tup (pv 1) (pv 6) (fun _ _ => rfl)) pe_non (nomark _)) (pw_or1 (PW.pt (pw_and (pt_cmpR op_notN (pv 5) pe_non (nomark _)) (pw_and1 (pt_cmpR op_le (pv 5) (pv 2) (nomark _)))))))) (pss_one ps_continue) pss_nil)
        (pss_cons (ps_set (i := 7) sc_Question_through.nd rfl (Or.inl rfl) (pe_op op_add (pe_callB (call_max2 rfl) (by rfl) T.z_max (by decide +kernel) (pa_cons (pv 4) (pa_cons (pv 2) pa_nil))) (pe_ix ix_tup (pv 1) (pv 6) (fun _ _ => rfl))))
        (pss_one (ps_if (PW.pt (pw_or (pt_cmpR op_isN (pv 3) pe_non (nomark _)) (pw_or1 (pt_cmpR op_lt (pv 7) (pv 3) (nomark _))))) (pss_one (ps_set (i := 3) sc_Question_through.nd rfl (Or.inl rfl) (pv 7))) pss_nil))))))
      (pss_one (ps_ret (pv 3))))), ?_⟩
    refine ⟨_, rfl, x, a.C_Question, dx, _, _, rfl, QA.ob, T.cl_Question, T.na_Question_spells, q_spells .., sp, rfl, ⟨_, QA.sp⟩, for_list (K := K) (a := sp) (xs := acc) (fun i σ H' => ∃ (c : Option Int) (v4 v5 v6 v7 : Option V), σ = [some (.ref x), some (.ref r), some (.int m), some (vInt c), v4, v5, v6, v7] ∧ H' = H ∧ FP.goThr row m ((FP.spells (wt D ws)).drop i) c = FP.goThr row m (FP.spells (wt D ws)) none) ⟨none, none, none, none, none, rfl, rfl, rfl⟩ (fun i σ H' _ z => by obtain ⟨_, _, _, _, _, _, e, _⟩ := z; rw [e]; exact QA.sp) (fun i y σ H' hy z => ?_) (fun σ H' z => ?_)⟩
    · obtain ⟨c, v4, v5, v6, v7, rfl, e, inv⟩ := z
      rw [e]
      obtain ⟨q, hq, hm, dp⟩ := pick QA.da hy
      obtain ⟨t, rfl, st⟩ := sp_in dp
      obtain ⟨qb, qe, qw⟩ := q
      have dr : (FP.spells (wt D ws)).drop i = (qb, qe, qw) :: (FP.spells (wt D ws)).drop (i + 1) := by
        obtain ⟨hi, e⟩ := List.getElem?_eq_some_iff.mp hq
        rw [← e]
        exact List.drop_eq_getElem_cons hi
      rw [dr] at inv
      rw [FP_go_cons] at inv
      have wl : qw < D.ws.length := spell_wind wok hm
      obtain ⟨nv, hnv⟩ : ∃ nv, row[qw]? = some nv := ⟨row[qw]'(by omega), List.getElem?_eq_getElem (by omega)⟩
      have hn : FP.num row qw = nv := by
        unfold FP.num
        rw [List.getD_eq_getElem?_getD, hnv]
        rfl
      have hat : atI (row.map vInt) ((qw : Nat) : Int) = some (vInt nv) := atI_nat (by rw [List.getElem?_map, hnv]; rfl)
      refine ⟨t, _, rfl, st, rfl, _, _, rfl, _, _, rfl, _, _, rfl, rfl, ?_⟩
      let S : Option V → L2.St := fun v7 => [some (.ref x), some (.ref r), some (.int m), some (vInt c), some (.int qb), some (vInt qe), some (.int (qw : Nat)), v7]
      refine ⟨fun σ H' => σ = S v7 ∧ H' = H ∧ FP.early c qb = false, ?_, ?_⟩
      · cases c with
        | none => exact ⟨_, rfl, rfl, _, rfl, iteF ⟨rfl, rfl, rfl⟩⟩
        | some f =>
          refine ⟨_, rfl, rfl, _, rfl, iteT ⟨_, rfl, _, rfl, _, _, rfl, rfl, _, rfl, ?_⟩⟩
          refine ite2 (fun h => ?_) (fun h => ?_)
          · rw [if_pos (show FP.early (some f) qb = true from h)] at inv
            rw [← inv] at k
            exact ⟨_, rfl, k⟩
          · exact ⟨rfl, rfl, by cases h2 : FP.early (some f) qb with
              | false => rfl
              | true => exact absurd h2 h⟩
      rintro σ H' ⟨rfl, rfl, ea⟩
      rw [if_neg (by rw [ea]; decide)] at inv
      refine ⟨fun σ H2 => σ = S v7 ∧ H2 = H' ∧ ∃ n, nv = some n ∧ FP.over qe m = false, ?_, ?_⟩
      · refine ⟨_, rfl, _, rfl, r, _, _, _, rfl, rfl, hrow, hat, ?_⟩
        cases nv with
        | none =>
          refine ⟨rfl, _, rfl, iteT ⟨c, _, _, _, _, rfl, rfl, ?_⟩⟩
          rw [cand_num hn, least_none] at inv
          exact inv
        | some n =>
          refine ⟨rfl, _, rfl, iteF ?_⟩
          cases qe with
          | none =>
            refine ⟨_, rfl, rfl, _, rfl, iteF ⟨rfl, rfl, n, rfl, rfl⟩⟩
          | some u =>
            refine ⟨_, rfl, rfl, _, rfl, iteT ⟨_, rfl, _, rfl, _, _, rfl, rfl, _, rfl, ?_⟩⟩
            refine ite2 (fun h => ?_) (fun h => ?_)
            · refine ⟨c, _, _, _, _, rfl, rfl, ?_⟩
              have e2 : FP.candS row m (qb, some u, qw) = none := by
                unfold FP.candS
                exact if_pos h
              rw [e2, least_none] at inv
              exact inv
            · refine ⟨rfl, rfl, n, rfl, ?_⟩
              cases h2 : FP.over (some u) m with
              | false => rfl
              | true => exact absurd h2 h
      rintro σ H2 ⟨rfl, rfl, n, rfl, ov⟩
      have ec : FP.candS row m (qb, qe, qw) = some ((if qb < m then m else qb) + n) := by
        unfold FP.candS
        rw [ov, hn]
        rfl
      rw [ec] at inv
      refine ⟨_, rfl, _, rfl, _, _, rfl, _, rfl, _, rfl, r, _, _, _, rfl, rfl, hrow, hat, _, _, rfl, rfl, ?_⟩
      refine ⟨_, rfl, ?_⟩
      cases c with
      | none => exact ⟨rfl, _, rfl, iteT ⟨_, rfl, some ((if qb < m then m else qb) + n), _, _, _, _, rfl, rfl, inv⟩⟩
      | some f =>
        refine ⟨rfl, _, rfl, iteF ⟨_, rfl, _, rfl, _, _, rfl, rfl, _, rfl, ?_⟩⟩
        refine ite2 (fun h => ?_) (fun h => ?_)
        · refine ⟨_, rfl, some ((if qb < m then m else qb) + n), _, _, _, _, rfl, rfl, ?_⟩
          rw [← inv]
          show _ = FP.goThr row m _ (if _ < f then _ else _)
          rw [if_pos (of_decide_eq_true h)]
        · refine ⟨some f, _, _, _, _, rfl, rfl, ?_⟩
          rw [← inv]
          show _ = FP.goThr row m _ (if _ < f then _ else _)
          rw [if_neg fun z => h (decide_eq_true z)]
    · obtain ⟨c, v4, v5, v6, v7, rfl, e, inv⟩ := z
      rw [e]
      rw [la, List.drop_length] at inv
      rw [← inv] at k
      exact ⟨_, rfl, k⟩
end
end EV

set_option Elab.async false
set_option linter.all false
set_option maxRecDepth 100000
set_option maxHeartbeats 4000000
namespace EV
open PySem PySem.Spec PyProof.Rows L2 EvS Evl FD EnT
/-! ### numbers of a fire -/
def dRow (row : List (Option Int)) : PyData := .tuple (row.map dOpt)
def lkN (k : Link) (row : List (Option Int)) : FP.Lk := ⟨k.o, k.t, row⟩
def fireN (D : LandD) (ws : List (Int × Str)) (sts bs : List (Str × Int)) (nums : List (List (Option Int))) : FP.Fire := ⟨wt D ws, List.zipWith lkN D.ls nums, sts, FP.minOf bs⟩
structure NumsOk (D : LandD) (nums : List (List (Option Int))) : Prop where
  len : nums.length = D.ls.length
  row : ∀ row ∈ nums, row.length = D.ws.length ∧ FP.RowOk row
theorem zip_mem {ls : List Link} {nums : List (List (Option Int))} {l : FP.Lk} : l ∈ List.zipWith lkN ls nums ↔ ∃ (j : Nat) (k : Link) (row : List (Option Int)), ls[j]? = some k ∧ nums[j]? = some row ∧ l = lkN k row := by
  rw [List.mem_iff_getElem?]
  constructor
  · rintro ⟨i, hi⟩
    rw [List.getElem?_zipWith] at hi
    cases h1 : ls[i]? with
    | none => rw [h1] at hi; cases hi
    | some k =>
      cases h2 : nums[i]? with
      | none => rw [h1, h2] at hi; cases hi
      | some row =>
        rw [h1, h2] at hi
        exact ⟨i, k, row, h1, h2, (Option.some.inj hi).symm⟩
  · rintro ⟨j, k, row, h1, h2, rfl⟩
    refine ⟨j, ?_⟩
    rw [List.getElem?_zipWith, h1, h2]
theorem fireN_ok {D : LandD} (ok : LandOk D) {ws : List (Int × Str)} {sts bs : List (Str × Int)} {nums : List (List (Option Int))} (hs : StOk D sts) (hn : NumsOk D nums) : FP.Ok (fireN D ws sts bs nums) D.ps where
  nn := fun r hr => (hs r hr).2
  rows := fun l hl => by
    obtain ⟨j, k, row, h1, h2, rfl⟩ := zip_mem.mp hl
    exact (hn.row row (List.mem_of_getElem? h2)).2
  sp := fun r hr => (hs r hr).1
  ends := fun l hl => by
    obtain ⟨j, k, row, h1, h2, rfl⟩ := zip_mem.mp hl
    have q := ok.lk k (List.mem_of_getElem? h1)
    exact ⟨q.o, q.t⟩
theorem row_in {K : PySem.W.Frag} {H : Hp} {v : V} {row : List (Option Int)} (h : Dp K H v (dRow row)) : ∃ r, v = .ref r ∧ SqT K H r (row.map vInt) := by
  unfold dRow at h
  cases h with
  | tup st al =>
    have key : ∀ {vs : List V} {row : List (Option Int)}, DpAll K H vs (row.map dOpt) → vs = row.map vInt := fun {vs row} => by
      induction row generalizing vs with
      | nil => intro h; cases h; rfl
      | cons o row ih =>
        intro h
        cases h with
        | cons h1 h2 => rw [opt_dp h1, ih h2]; rfl
    rw [key al] at st
    exact ⟨_, rfl, st⟩
theorem pe_weak {X : Cx} {e : Expr} {t t' : TE} (h : PE X e t) (w : ∀ σ H Q, t' σ H Q → t σ H Q) : PE X e t' := ⟨fun pins s σ H Q I q => h.run pins s σ H Q I (w σ H Q q)⟩
/-- a name, or None for the empty text -/
def NmV (z : Str) (nm : V) : Prop := (z = "" ∧ nm = .non) ∨ (z ≠ "" ∧ nm = .str z)
def tNm6 : TE := fun σ H Q => ∃ z : Str, σ[6]? = some (some (.str z)) ∧ ∀ nm : V, NmV z nm → Q nm H
/-! ### counting -/
def cnt (ls : List Link) (f : Str → Option Int) : Nat := (ls.filter fun k => (f k.o).isSome).length
theorem cnt_upd {f : Str → Option Int} {p : Str} {t : Int} (n : f p = none) : ∀ ls : List Link, cnt ls (upd1 f p t) = cnt ls f + (ls.filter fun k => decide (k.o = p)).length
  | [] => rfl
  | k :: ls => by
    have ih := cnt_upd (t := t) n ls
    unfold cnt at ih ⊢
    rw [List.filter_cons, List.filter_cons, List.filter_cons]
    by_cases c : k.o = p
    · have h1 : (upd1 f p t k.o).isSome = true := by unfold upd1; rw [if_pos c]; rfl
      have h2 : (f k.o).isSome = false := by rw [c, n]; rfl
      rw [if_pos h1, if_neg (by rw [h2]; decide), if_pos (decide_eq_true c)]
      simp only [List.length_cons]
      omega
    · have h1 : upd1 f p t k.o = f k.o := by unfold upd1; rw [if_neg c]
      rw [h1, if_neg (fun z => c (of_decide_eq_true z))]
      by_cases d : (f k.o).isSome = true
      · rw [if_pos d, if_pos d]
        simp only [List.length_cons]
        omega
      · rw [if_neg d, if_neg d]
        exact ih
theorem outL_cnt (ls : List Link) (p : Str) : ∀ n, n ≤ ls.length → (outL ls p n).length = ((ls.take n).filter fun k => decide (k.o = p)).length
  | 0, _ => by simp [outL]
  | n + 1, h => by
    obtain ⟨k, hk⟩ : ∃ k, ls[n]? = some k := ⟨_, List.getElem?_eq_getElem (by omega)⟩
    rw [outL_next hk, List.length_append, outL_cnt ls p n (by omega), take_one hk, List.filter_append, List.length_append]
    congr 1
    rw [List.filter_cons]
    by_cases c : k.o = p
    · rw [if_pos c, if_pos (decide_eq_true c)]; rfl
    · rw [if_neg c, if_neg (fun z => c (of_decide_eq_true z))]; rfl
theorem cnt_le (ls : List Link) (f : Str → Option Int) : cnt ls f ≤ ls.length := List.length_filter_le _ _
def fnd (ps : List Str) (f : Str → Option Int) : Nat := (ps.filter fun q => (f q).isSome).length
theorem fnd_upd {f : Str → Option Int} {p : Str} {t : Int} (n : f p = none) : ∀ ps : List Str, fnd ps f ≤ fnd ps (upd1 f p t) ∧ (p ∈ ps → fnd ps f + 1 ≤ fnd ps (upd1 f p t))
  | [] => ⟨Nat.le_refl _, fun h => by cases h⟩
  | q :: ps => by
    obtain ⟨ih1, ih2⟩ := fnd_upd (t := t) n ps
    unfold fnd at ih1 ih2 ⊢
    rw [List.filter_cons, List.filter_cons]
    by_cases c : q = p
    · have h1 : (upd1 f p t q).isSome = true := by unfold upd1; rw [if_pos c]; rfl
      have h2 : (f q).isSome = false := by rw [c, n]; rfl
      rw [if_pos h1, if_neg (by rw [h2]; decide)]
      simp only [List.length_cons]
      exact ⟨by omega, fun _ => by omega⟩
    · have h1 : upd1 f p t q = f q := by unfold upd1; rw [if_neg c]
      have mem : p ∈ q :: ps → p ∈ ps := fun h => (List.mem_cons.mp h).elim (fun z => absurd z.symm c) id
      rw [h1]
      by_cases d : (f q).isSome = true
      · rw [if_pos d, if_pos d]
        simp only [List.length_cons]
        exact ⟨by omega, fun h => by have := ih2 (mem h); omega⟩
      · rw [if_neg d, if_neg d]
        exact ⟨ih1, fun h => ih2 (mem h)⟩
theorem fnd_le (ps : List Str) (f : Str → Option Int) : fnd ps f ≤ ps.length := List.length_filter_le _ _
/-! ### what waits -/
abbrev WRow := Int × Str × Str
def tupW (r : WRow) : HO := .tup [.int r.1, .str r.2.1, .str r.2.2]
def prs (rw : Addr → WRow) (ts : List Addr) : List (Int × Str) := ts.map fun c => ((rw c).1, (rw c).2.1)
def setW (rw : Addr → WRow) (u : Addr) (r : WRow) : Addr → WRow := fun c => if c = u then r else rw c
def keyW (rw : Addr → WRow) : Addr → HeapM.Key := fun c => FP.kOf (rw c)
structure HpAt (H0 Hb H : Hp) (p d : Addr) (rw : Addr → WRow) (ts : List Addr) (kvs : List (Key × V)) : Prop where
  b0 : Ex H0 Hb
  bp : Hb p = none
  bd : Hb d = none
  ex : Ex Hb H
  pd : p ≠ d
  hp : H p = some (.lst (ts.map V.ref))
  hd : H d = some (.dK kvs)
  row : ∀ c ∈ ts, Hb c = some (tupW (rw c))
  hA : HeapM.HeapA (keyW rw) ts
theorem prs_set {rw : Addr → WRow} {ts ts' : List Addr} {u : Addr} {r : WRow} (hu : u ∉ ts) (pm : ts'.Perm (u :: ts)) {e : Int × Str} : e ∈ prs (setW rw u r) ts' ↔ e = (r.1, r.2.1) ∨ e ∈ prs rw ts := by
  unfold prs setW
  rw [(pm.map _).mem_iff, List.map_cons, List.mem_cons, if_pos rfl]
  have : (ts.map fun c => ((if c = u then r else rw c).1, (if c = u then r else rw c).2.1)) = ts.map fun c => ((rw c).1, (rw c).2.1) := List.map_congr_left fun c hc => by
    have ne : c ≠ u := fun z => hu (by rw [← z]; exact hc)
    rw [if_neg ne]
  rw [this]
theorem HpAt.rowV {K : PySem.W.Frag} {H0 Hb H : Hp} {p d : Addr} {rw : Addr → WRow} {ts : List Addr} {kvs : List (Key × V)} (h : HpAt H0 Hb H p d rw ts kvs) : ∀ c ∈ ts, HeapM.RowV K H c (keyW rw c) := fun c hc => ⟨_, _, _, st_of (h.ex _ _ (h.row c hc)), rfl⟩
theorem HpAt.notin {H0 Hb H : Hp} {p d u : Addr} {rw : Addr → WRow} {ts : List Addr} {kvs : List (Key × V)} (h : HpAt H0 Hb H p d rw ts kvs) (hu : H u = none) : u ∉ ts := fun z => by
  have := h.ex _ _ (h.row u z)
  rw [hu] at this
  cases this
theorem setW_at {rw : Addr → WRow} {u : Addr} {r : WRow} : setW rw u r u = r := if_pos rfl
theorem setW_ne {rw : Addr → WRow} {u c : Addr} {r : WRow} (h : c ≠ u) : setW rw u r c = rw c := if_neg h
/-- ahead of a push: the new row laid -/
theorem HpAt.rowV2 {K : PySem.W.Frag} {H0 Hb H : Hp} {p d u : Addr} {rw : Addr → WRow} {ts : List Addr} {kvs : List (Key × V)} {r : WRow} (h : HpAt H0 Hb H p d rw ts kvs) (hu : H u = none) : ∀ c ∈ u :: ts, HeapM.RowV K (upd H u (tupW r)) c (keyW (setW rw u r) c) := fun c hc => by
  rcases List.mem_cons.mp hc with rfl | hc
  · refine ⟨_, _, _, st_of upd_same, ?_⟩
    unfold keyW
    rw [setW_at]
    rfl
  · have ne : c ≠ u := fun z => h.notin hu (by rw [← z]; exact hc)
    refine ⟨_, _, _, st_of (Ex.new hu _ _ (h.ex _ _ (h.row c hc))), ?_⟩
    unfold keyW
    rw [setW_ne ne]
    rfl
theorem HpAt.keyA {H0 Hb H : Hp} {p d u : Addr} {rw : Addr → WRow} {ts : List Addr} {kvs : List (Key × V)} {r : WRow} (h : HpAt H0 Hb H p d rw ts kvs) (hu : H u = none) : HeapM.HeapA (keyW (setW rw u r)) ts := FP.heapA_congr (fun c hc => by
  unfold keyW
  have ne : c ≠ u := fun z => h.notin hu (by rw [← z]; exact hc)
  rw [setW_ne ne]) h.hA
theorem HpAt.pushed {H0 Hb H : Hp} {p d u : Addr} {rw : Addr → WRow} {ts ts' : List Addr} {kvs : List (Key × V)} {r : WRow} (h : HpAt H0 Hb H p d rw ts kvs) (hu : H u = none) (pm : ts'.Perm (u :: ts)) (hA : HeapM.HeapA (keyW (setW rw u r)) ts') : HpAt H0 (upd Hb u (tupW r)) (upd (upd H u (tupW r)) p (.lst (ts'.map V.ref))) p d (setW rw u r) ts' kvs := by
  have bu : Hb u = none := fresh_back h.ex hu
  have pu : p ≠ u := ne_of_none h.hp hu
  have du : d ≠ u := ne_of_none h.hd hu
  refine ⟨h.b0.trans (Ex.new bu), by rw [upd_ne pu]; exact h.bp, by rw [upd_ne du]; exact h.bd, (Ex.up h.ex).mut (by rw [upd_ne pu]; exact h.bp), h.pd, upd_same, ?_, fun c hc => ?_, hA⟩
  · rw [upd_ne h.pd.symm, upd_ne du]
    exact h.hd
  · rcases List.mem_cons.mp (pm.mem_iff.mp hc) with rfl | hc
    · rw [upd_same, setW_at]
    · have ne : c ≠ u := fun z => h.notin hu (by rw [← z]; exact hc)
      rw [upd_ne ne, setW_ne ne]
      exact h.row c hc
theorem HpAt.put {H0 Hb H : Hp} {p d u : Addr} {rw : Addr → WRow} {ts : List Addr} {kvs kvs2 : List (Key × V)} {o : HO} (h : HpAt H0 Hb H p d rw ts kvs) (hu : H u = none) : HpAt H0 (upd Hb u o) (upd (upd H u o) d (.dK kvs2)) p d rw ts kvs2 := by
  have bu : Hb u = none := fresh_back h.ex hu
  have pu : p ≠ u := ne_of_none h.hp hu
  have du : d ≠ u := ne_of_none h.hd hu
  refine ⟨h.b0.trans (Ex.new bu), by rw [upd_ne pu]; exact h.bp, by rw [upd_ne du]; exact h.bd, (Ex.up h.ex).mut (by rw [upd_ne du]; exact h.bd), h.pd, ?_, upd_same, fun c hc => Ex.new bu _ _ (h.row c hc), h.hA⟩
  rw [upd_ne h.pd, upd_ne pu]
  exact h.hp
theorem HpAt.popped {H0 Hb H : Hp} {p d c : Addr} {rw : Addr → WRow} {ts ts1 : List Addr} {kvs : List (Key × V)} (h : HpAt H0 Hb H p d rw (c :: ts) kvs) (pm : ts1.Perm ts) (hA : HeapM.HeapA (keyW rw) ts1) : HpAt H0 Hb (upd H p (.lst (ts1.map V.ref))) p d rw ts1 kvs :=
  ⟨h.b0, h.bp, h.bd, h.ex.mut h.bp, h.pd, upd_same, by rw [upd_ne h.pd.symm]; exact h.hd, fun e he => h.row e (List.mem_cons_of_mem _ (pm.mem_iff.mp he)), hA⟩
def KOf (H : Hp) (kvs : List (Key × V)) (f : Str → Option Int) : Prop := (∀ e ∈ kvs, ∃ (q : Str) (t : Int) (b : Addr) (nm : V), e = (.inr q, .ref b) ∧ H b = some (.tup [.str q, nm, .int t]) ∧ f q = some t) ∧ ∀ q : Str, (valV kvs (.inr q)).isSome = (f q).isSome
theorem KOf.ex {H H' : Hp} {kvs : List (Key × V)} {f : Str → Option Int} (e : Ex H H') (h : KOf H kvs f) : KOf H' kvs f := ⟨fun x hx => by
  obtain ⟨q, t, b, nm, h1, h2, h3⟩ := h.1 x hx
  exact ⟨q, t, b, nm, h1, e _ _ h2, h3⟩, h.2⟩
theorem KOf.same {H : Hp} {kvs : List (Key × V)} {f g : Str → Option Int} (e : ∀ q, f q = g q) (h : KOf H kvs f) : KOf H kvs g := ⟨fun x hx => by
  obtain ⟨q, t, b, nm, h1, h2, h3⟩ := h.1 x hx
  exact ⟨q, t, b, nm, h1, h2, (e q).symm.trans h3⟩, fun q => by rw [← e q]; exact h.2 q⟩
theorem KOf.put {H : Hp} {kvs : List (Key × V)} {f : Str → Option Int} {p : Str} {t : Int} {b : Addr} {nm : V} (h : KOf H kvs f) (n : f p = none) (hb : H b = some (.tup [.str p, nm, .int t])) : KOf H (putK kvs (.inr p) (.ref b)) (upd1 f p t) := by
  have v0 : valV kvs (.inr p) = none := by
    have := h.2 p
    rw [n] at this
    cases e : valV kvs (.inr p) with
    | none => rfl
    | some v => rw [e] at this; cases this
  refine ⟨fun e he => ?_, fun q => ?_⟩
  · rw [putK_new _ v0] at he
    rcases List.mem_append.mp he with he | he
    · obtain ⟨q, t', b', nm', h1, h2, h3⟩ := h.1 e he
      refine ⟨q, t', b', nm', h1, h2, ?_⟩
      unfold upd1
      rw [if_neg fun z => by rw [z, n] at h3; cases h3]
      exact h3
    · rw [List.mem_singleton.mp he]
      exact ⟨p, t, b, nm, rfl, hb, if_pos rfl⟩
  · rw [valV_put]
    unfold upd1
    by_cases c : q = p
    · rw [if_pos (congrArg Sum.inr c), if_pos c]; rfl
    · rw [if_neg fun z => c (Sum.inr.inj z), if_neg c]
      exact h.2 q
/-- why the place q is caught at t: a start, or a link that has the name z -/
def Why (D : LandD) (ws : List (Int × Str)) (sts : List (Str × Int)) (nums : List (List (Option Int))) (f : Str → Option Int) (q z : Str) (t : Int) : Prop :=
  (z = "" ∧ (q, t) ∈ sts) ∨ ∃ (j : Nat) (k : Link) (row : List (Option Int)) (t0 : Int), D.ls[j]? = some k ∧ nums[j]? = some row ∧ z = k.n ∧ k.t = q ∧ f k.o = some t0 ∧ FP.thr (wt D ws) row t0 = some t
theorem Why.upd {D : LandD} {ws : List (Int × Str)} {sts : List (Str × Int)} {nums : List (List (Option Int))} {f : Str → Option Int} {q z p : Str} {t u : Int} (n : f p = none) (h : Why D ws sts nums f q z t) : Why D ws sts nums (upd1 f p u) q z t := by
  rcases h with h | ⟨j, k, row, t0, h1, h2, h3, h4, h5, h6⟩
  · exact .inl h
  · refine .inr ⟨j, k, row, t0, h1, h2, h3, h4, ?_, h6⟩
    unfold upd1
    rw [if_neg fun z => by rw [z, n] at h5; cases h5]
    exact h5
theorem Why.same {D : LandD} {ws : List (Int × Str)} {sts : List (Str × Int)} {nums : List (List (Option Int))} {f g : Str → Option Int} {q z : Str} {t : Int} (e : ∀ q, f q = g q) (h : Why D ws sts nums f q z t) : Why D ws sts nums g q z t := by
  rcases h with h | ⟨j, k, row, t0, h1, h2, h3, h4, h5, h6⟩
  · exact .inl h
  · exact .inr ⟨j, k, row, t0, h1, h2, h3, h4, (e k.o).symm.trans h5, h6⟩
def KWhy (D : LandD) (ws : List (Int × Str)) (sts : List (Str × Int)) (nums : List (List (Option Int))) (H : Hp) (kvs : List (Key × V)) (f : Str → Option Int) : Prop := ∀ e ∈ kvs, ∃ (q : Str) (t : Int) (b : Addr) (nm : V) (z : Str), e = (.inr q, .ref b) ∧ H b = some (.tup [.str q, nm, .int t]) ∧ NmV z nm ∧ Why D ws sts nums f q z t
theorem KWhy.ex {D : LandD} {ws : List (Int × Str)} {sts : List (Str × Int)} {nums : List (List (Option Int))} {H H' : Hp} {kvs : List (Key × V)} {f : Str → Option Int} (e : Ex H H') (h : KWhy D ws sts nums H kvs f) : KWhy D ws sts nums H' kvs f := fun x hx => by
  obtain ⟨q, t, b, nm, z, h1, h2, h3, h4⟩ := h x hx
  exact ⟨q, t, b, nm, z, h1, e _ _ h2, h3, h4⟩
theorem KWhy.same {D : LandD} {ws : List (Int × Str)} {sts : List (Str × Int)} {nums : List (List (Option Int))} {H : Hp} {kvs : List (Key × V)} {f g : Str → Option Int} (e : ∀ q, f q = g q) (h : KWhy D ws sts nums H kvs f) : KWhy D ws sts nums H kvs g := fun x hx => by
  obtain ⟨q, t, b, nm, z, h1, h2, h3, h4⟩ := h x hx
  exact ⟨q, t, b, nm, z, h1, h2, h3, h4.same e⟩
theorem KOf.none {H : Hp} {kvs : List (Key × V)} {f : Str → Option Int} {p : Str} (h : KOf H kvs f) (n : f p = none) : valV kvs (.inr p) = none := by
  have := h.2 p
  rw [n] at this
  cases e : valV kvs (.inr p) with
  | none => rfl
  | some v => rw [e] at this; cases this
theorem KWhy.put {D : LandD} {ws : List (Int × Str)} {sts : List (Str × Int)} {nums : List (List (Option Int))} {H : Hp} {kvs : List (Key × V)} {f : Str → Option Int} {p z : Str} {t : Int} {b : Addr} {nm : V} (h : KWhy D ws sts nums H kvs f) (v0 : valV kvs (.inr p) = Option.none) (n : f p = Option.none) (hb : H b = some (.tup [.str p, nm, .int t])) (hn : NmV z nm) (wy : Why D ws sts nums f p z t) : KWhy D ws sts nums H (putK kvs (.inr p) (.ref b)) (upd1 f p t) := fun e he => by
  rw [putK_new _ v0] at he
  rcases List.mem_append.mp he with he | he
  · obtain ⟨q, t', b', nm', z', h1, h2, h3, h4⟩ := h e he
    exact ⟨q, t', b', nm', z', h1, h2, h3, h4.upd n⟩
  · rw [List.mem_singleton.mp he]
    exact ⟨p, t, b, nm, z, rfl, hb, hn, wy.upd n⟩
end EV

set_option Elab.async false
set_option linter.all false
set_option maxRecDepth 100000
set_option maxHeartbeats 4000000
namespace EV
open PySem PySem.Spec PyProof.Rows L2 EvS Evl FD EnT
def sp_Question_catches (K : PySem.W.Frag) (C CQ : Addr) : Sp := fun vs H Q _ => ∃ (x nt : Addr) (D : LandD) (ws : List (Int × Str)) (sts bs : List (Str × Int)) (nums : List (List (Option Int))) (ns : List V), vs = [.ref x, .ref nt] ∧ IsQ K C CQ H x D ws sts bs ∧ LandOk D ∧ WOk D ws ∧ StOk D sts ∧ sts.length ≤ 800 ∧
  SqT K H nt ns ∧ DpAll K H ns (nums.map dRow) ∧ NumsOk D nums ∧ ∀ d H' kvs, Ex H H' → H d = none → H' d = some (.dK kvs) → kvs.length ≤ 24 → KOf H' kvs (FP.first (fireN D ws sts bs nums)) → KWhy D ws sts nums H' kvs (FP.first (fireN D ws sts bs nums)) → Q (.ref d) H'
theorem nl_in {K : PySem.W.Frag} {H : Hp} {v : V} {r : Nat × Link} (h : Dp K H v (dNl r)) : ∃ t l, v = .ref t ∧ SqT K H t [.int (r.1 : Nat), .ref l] ∧ ∃ u, SqT K H l [.str r.2.n, .str r.2.o, .str r.2.t, .ref u] := by
  unfold dNl at h
  cases h with
  | tup st al =>
    cases al with
    | cons d1 al =>
      cases al with
      | cons d2 al =>
        cases al
        cases d1
        obtain ⟨t, u, vs, rfl, h1, _, _⟩ := link_in d2
        exact ⟨_, _, rfl, st, u, h1⟩
section
variable {P : Program} {w : World} {K : PySem.W.Frag} {mg : Str → Option Value} {base : Heap} {a : Ad}
theorem G_Question_catches (T : Txt K mg a) : FnOk P w K mg base CX0 2 a.f_Question_catches a.d_Question_catches ["self", "numbers"] (sp_Question_catches K a.C a.C_Question) := by
  refine T.F_Question_catches.ok sc_Question_catches (fun vs H Q E h => ?_) (fun cdv A outer s H vs Q E hr h => ?_)
  · obtain ⟨x, nt, D, ws, sts, bs, nums, ns, rfl, _⟩ := h
    rfl
  · obtain ⟨x, nt, D, ws, sts, bs, nums, ns, rfl, hq, ok, wok, sok, ls, hnt, dns, nok, k⟩ := h
    obtain ⟨dx, l, w, s, b, sp, stp, lv, us, ss, bb, acc, kl, QA⟩ := id hq
    have lss := dps_len QA.ds
    rw [List.length_map] at lss
    have l60 := ok.l60
    have p24 := ok.p24
    let F := fireN D ws sts bs nums
    have fok : FP.Ok F D.ps := fireN_ok ok sok nok
    have el0 : (outL D.ls : Str → Nat → List (Nat × Link)) = outL D.ls := rfl
    refine ⟨_, (pss_cons (ps_setLc (i := 2) (own := [("place", 5), ("minute", 4)]) (g := gTup K 2 (gCons (gName 5) (gCons (gName 4) gNil))) (tt := tYes) rfl sc_Question_catches.nd rfl rfl (sw_true rfl rfl rfl (by decide +kernel)) (pi_list (pe_fld (pv 0) rfl)) (blkOk_by (N := ["self", "numbers", "waiting", "found", "minute", "place", "name", "number", "link", "passed"]) (sc := defScope s_Question_catches) (by decide +kernel)) (fun _ _ _ _ _ => (pg_tup (by rfl) (pgs_cons (pg_name (i := 5) sc_Question_catches.nd rfl (Or.inl rfl)) (pgs_cons (pg_name (i := 4) sc_Question_catches.nd rfl (Or.inl rfl)) pgs_nil)))) (fun _ _ _ _ _ => pts_nil) (fun _ _ _ _ _ => (pe_tup (pa_cons (pv 4) (pa_cons (pv 5) (pa_cons pe_str pa_nil))))))
      (pss_cons (ps_expr (StS.pe_callG (HeapM.call_heapify (EvS.r65 hr)) (by rfl) T.g_heapify (pa_cons (pv 2) pa_nil)))
      (pss_cons (ps_set (i := 3) sc_Question_catches.nd rfl (Or.inl rfl) pe_dnewK)
      (pss_cons (ps_while PassesOwn.never (pt_cmpR op_gt (pe_callB call_len_seq (by rfl) T.z_len PySem.boot_len (pa_cons (pv 2) pa_nil)) pe_int (nomark _)) (pss_cons (ps_asg (StS.pe_callG (HeapM.call_pop (EvS.r65 hr)) (by rfl) T.g_heappop (pa_cons (pv 2) pa_nil)) (pg_tup (by rfl) (pgs_cons (pg_name (i := 4) sc_Question_catches.nd rfl (Or.inl rfl)) (pgs_cons (pg_name (i := 5) sc_Question_catches.nd rfl (Or.inl rfl)) (pgs_cons (pg_name (i := 6) sc_Question_catches.nd rfl (Or.inl rfl)) pgs_nil)))))
        (Evl.pss_cut (ps_if (PW.pt (pw_or (pt_cmp (pc_din (hu_of hr) (pv 5) (pv 3))) (pw_or1 (pt_not (pt_val (pe_meth (pv 0) T.cl_Question T.m_Question_is_ahead (G_Question_is_ahead T) (hr.mono (by decide)) T.B_Question_is_ahead .nil pass0 (pa_cons (pv 4) (pa_cons (pv 5) pa_nil)))))))) (pss_one ps_continue) pss_nil)
        (pss_cons (ps_dput (hu_of hr) (pv 3) (pv 5) (pe_tup (pa_cons (pv 5) (pa_cons (pe_weak (t' := tNm6) (pe_ifExp (pt_cmpR op_eq (pv 6) pe_str (nomark _)) pe_non (pv 6)) (fun σ H Q q => by obtain ⟨z, e, q⟩ := q; exact ⟨_, e, rfl, _, rfl, ite2 (fun h => q _ (.inl ⟨V.str.inj (of_decide_eq_true h), rfl⟩)) (fun h => ⟨_, e, q _ (.inr ⟨fun y => h (by rw [y] <;> exact decide_eq_true rfl), rfl⟩)⟩)⟩)) (pa_cons (pv 4) pa_nil)))) rfl)
        (pss_one (ps_for PassesOwn.never rfl (pi_list (pe_dget (hu_of hr) (pe_fld (pv 0) rfl) (pv 5) (fun _ _ => rfl))) (pg_tup (by rfl) (pgs_cons (pg_name (i := 7) sc_Question_catches.nd rfl (Or.inl rfl)) (pgs_cons (pg_name (i := 8) sc_Question_catches.nd rfl (Or.inl rfl)) pgs_nil))) (pss_cons (ps_set (i := 9) sc_Question_catches.nd rfl (Or.inl rfl) (pe_meth (pv 0) T.cl_Question T.m_Question_through (G_Question_through T) (hr.mono (by decide)) T.B_Question_through .nil pass0 (pa_cons (pe_ix ix_tup (pv 1) (pv 7) (fun _ _ => rfl)) (pa_cons (pv 4) pa_nil))))
          (pss_one (ps_if (pt_cmpR op_notN (pv 9) pe_non (nomark _)) (pss_one (ps_expr (StS.pe_callG (HeapM.call_push (EvS.r65 hr)) (by rfl) T.g_heappush (pa_cons (pv 2) (pa_cons (pe_tup (pa_cons (pv 9) (pa_cons (pe_ix ix_tup (pv 8) pe_int (fun _ _ => rfl)) (pa_cons (pe_ix ix_tup (pv 8) pe_int (fun _ _ => rfl)) pa_nil)))) pa_nil))))) pss_nil)))))))))
      (pss_one (ps_ret (pv 3))))))), ?_⟩
    -- the starts
    refine ⟨_, rfl, x, a.C_Question, dx, _, _, rfl, QA.ob, T.cl_Question, T.na_Question_starts, q_starts .., s, rfl, ⟨_, QA.hs⟩, fun p hp => lcY_list (K := K) (a := s) (xs := ss) (fun i H' => ∃ (Hb : Hp) (rw : Addr → WRow) (ts : List Addr), Ex H Hb ∧ Hb p = none ∧ Ex Hb H' ∧ H' p = some (.lst (ts.map V.ref)) ∧ ts.length = i ∧ (∀ c ∈ ts, Hb c = some (tupW (rw c))) ∧ (∀ e, e ∈ prs rw ts ↔ (e.2, e.1) ∈ sts.take i) ∧ ∀ c ∈ ts, (rw c).2.2 = "") ⟨H, fun _ => (0, "", ""), [], Ex.refl _, hp, Ex.new hp, upd_same, rfl, (fun c hc => by cases hc), (fun e => ⟨(fun z => by cases z), (fun z => by cases z)⟩), fun c hc => by cases hc⟩ (fun i H' _ z => by obtain ⟨Hb, rw, ts, h1, _, h2, _⟩ := z; exact ex_l (h1.trans h2) QA.hs) (fun i y H' hy z => ?_) (fun H1 z => ?_)⟩
    · obtain ⟨Hb, rw, ts, h1, h2, h3, h4, h5, h6, h7, h8⟩ := z
      have hi := (List.getElem?_eq_some_iff.mp hy).1
      obtain ⟨r, hrr, hmr, dp⟩ := pick (dps_ex (h1.trans h3) QA.ds) hy
      obtain ⟨t, rfl, st⟩ := pm_in dp
      refine ⟨t, _, rfl, st, rfl, _, _, rfl, _, _, rfl, rfl, rfl, ?_⟩
      refine ⟨_, rfl, _, rfl, by show 3 ≤ sizeLine; decide, fun u hu => ?_⟩
      have bu : Hb u = none := fresh_back h3 hu
      have pu : p ≠ u := ne_of_none h4 hu
      have un : u ∉ ts := fun z => by
        have := h6 u z
        rw [bu] at this
        cases this
      refine ⟨ts.map V.ref, Ex.new hu _ _ h4, sz_lt (by rw [List.length_map]; omega), upd Hb u (tupW (r.2, r.1, "")), setW rw u (r.2, r.1, ""), ts ++ [u], h1.trans (Ex.new bu), by rw [upd_ne pu]; exact h2, (Ex.up h3).mut (by rw [upd_ne pu]; exact h2), ?_, by rw [List.length_append, h5] <;> rfl, fun c hc => ?_, fun e => ?_, fun c hc => ?_⟩
      · rw [upd_same, List.map_append]
        rfl
      · rcases List.mem_append.mp hc with hc | hc
        · have ne : c ≠ u := fun z => un (by rw [← z]; exact hc)
          rw [upd_ne ne, setW_ne ne]
          exact h6 c hc
        · rw [List.mem_singleton.mp hc, upd_same, setW_at]
      · rw [prs_set (ts := ts) un (List.perm_append_comm (l₁ := ts) (l₂ := [u])), h7, take_one hrr, List.mem_append, List.mem_singleton]
        constructor
        · rintro (z | z)
          · rw [z]
            exact .inr rfl
          · exact .inl z
        · rintro (z | z)
          · exact .inr z
          · exact .inl (by rw [← z])
      · rcases List.mem_append.mp hc with hc | hc
        · have ne : c ≠ u := fun z => un (by rw [← z]; exact hc)
          rw [setW_ne ne]
          exact h8 c hc
        · rw [List.mem_singleton.mp hc, setW_at]
    obtain ⟨Hb, rw, ts, h1, h2, h3, h4, h5, h6, h7, h8⟩ := z
    rw [lss, List.take_length] at h7
    -- heapify
    refine ⟨_, rfl, p, ts, keyW rw, rfl, h4, by omega, fun c hc => ⟨_, _, _, st_of (h3 _ _ (h6 c hc)), rfl⟩, fun ts1 pm hA => ?_⟩
    refine fun d hd => ?_
    have mp1 : (upd H1 p (.lst (ts1.map V.ref))) p = some (.lst (ts1.map V.ref)) := upd_same
    have pd : p ≠ d := ne_of_none mp1 hd
    have bd : Hb d = none := by
      have : H1 d = none := by rw [upd_ne pd.symm] at hd; exact hd
      exact fresh_back h3 this
    have d0 : H d = none := fresh_back h1 bd
    have at0 : HpAt H Hb (upd (upd H1 p (.lst (ts1.map V.ref))) d (.dK [])) p d rw ts1 [] := ⟨h1, h2, bd, (h3.mut h2).trans (Ex.new hd), pd, by rw [upd_ne pd]; exact mp1, upd_same, fun c hc => h6 c (pm.mem_iff.mp hc), hA⟩
    have in0 : FP.DInv F (fun _ => none) (prs rw ts1) := FP.DInv.start fun e => by
      rw [← show (e.2, e.1) ∈ sts ↔ (e.2, e.1) ∈ F.st from Iff.rfl, ← h7]
      exact (pm.map _).mem_iff
    have l1 := pm.length_eq
    have wy0 : ∀ c ∈ ts1, Why D ws sts nums (fun _ => none) (rw c).2.1 (rw c).2.2 (rw c).1 := fun c hc => .inl ⟨h8 c (pm.mem_iff.mp hc), (h7 ((rw c).1, (rw c).2.1)).mp (List.mem_map.mpr ⟨c, pm.mem_iff.mp hc, rfl⟩)⟩
    generalize upd (upd H1 p (.lst (ts1.map V.ref))) d (.dK []) = H2 at at0
    clear h1 h2 h3 h4 h6 h7 hA mp1 hd bd pm
    -- the places
    refine ⟨fun m σ H' => ∃ (v4 v5 v6 v7 v8 v9 : Option V) (Hb : Hp) (rw : Addr → WRow) (ts : List Addr) (kvs : List (Key × V)) (f : Str → Option Int), σ = [some (.ref x), some (.ref nt), some (.ref p), some (.ref d), v4, v5, v6, v7, v8, v9] ∧ HpAt H Hb H' p d rw ts kvs ∧ FP.DInv F f (prs rw ts) ∧ KOf Hb kvs f ∧ kvs.length ≤ fnd D.ps f ∧ ts.length ≤ sts.length + cnt D.ls f ∧ m = ts.length + (D.ls.length - cnt D.ls f) ∧ (∀ c ∈ ts, Why D ws sts nums f (rw c).2.1 (rw c).2.2 (rw c).1) ∧ KWhy D ws sts nums Hb kvs f, ⟨_, none, none, none, none, none, none, Hb, rw, ts1, [], fun _ => none, rfl, at0, in0, ⟨(fun e he => by cases he), (fun q => rfl)⟩, Nat.zero_le _, by omega, rfl, wy0, fun e he => by cases he⟩, ?_⟩
    rintro m σ H3 ⟨v4, v5, v6, v7, v8, v9, Hb, rw, ts, kvs, f, rfl, hat, inv, kof, lk, lt, rfl, wy, kwy⟩
    have lc := cnt_le D.ls f
    refine ⟨_, rfl, p, _, rfl, .inl (SqL.of hat.hp), _, _, rfl, rfl, _, rfl, ?_⟩
    cases ts with
    | nil =>
      refine iteF ?_
      refine ⟨_, rfl, ?_⟩
      have fire := inv.done
      have same := FP.is_first fok fire
      exact k d H3 kvs (hat.b0.trans hat.ex) d0 hat.hd (by have := fnd_le D.ps f; omega) ((kof.same same).ex hat.ex) ((kwy.same same).ex hat.ex)
    | cons c ts =>
      refine ite2 (fun _ => ?_) (fun n => absurd (decide_eq_true (show ((((c :: ts).map V.ref).length : Nat) : Int) > 0 by rw [List.length_map, List.length_cons]; omega)) n)
      refine ⟨_, fun σ' H' h => h, ?_⟩
      rw [List.length_cons] at lt
      have l800 := ok.l60
      -- pop
      refine ⟨_, rfl, p, c, ts, keyW rw, rfl, hat.hp, by omega, hat.rowV, hat.hA, fun ts1 pm hA1 => ?_⟩
      have least : ∀ e ∈ prs rw (c :: ts), (rw c).1 ≤ e.1 := fun e he => by
        obtain ⟨b, hb, rfl⟩ := List.mem_map.mp he
        exact FP.key_le (HeapM.heapA_least hat.hA b hb)
      have hc := hat.row c List.mem_cons_self
      have mem : ((rw c).1, (rw c).2.1) ∈ prs rw (c :: ts) := List.mem_cons_self
      have at1 := hat.popped pm hA1
      have lp := pm.length_eq
      have sub1 : ∀ e ∈ prs rw (c :: ts), e = ((rw c).1, (rw c).2.1) ∨ e ∈ prs rw ts1 := fun e he => by
        rcases List.mem_cons.mp he with z | z
        · exact .inl z
        · exact .inr ((pm.map _).mem_iff.mpr z)
      have sub2 : ∀ e ∈ prs rw ts1, e ∈ prs rw (c :: ts) := fun e he => List.mem_cons_of_mem _ ((pm.map _).mem_iff.mp he)
      generalize upd H3 p (.lst (ts1.map V.ref)) = H4 at at1
      have wyc := wy c List.mem_cons_self
      have wy1 : ∀ c ∈ ts1, Why D ws sts nums f (rw c).2.1 (rw c).2.2 (rw c).1 := fun e he => wy e (List.mem_cons_of_mem _ (pm.mem_iff.mp he))
      generalize hr0 : rw c = r0 at least hc mem sub1 wyc
      obtain ⟨t0, p0, n0⟩ := r0
      have mem : (t0, p0) ∈ prs rw (c :: ts) := mem
      refine ⟨c, _, rfl, st_of (at1.ex _ _ hc), rfl, _, _, rfl, _, _, rfl, _, _, rfl, rfl, ?_⟩
      refine ⟨fun σ H' => σ = [some (.ref x), some (.ref nt), some (.ref p), some (.ref d), some (.int t0), some (.str p0), some (.str n0), v7, v8, v9] ∧ H' = H4 ∧ f p0 = none ∧ FP.ahead (F.stop p0) t0 = true, ?_, ?_⟩
      · have skip : (f p0).isSome = true ∨ FP.ahead (F.stop p0) t0 = false → ∃ m', m' < (c :: ts).length + (D.ls.length - cnt D.ls f) ∧ ∃ (v4 v5 v6 v7' v8' v9' : Option V) (Hb : Hp) (rw : Addr → WRow) (ts : List Addr) (kvs : List (Key × V)) (f : Str → Option Int), [some (V.ref x), some (.ref nt), some (.ref p), some (.ref d), some (.int t0), some (.str p0), some (.str n0), v7, v8, v9] = [some (.ref x), some (.ref nt), some (.ref p), some (.ref d), v4, v5, v6, v7', v8', v9'] ∧ HpAt H Hb H4 p d rw ts kvs ∧ FP.DInv F f (prs rw ts) ∧ KOf Hb kvs f ∧ kvs.length ≤ fnd D.ps f ∧ ts.length ≤ sts.length + cnt D.ls f ∧ m' = ts.length + (D.ls.length - cnt D.ls f) ∧ (∀ c ∈ ts, Why D ws sts nums f (rw c).2.1 (rw c).2.2 (rw c).1) ∧ KWhy D ws sts nums Hb kvs f := fun h =>
          ⟨ts1.length + (D.ls.length - cnt D.ls f), by rw [List.length_cons]; omega, _, _, _, _, _, _, Hb, rw, ts1, kvs, f, rfl, at1, inv.skip mem sub1 sub2 h, kof, lk, by omega, rfl, wy1, kwy⟩
        have g : DGet H4 d (.str p0) (valV kvs (.inr p0)) := DGet.k (k := Sum.inr p0) at1.hd
        refine ⟨_, rfl, _, rfl, d, _, rfl, g, _, rfl, ?_⟩
        rw [kof.2 p0]
        cases hf : f p0 with
        | some u =>
          exact iteT (skip (.inl (by rw [hf] <;> rfl)))
        | none =>
          refine iteF ?_
          have e4 := at1.b0.trans at1.ex
          refine ⟨_, rfl, x, dx, _, rfl, e4 _ _ QA.ob, q_is_ahead .., _, rfl, _, rfl, x, t0, p0, D, ws, sts, bs, rfl, hq.ex e4, _, rfl, ?_⟩
          cases ha : FP.ahead (FP.minOf bs p0) t0 with
          | false => exact iteT (skip (.inr ha))
          | true => exact iteF ⟨rfl, rfl, rfl, ha⟩
      rintro σ H' ⟨rfl, rfl, hf, ah⟩
      have re := inv.ws _ mem ah
      obtain ⟨m0, pin⟩ := re.nn fok
      refine ⟨_, rfl, n0, rfl, fun nm hnm => ⟨_, rfl, by show 3 ≤ sizeLine; decide, fun u hu => ?_⟩⟩
      have hd4 := Ex.new (o := .tup [.str p0, nm, .int t0]) hu _ _ at1.hd
      have fl := fnd_le D.ps f
      refine ⟨_, rfl, _, rfl, d, _, rfl, DPut.k (k := Sum.inr p0) hd4 (sz_lt (by omega)), ?_⟩
      have at2 : HpAt H (upd Hb u (.tup [.str p0, nm, .int t0])) (upd (upd H' u (.tup [.str p0, nm, .int t0])) d (.dK (putK kvs (Sum.inr p0) (V.ref u)))) p d rw ts1 (putK kvs (Sum.inr p0) (V.ref u)) := at1.put hu
      have kof2 := (kof.ex (Ex.new (o := .tup [.str p0, nm, .int t0]) (fresh_back at1.ex hu))).put hf upd_same
      have kwy2 := (kwy.ex (Ex.new (o := .tup [.str p0, nm, .int t0]) (fresh_back at1.ex hu))).put (kof.none hf) hf upd_same hnm wyc
      have lk2 : (putK kvs (Sum.inr p0) (V.ref u)).length ≤ fnd D.ps (upd1 f p0 t0) := by
        have h1 := length_putK kvs (Sum.inr p0) (V.ref u)
        have h2 := (fnd_upd (t := t0) hf D.ps).2 pin
        omega
      generalize putK kvs (Sum.inr p0) (V.ref u) = kvs2 at at2 kof2 lk2 kwy2
      generalize upd (upd H' u (.tup [.str p0, nm, .int t0])) d (.dK kvs2) = H5 at at2
      generalize upd Hb u (.tup [.str p0, nm, .int t0]) = Hb2 at at2 kof2 kwy2
      clear hd4 at1
      have e5 := at2.b0.trans at2.ex
      obtain ⟨cc, ys, hcc, hys, dys⟩ := QA.lk p0 pin
      have gL : DGet H5 lv (.str p0) (valV kl (.inr p0)) := DGet.k (k := Sum.inr p0) (e5 _ _ QA.lv)
      rw [hcc] at gL
      have ly := dps_len dys
      rw [List.length_map] at ly
      have lcount : ys.length = (D.ls.filter fun k => decide (k.o = p0)).length := by
        rw [ly, outL_cnt D.ls p0 D.ls.length (Nat.le_refl _), List.take_length]
      have lc2 := cnt_upd (t := t0) hf D.ls
      have lc3 := cnt_le D.ls (upd1 f p0 t0)
      refine ⟨_, rfl, x, a.C_Question, dx, _, _, rfl, e5 _ _ QA.ob, T.cl_Question, T.na_Question_leaving, q_leaving .., _, rfl, lv, _, rfl, gL, cc, rfl, ⟨_, ex_l e5 hys⟩, for_list (K := K) (a := cc) (xs := ys) (fun j σ H' => ∃ (v7 v8 v9 : Option V) (Hb' : Hp) (rw' : Addr → WRow) (ts' : List Addr), σ = [some (.ref x), some (.ref nt), some (.ref p), some (.ref d), some (.int t0), some (.str p0), some (.str n0), v7, v8, v9] ∧ Ex Hb2 Hb' ∧ HpAt H Hb' H' p d rw' ts' kvs2 ∧ ts'.length ≤ ts1.length + j ∧
        (∀ e ∈ prs rw' ts', e ∈ prs rw ts1 ∨ ∃ r ∈ (outL D.ls p0 D.ls.length).take j, ∃ row, nums[r.1]? = some row ∧ FP.thr (wt D ws) row t0 = some e.1 ∧ e.2 = r.2.t) ∧ (∀ e ∈ prs rw ts1, e ∈ prs rw' ts') ∧ (∀ r ∈ (outL D.ls p0 D.ls.length).take j, ∀ row, nums[r.1]? = some row → ∀ t', FP.thr (wt D ws) row t0 = some t' → (t', r.2.t) ∈ prs rw' ts') ∧ (∀ c ∈ ts', Why D ws sts nums (upd1 f p0 t0) (rw' c).2.1 (rw' c).2.2 (rw' c).1)) ⟨v7, v8, v9, Hb2, rw, ts1, rfl, Ex.refl _, at2, Nat.le_refl _, (fun e he => .inl he), (fun e he => he), (fun r hr => by cases hr), fun c hc => (wy1 c hc).upd hf⟩ (fun i σ H' _ z => by obtain ⟨_, _, _, Hb', rw', ts', _, _, h3, _⟩ := z; exact ex_l (h3.b0.trans h3.ex) hys) (fun j y σ H' hy z => ?_) (fun σ H' z => ?_)⟩
      · obtain ⟨v7, v8, v9, Hb', rw', ts', rfl, xb, at3, l3, i1, i2, i3, wy3⟩ := z
        have e6 := at3.b0.trans at3.ex
        have hj := (List.getElem?_eq_some_iff.mp hy).1
        obtain ⟨r, hrr, hmr, dp⟩ := pick (dps_ex e6 dys) hy
        obtain ⟨t, l', rfl, st, uu, stl⟩ := nl_in dp
        obtain ⟨jn, kq⟩ := r
        obtain ⟨jl, hkq, ko⟩ := outL_mem.mp hmr
        have nl := nok.len
        obtain ⟨row, hrow⟩ : ∃ row, nums[jn]? = some row := ⟨_, List.getElem?_eq_getElem (by omega)⟩
        obtain ⟨rl, rok⟩ := nok.row row (List.mem_of_getElem? hrow)
        obtain ⟨rv, hrv, drv⟩ := pick_i (dps_ex e6 dns) hrow
        obtain ⟨rr, rfl, srr⟩ := row_in drv
        refine ⟨t, _, rfl, st, rfl, _, _, rfl, _, _, rfl, rfl, ?_⟩
        refine ⟨_, rfl, x, dx, _, rfl, e6 _ _ QA.ob, q_through .., _, rfl, _, rfl, nt, _, _, _, rfl, rfl, ex_t e6 hnt, atI_nat hrv, _, rfl, x, rr, t0, D, ws, sts, bs, row, rfl, hq.ex e6, srr, rl, rok, wok, m0, ?_⟩
        refine ⟨_, rfl, ?_⟩
        have tk := take_one hrr
        cases hth : FP.thr (wt D ws) row t0 with
        | none =>
          refine ⟨rfl, _, rfl, iteF ⟨_, _, _, Hb', rw', ts', rfl, xb, at3, by omega, fun e he => ?_, i2, fun q hq row' hrow' t' ht' => ?_, wy3⟩⟩
          · rcases i1 e he with z | ⟨q, hq, z⟩
            · exact .inl z
            · exact .inr ⟨q, by rw [tk]; exact List.mem_append_left _ hq, z⟩
          · rw [tk] at hq
            rcases List.mem_append.mp hq with hq | hq
            · exact i3 q hq row' hrow' t' ht'
            · rw [List.mem_singleton.mp hq] at hrow'
              rw [show row' = row from Option.some.inj (hrow'.symm.trans hrow), hth] at ht'
              cases ht'
        | some tp =>
          refine ⟨rfl, _, rfl, iteT ?_⟩
          refine ⟨_, rfl, _, rfl, _, rfl, l', _, _, _, rfl, rfl, stl, atI_nat (j := 2) rfl, _, rfl, l', _, _, _, rfl, rfl, stl, atI_nat (j := 0) rfl, by show 3 ≤ sizeLine; decide, fun u1 hu1 => ?_⟩
          have hp1 := Ex.new (o := tupW (tp, kq.t, kq.n)) hu1 _ _ at3.hp
          refine ⟨p, u1, ts', keyW (setW rw' u1 (tp, kq.t, kq.n)), rfl, hp1, by omega, at3.rowV2 (r := (tp, kq.t, kq.n)) hu1, at3.keyA hu1, fun ts2 pm2 hA2 => ?_⟩
          have un := at3.notin hu1
          have mm : ∀ {e : Int × Str}, e ∈ prs (setW rw' u1 (tp, kq.t, kq.n)) ts2 ↔ e = (tp, kq.t) ∨ e ∈ prs rw' ts' := fun {e} => prs_set un pm2
          have l2 := pm2.length_eq
          rw [List.length_cons] at l2
          refine ⟨_, _, _, upd Hb' u1 (tupW (tp, kq.t, kq.n)), setW rw' u1 (tp, kq.t, kq.n), ts2, rfl, xb.trans (Ex.new (fresh_back at3.ex hu1)), at3.pushed hu1 pm2 hA2, by omega, fun e he => ?_, fun e he => mm.mpr (.inr (i2 e he)), fun q hq row' hrow' t' ht' => ?_, fun c hc => ?_⟩
          · rcases mm.mp he with z | z
            · rw [z]
              exact .inr ⟨(jn, kq), by rw [tk]; exact List.mem_append_right _ List.mem_cons_self, row, hrow, hth, rfl⟩
            · rcases i1 e z with z | ⟨q, hq, z⟩
              · exact .inl z
              · exact .inr ⟨q, by rw [tk]; exact List.mem_append_left _ hq, z⟩
          · rw [tk] at hq
            rcases List.mem_append.mp hq with hq | hq
            · exact mm.mpr (.inr (i3 q hq row' hrow' t' ht'))
            · have eq := List.mem_singleton.mp hq
              rw [eq] at hrow' ⊢
              rw [show row' = row from Option.some.inj (hrow'.symm.trans hrow), hth] at ht'
              rw [← Option.some.inj ht']
              exact mm.mpr (.inl rfl)
          · by_cases e : c = u1
            · rw [e, setW_at]
              exact .inr ⟨jn, kq, row, t0, hkq, hrow, rfl, rfl, if_pos ko, hth⟩
            · rw [setW_ne e]
              rcases List.mem_cons.mp (pm2.mem_iff.mp hc) with h | h
              · exact absurd h e
              · exact wy3 c h
      · obtain ⟨v7, v8, v9, Hb', rw', ts', rfl, xb, at3, l3, i1, i2, i3, wy3⟩ := z
        rw [ly, List.take_length] at i1 i3
        have inv2 : FP.DInv F (upd1 f p0 t0) (prs rw' ts') := FP.DInv.find fok.rows inv mem sub1 sub2 least hf ah (fun e he => by
          rcases i1 e he with z | ⟨⟨jn, kq⟩, hm, row, h1, h2, h3⟩
          · exact .inl z
          · obtain ⟨_, h4, h5⟩ := outL_mem.mp hm
            exact .inr ⟨lkN kq row, zip_mem.mpr ⟨jn, kq, row, h4, h1, rfl⟩, h5, h2, h3⟩) i2 (fun lk0 hl0 ho t' ht' => by
          obtain ⟨jn, kq, row, h1, h2, rfl⟩ := zip_mem.mp hl0
          exact i3 (jn, kq) (outL_mem.mpr ⟨(List.getElem?_eq_some_iff.mp h1).1, h1, ho⟩) row h2 t' ht')
        exact ⟨ts'.length + (D.ls.length - cnt D.ls (upd1 f p0 t0)), by rw [List.length_cons]; omega, _, _, _, _, _, _, Hb', rw', ts', kvs2, upd1 f p0 t0, rfl, at3, inv2, kof2.ex xb, lk2, by omega, rfl, wy3, kwy2.ex xb⟩
end
end EV

set_option Elab.async false
set_option linter.all false
set_option maxRecDepth 100000
set_option maxHeartbeats 4000000
namespace EV
open PySem PySem.Spec PyProof.Rows L2 EvS Evl FD EnT
def sp_Question_first_minutes (K : PySem.W.Frag) (C CQ : Addr) : Sp := fun vs H Q _ => ∃ (x nt : Addr) (D : LandD) (ws : List (Int × Str)) (sts bs : List (Str × Int)) (nums : List (List (Option Int))) (ns : List V), vs = [.ref x, .ref nt] ∧ IsQ K C CQ H x D ws sts bs ∧ LandOk D ∧ WOk D ws ∧ StOk D sts ∧ sts.length ≤ 800 ∧
  SqT K H nt ns ∧ DpAll K H ns (nums.map dRow) ∧ NumsOk D nums ∧ ∀ d H', Ex H H' → H d = none → Tab H' d (FP.first (fireN D ws sts bs nums)) → Q (.ref d) H'
def numsS (s : Nat) (D : LandD) : List (List (Option Int)) := D.ls.map fun k => k.ts.map (sideN s)
theorem numsS_ok {D : LandD} (ok : LandOk D) (s : Nat) : NumsOk D (numsS s D) where
  len := List.length_map ..
  row := fun row h => by
    obtain ⟨k, hk, rfl⟩ := List.mem_map.mp h
    refine ⟨by rw [List.length_map]; exact (ok.lk k hk).len, fun x hx => ?_⟩
    obtain ⟨b, hb, e⟩ := List.mem_map.mp hx
    cases b with
    | none => cases e
    | some b =>
      unfold sideN at e
      obtain rfl := Option.some.inj e
      obtain ⟨h1, h2, h3⟩ := (ok.lk k hk).ok _ hb
      split
      · exact h1
      · exact Int.le_trans h1 h2
theorem zip_numsS (s : Nat) : ∀ ls : List Link, List.zipWith lkN ls (ls.map fun k => k.ts.map (sideN s)) = ls.map (lkS s)
  | [] => rfl
  | k :: ls => by
    rw [List.map_cons, List.zipWith_cons_cons, zip_numsS s ls]
    rfl
theorem fireN_S (D : LandD) (ws : List (Int × Str)) (sts bs : List (Str × Int)) (s : Nat) : fireN D ws sts bs (numsS s D) = fireOf D ws sts bs s := by
  unfold fireN fireOf numsS
  rw [zip_numsS]
def spNums (s : Nat) (K : PySem.W.Frag) (C : Addr) : Sp := fun vs H Q _ => ∃ (l : Addr) (D : LandD), vs = [.ref l] ∧ IsLand K C H l D ∧ LandOk D ∧ ∀ H' nt ns, Ex H H' → H nt = none → SqT K H' nt ns → DpAll K H' ns ((numsS s D).map dRow) → Q (.ref nt) H'
def sp_least_numbers (K : PySem.W.Frag) (C : Addr) : Sp := spNums 0 K C
def sp_most_numbers (K : PySem.W.Frag) (C : Addr) : Sp := spNums 1 K C
theorem frozen_row (row : List (Option Int)) : frozen (dRow row) = true := by
  unfold dRow
  rw [frozen]
  exact frozenAll_of fun d hd => by
    obtain ⟨b, _, rfl⟩ := List.mem_map.mp hd
    exact frozen_opt b
theorem dps_opt {K : PySem.W.Frag} {H : Hp} : ∀ row : List (Option Int), DpAll K H (row.map vInt) (row.map dOpt)
  | [] => .nil
  | o :: row => .cons (dp_opt o) (dps_opt row)
section
variable {P : Program} {w : World} {K : PySem.W.Frag} {mg : Str → Option Value} {base : Heap} {a : Ad}
theorem G_least_numbers (T : Txt K mg a) : FnOk P w K mg base CX0 1 a.f_least_numbers a.d_least_numbers ["land"] (sp_least_numbers K a.C) := by
  refine T.F_least_numbers.ok sc_least_numbers (fun vs H Q E h => ?_) (fun cdv A outer s H vs Q E hr h => ?_)
  · obtain ⟨l, D, rfl, _⟩ := h
    rfl
  · obtain ⟨l, D, rfl, hl, ok, k⟩ := h
    obtain ⟨dxl, wi, pl, li, pa, rows, prs, L⟩ := hl
    have lr := dps_len L.ls
    rw [List.length_map] at lr
    have l60 := ok.l60
    have w4 := ok.w4
    refine ⟨_, (pss_one (ps_ret (pe_callTy call_tupK (by rfl) T.z_tuple (by decide +kernel) (pa_cons (pe_lc (own := [("link", 1)]) (g := gName 1) (tt := tYes) rfl sc_least_numbers.nd (pi_tup (pe_fld (pv 0) rfl)) (blkOk_by (N := ["land", "link", "bounds"]) (sc := defScope s_least_numbers) (by decide +kernel)) (fun _ _ _ _ _ => pg_name (i := 1) sc_least_numbers.nd rfl (Or.inl rfl)) (fun _ _ _ _ _ => pts_nil) (fun _ _ _ _ _ => (pe_callTy (show CallR _ _ (rTupK K) from call_tupK) (by rfl) T.z_tuple (by decide +kernel) (pa_cons (pe_lc (own := [("bounds", 2)]) (g := gName 2) (tt := tYes) rfl sc_least_numbers.nd (show PI _ _ _ (iTup K (tOp (rIxT K) (tVar 1) (tC (.int 3)))) from (pi_tup (pe_ix (show IxR _ (rIxT K) from ix_tup) (pv 1) pe_int (fun _ _ => rfl)))) (EvS.blkOk_nest (N := ["land", "link", "bounds"]) (sc := defScope s_least_numbers) rfl rfl (by decide +kernel)) (fun _ _ _ _ _ => pg_name (i := 2) sc_least_numbers.nd rfl (Or.inl rfl)) (fun _ _ _ _ _ => pts_nil) (fun _ _ _ _ _ => (pe_ifExp (pt_cmpR op_isN (pv 2) pe_non (nomark _)) pe_non (pe_ix (show IxR _ (rIxT K) from ix_tup) (pv 2) pe_int (fun _ _ => rfl))))) pa_nil)))) pa_nil)))), ?_⟩
    refine ⟨_, rfl, l, a.C, dxl, _, _, rfl, L.ob, T.cl, T.nL, fs_links .., li, rfl, ⟨_, L.li⟩, fun D0 hD => lcY_tup (K := K) (a := li) (xs := rows) (fun i H' => Ex H H' ∧ ∃ acc, H' D0 = some (.lst acc) ∧ acc.length = i ∧ DpAll K (del H' D0) acc (((numsS 0 D).take i).map dRow)) ⟨Ex.new hD, [], upd_same, rfl, .nil⟩ (fun i H' _ z => ex_t z.1 L.li) (fun i y H' hy z => ?_) (fun H2 z => ?_)⟩
    · obtain ⟨e, acc, ha, la, da⟩ := z
      have hi := (List.getElem?_eq_some_iff.mp hy).1
      obtain ⟨q, hq, hm, dp⟩ := pick (dps_ex e L.ls) hy
      obtain ⟨t, u, vs, rfl, hT, hU, hts⟩ := link_in dp
      have lv := dps_len hts
      rw [List.length_map] at lv
      have lkt := (ok.lk q hm).len
      have nq : (numsS 0 D)[i]? = some (q.ts.map (sideN 0)) := by unfold numsS; rw [List.getElem?_map, hq]; rfl
      refine ⟨rfl, _, rfl, t, _, _, _, rfl, rfl, hT, atI_nat (j := 3) rfl, u, rfl, ⟨_, hU⟩, fun D1 hD1 => lcY_tup (K := K) (a := u) (xs := vs) (fun j H2 => Ex H' H2 ∧ H2 D1 = some (.lst (((q.ts.take j).map (sideN 0)).map vInt))) ⟨Ex.new hD1, upd_same⟩ (fun j H2 _ z => ex_t z.1 hU) (fun j y2 H2 hy2 z => ?_) (fun H2 z => ?_)⟩
      · obtain ⟨e2, h1⟩ := z
        have hj := (List.getElem?_eq_some_iff.mp hy2).1
        obtain ⟨bn, hbn, _, db⟩ := pick (dps_ex e2 hts) hy2
        have nx : ∀ {v : V}, v = vInt (sideN 0 bn) → ∃ acc, H2 D1 = some (.lst acc) ∧ acc.length < sizeLine ∧ Ex H' (upd H2 D1 (.lst (acc ++ [v]))) ∧ (upd H2 D1 (.lst (acc ++ [v]))) D1 = some (.lst (((q.ts.take (j + 1)).map (sideN 0)).map vInt)) := fun {v} ev =>
          ⟨_, h1, sz_lt (by simp only [List.length_map, List.length_take]; omega), e2.mut hD1, by rw [upd_same, take_one hbn, List.map_append, List.map_append, ev]; rfl⟩
        refine ⟨rfl, _, rfl, ?_⟩
        cases bn with
        | none =>
          cases db
          exact ⟨rfl, _, rfl, iteT (nx rfl)⟩
        | some bn =>
          cases db with
          | @tup z _ _ hz hr =>
            cases hr with
            | cons a1 hr =>
              cases a1
              cases hr with
              | cons a2 hr =>
                cases a2
                cases hr
                exact ⟨rfl, _, rfl, iteF ⟨_, rfl, z, _, _, _, rfl, rfl, hz, atI_nat (j := 0) rfl, nx rfl⟩⟩
      obtain ⟨e2, h1⟩ := z
      rw [lv, List.take_length] at h1
      have ha2 := e2 _ _ ha
      refine ⟨D1, _, rfl, .inl ⟨SqL.of h1, fun tl htl => ?_⟩⟩
      have e3 := e2.trans (Ex.new (o := .tup ((q.ts.map (sideN 0)).map vInt)) htl)
      have tD : tl ≠ D0 := fun z => by rw [z, ha2] at htl; cases htl
      refine ⟨acc, e3 _ _ ha, sz_lt (by omega), (e.trans e3).mut hD, _, upd_same, by rw [List.length_append, la] <;> rfl, ?_⟩
      rw [del_upd, take_one nq, List.map_append]
      exact dps_app (dps_ex (ex_del e3) da) (dps_one (.tup (st_of (del_at tD upd_same)) (dps_opt _)))
    · obtain ⟨e, acc, ha, la, da⟩ := z
      have ln : (numsS 0 D).length = rows.length := by unfold numsS; rw [List.length_map, lr]
      rw [← ln, List.take_length] at da
      refine ⟨D0, acc, rfl, .inl ⟨SqL.of ha, fun nt hnt => ?_⟩⟩
      exact k _ nt acc (e.trans (Ex.new hnt)) (fresh_back e hnt) (st_of upd_same) (dps_ex (del_ex.trans (Ex.new hnt)) da)
theorem G_most_numbers (T : Txt K mg a) : FnOk P w K mg base CX0 1 a.f_most_numbers a.d_most_numbers ["land"] (sp_most_numbers K a.C) := by
  refine T.F_most_numbers.ok sc_most_numbers (fun vs H Q E h => ?_) (fun cdv A outer s H vs Q E hr h => ?_)
  · obtain ⟨l, D, rfl, _⟩ := h
    rfl
  · obtain ⟨l, D, rfl, hl, ok, k⟩ := h
    obtain ⟨dxl, wi, pl, li, pa, rows, prs, L⟩ := hl
    have lr := dps_len L.ls
    rw [List.length_map] at lr
    have l60 := ok.l60
    have w4 := ok.w4
    refine ⟨_, (pss_one (ps_ret (pe_callTy call_tupK (by rfl) T.z_tuple (by decide +kernel) (pa_cons (pe_lc (own := [("link", 1)]) (g := gName 1) (tt := tYes) rfl sc_most_numbers.nd (pi_tup (pe_fld (pv 0) rfl)) (blkOk_by (N := ["land", "link", "bounds"]) (sc := defScope s_most_numbers) (by decide +kernel)) (fun _ _ _ _ _ => pg_name (i := 1) sc_most_numbers.nd rfl (Or.inl rfl)) (fun _ _ _ _ _ => pts_nil) (fun _ _ _ _ _ => (pe_callTy (show CallR _ _ (rTupK K) from call_tupK) (by rfl) T.z_tuple (by decide +kernel) (pa_cons (pe_lc (own := [("bounds", 2)]) (g := gName 2) (tt := tYes) rfl sc_most_numbers.nd (show PI _ _ _ (iTup K (tOp (rIxT K) (tVar 1) (tC (.int 3)))) from (pi_tup (pe_ix (show IxR _ (rIxT K) from ix_tup) (pv 1) pe_int (fun _ _ => rfl)))) (EvS.blkOk_nest (N := ["land", "link", "bounds"]) (sc := defScope s_most_numbers) rfl rfl (by decide +kernel)) (fun _ _ _ _ _ => pg_name (i := 2) sc_most_numbers.nd rfl (Or.inl rfl)) (fun _ _ _ _ _ => pts_nil) (fun _ _ _ _ _ => (pe_ifExp (pt_cmpR op_isN (pv 2) pe_non (nomark _)) pe_non (pe_ix (show IxR _ (rIxT K) from ix_tup) (pv 2) pe_int (fun _ _ => rfl))))) pa_nil)))) pa_nil)))), ?_⟩
    refine ⟨_, rfl, l, a.C, dxl, _, _, rfl, L.ob, T.cl, T.nL, fs_links .., li, rfl, ⟨_, L.li⟩, fun D0 hD => lcY_tup (K := K) (a := li) (xs := rows) (fun i H' => Ex H H' ∧ ∃ acc, H' D0 = some (.lst acc) ∧ acc.length = i ∧ DpAll K (del H' D0) acc (((numsS 1 D).take i).map dRow)) ⟨Ex.new hD, [], upd_same, rfl, .nil⟩ (fun i H' _ z => ex_t z.1 L.li) (fun i y H' hy z => ?_) (fun H2 z => ?_)⟩
    · obtain ⟨e, acc, ha, la, da⟩ := z
      have hi := (List.getElem?_eq_some_iff.mp hy).1
      obtain ⟨q, hq, hm, dp⟩ := pick (dps_ex e L.ls) hy
      obtain ⟨t, u, vs, rfl, hT, hU, hts⟩ := link_in dp
      have lv := dps_len hts
      rw [List.length_map] at lv
      have lkt := (ok.lk q hm).len
      have nq : (numsS 1 D)[i]? = some (q.ts.map (sideN 1)) := by unfold numsS; rw [List.getElem?_map, hq]; rfl
      refine ⟨rfl, _, rfl, t, _, _, _, rfl, rfl, hT, atI_nat (j := 3) rfl, u, rfl, ⟨_, hU⟩, fun D1 hD1 => lcY_tup (K := K) (a := u) (xs := vs) (fun j H2 => Ex H' H2 ∧ H2 D1 = some (.lst (((q.ts.take j).map (sideN 1)).map vInt))) ⟨Ex.new hD1, upd_same⟩ (fun j H2 _ z => ex_t z.1 hU) (fun j y2 H2 hy2 z => ?_) (fun H2 z => ?_)⟩
      · obtain ⟨e2, h1⟩ := z
        have hj := (List.getElem?_eq_some_iff.mp hy2).1
        obtain ⟨bn, hbn, _, db⟩ := pick (dps_ex e2 hts) hy2
        have nx : ∀ {v : V}, v = vInt (sideN 1 bn) → ∃ acc, H2 D1 = some (.lst acc) ∧ acc.length < sizeLine ∧ Ex H' (upd H2 D1 (.lst (acc ++ [v]))) ∧ (upd H2 D1 (.lst (acc ++ [v]))) D1 = some (.lst (((q.ts.take (j + 1)).map (sideN 1)).map vInt)) := fun {v} ev =>
          ⟨_, h1, sz_lt (by simp only [List.length_map, List.length_take]; omega), e2.mut hD1, by rw [upd_same, take_one hbn, List.map_append, List.map_append, ev]; rfl⟩
        refine ⟨rfl, _, rfl, ?_⟩
        cases bn with
        | none =>
          cases db
          exact ⟨rfl, _, rfl, iteT (nx rfl)⟩
        | some bn =>
          cases db with
          | @tup z _ _ hz hr =>
            cases hr with
            | cons a1 hr =>
              cases a1
              cases hr with
              | cons a2 hr =>
                cases a2
                cases hr
                exact ⟨rfl, _, rfl, iteF ⟨_, rfl, z, _, _, _, rfl, rfl, hz, atI_nat (j := 1) rfl, nx rfl⟩⟩
      obtain ⟨e2, h1⟩ := z
      rw [lv, List.take_length] at h1
      have ha2 := e2 _ _ ha
      refine ⟨D1, _, rfl, .inl ⟨SqL.of h1, fun tl htl => ?_⟩⟩
      have e3 := e2.trans (Ex.new (o := .tup ((q.ts.map (sideN 1)).map vInt)) htl)
      have tD : tl ≠ D0 := fun z => by rw [z, ha2] at htl; cases htl
      refine ⟨acc, e3 _ _ ha, sz_lt (by omega), (e.trans e3).mut hD, _, upd_same, by rw [List.length_append, la] <;> rfl, ?_⟩
      rw [del_upd, take_one nq, List.map_append]
      exact dps_app (dps_ex (ex_del e3) da) (dps_one (.tup (st_of (del_at tD upd_same)) (dps_opt _)))
    · obtain ⟨e, acc, ha, la, da⟩ := z
      have ln : (numsS 1 D).length = rows.length := by unfold numsS; rw [List.length_map, lr]
      rw [← ln, List.take_length] at da
      refine ⟨D0, acc, rfl, .inl ⟨SqL.of ha, fun nt hnt => ?_⟩⟩
      exact k _ nt acc (e.trans (Ex.new hnt)) (fresh_back e hnt) (st_of upd_same) (dps_ex (del_ex.trans (Ex.new hnt)) da)
end
end EV

set_option Elab.async false
set_option linter.all false
set_option maxRecDepth 100000
set_option maxHeartbeats 4000000
namespace EV
open PySem PySem.Spec PyProof.Rows L2 EvS Evl FD EnT
def WsAt (K : PySem.W.Frag) (H : Hp) (D : LandD) (wvs : List V) (wss : List (List (Int × Str))) : Prop := wvs.length = wss.length ∧ ∀ (i : Nat) (v : V), wvs[i]? = some v → ∃ (w : Addr) (us : List V) (ws : List (Int × Str)), v = .ref w ∧ wss[i]? = some ws ∧ SqL K H w us ∧ DpAll K H us (ws.map dWr) ∧ WOk D ws
def QsAt (K : PySem.W.Frag) (C CQ : Addr) (H : Hp) (D : LandD) (qs : List V) (wss : List (List (Int × Str))) (sts bs : List (Str × Int)) : Prop := qs.length = wss.length ∧ ∀ (i : Nat) (ws : List (Int × Str)), wss[i]? = some ws → ∃ x : Addr, qs[i]? = some (.ref x) ∧ IsQ K C CQ H x D ws sts bs
def PmIn (D : LandD) (rs : List (Str × Int)) : Prop := ∀ r ∈ rs, r.1 ∈ D.ps
def sp_ask_all (K : PySem.W.Frag) (C CQ : Addr) : Sp := fun vs H Q _ => ∃ (l W s b pl : Addr) (D : LandD) (wss : List (List (Int × Str))) (wvs : List V) (sts bs : List (Str × Int)) (ss bb : List V) (pq : List Str), vs = [.ref l, .ref W, .ref s, .ref b, .ref pl] ∧ IsLand K C H l D ∧ LandOk D ∧ SqL K H W wvs ∧ WsAt K H D wvs wss ∧ 1 ≤ wss.length ∧ wss.length ≤ 1000 ∧
  SqL K H s ss ∧ DpAll K H ss (sts.map dPm) ∧ sts.length ≤ 1000 ∧ PmIn D sts ∧ SqL K H b bb ∧ DpAll K H bb (bs.map dPm) ∧ bs.length ≤ 1000 ∧ PmIn D bs ∧ (SqL K H pl (pq.map V.str) ∨ SqT K H pl (pq.map V.str)) ∧ (∀ q ∈ pq, q ∈ D.ps) ∧
  ∀ H' o qs, Ex H H' → H o = none → H' o = some (.lst qs) → QsAt K C CQ H' D qs wss sts bs → Q (.ref o) H'
def sp_ask (K : PySem.W.Frag) (C CQ : Addr) : Sp := fun vs H Q _ => ∃ (l w s b pl : Addr) (D : LandD) (ws : List (Int × Str)) (us : List V) (sts bs : List (Str × Int)) (ss bb : List V) (pq : List Str), vs = [.ref l, .ref w, .ref s, .ref b, .ref pl] ∧ IsLand K C H l D ∧ LandOk D ∧ SqL K H w us ∧ DpAll K H us (ws.map dWr) ∧ WOk D ws ∧
  SqL K H s ss ∧ DpAll K H ss (sts.map dPm) ∧ sts.length ≤ 1000 ∧ PmIn D sts ∧ SqL K H b bb ∧ DpAll K H bb (bs.map dPm) ∧ bs.length ≤ 1000 ∧ PmIn D bs ∧ (SqL K H pl (pq.map V.str) ∨ SqT K H pl (pq.map V.str)) ∧ (∀ q ∈ pq, q ∈ D.ps) ∧
  ∀ H' x, Ex H H' → IsQ K C CQ H' x D ws sts bs → Q (.ref x) H'
section
variable {P : Program} {w : World} {K : PySem.W.Frag} {mg : Str → Option Value} {base : Heap} {a : Ad}
theorem G_ask_all (T : Txt K mg a) : FnOk P w K mg base CX0 4 a.f_ask_all a.d_ask_all ["land", "weathers", "starts", "breaks", "places"] (sp_ask_all K a.C a.C_Question) := by
  refine T.F_ask_all.ok sc_ask_all (fun vs H Q E h => ?_) (fun cdv A outer s H vs Q E hr h => ?_)
  · obtain ⟨l, W, s, b, pl, D, wss, wvs, sts, bs, ss, bb, pq, rfl, _⟩ := h
    rfl
  · obtain ⟨l, W, s, b, pl, D, wss, wvs, sts, bs, ss, bb, pq, rfl, hl, ok, hW, hws, l1, lw, hs, ds, ls, is, hb, db, lb, ib, hpl, ipl, k⟩ := h
    obtain ⟨dxl, wi, pa1, li, pa, rows, prs, L⟩ := id hl
    obtain ⟨lww, hws⟩ := hws
    have lss := dps_len ds
    rw [List.length_map] at lss
    have lbb := dps_len db
    rw [List.length_map] at lbb
    refine ⟨_, PSs.nox ((pss_cons (ps_for PassesOwn.never rfl (pi_list (pv 1)) (pg_name (i := 5) sc_ask_all.nd rfl (Or.inl rfl)) (pss_one (ps_expr (pe_call (G_check_winds T) (hr.mono (by decide)) (by rfl) T.g_check_winds T.k_check_winds T.B_check_winds .nil pass0 (pa_cons (pv 0) (pa_cons (pv 5) pa_nil))))))
      (pss_cons (ps_for PassesOwn.never rfl (pi_list (pe_lst (StX.pa_star (pv 2) (StX.pa_star (pv 3) pa_nil)))) (pg_tup (by rfl) (pgs_cons (pg_name (i := 6) sc_ask_all.nd rfl (Or.inl rfl)) (pgs_cons (pg_name (i := 7) sc_ask_all.nd rfl (Or.inl rfl)) pgs_nil))) (pss_one (ps_expr (pe_meth (pv 0) T.cl T.m_check_place (G_check_place T) (hr.mono (by decide)) T.B_check_place .nil pass0 (pa_cons (pv 6) pa_nil)))))
      (Evl.pss_cut (ps_for PassesOwn.never rfl (pi_or (pi_list (pv 4)) (pi_tup (pv 4))) (pg_name (i := 6) sc_ask_all.nd rfl (Or.inl rfl)) (pss_one (ps_expr (pe_meth (pv 0) T.cl T.m_check_place (G_check_place T) (hr.mono (by decide)) T.B_check_place .nil pass0 (pa_cons (pv 6) pa_nil)))))
      (pss_cons (ps_for PassesOwn.never rfl (pi_list (pv 1)) (pg_name (i := 5) sc_ask_all.nd rfl (Or.inl rfl)) (pss_one (ps_expr (pe_call (G_check_rows T) (hr.mono (by decide)) (by rfl) T.g_check_rows T.k_check_rows T.B_check_rows .nil pass0 (pa_cons (pv 5) pa_nil)))))
      (pss_cons (ps_if (pt_cmpR op_eq (pe_callB call_len_seq (by rfl) T.z_len PySem.boot_len (pa_cons (pv 1) pa_nil)) pe_int (nomark _)) pss_any pss_nil)
      (pss_one (ps_ret (pe_lc (own := [("weather", 5)]) (g := gName 5) (tt := tYes) rfl sc_ask_all.nd (pi_list (pv 1)) (blkOk_by (N := ["land", "weathers", "starts", "breaks", "places", "weather", "place", "_"]) (sc := defScope s_ask_all) (by decide +kernel)) (fun _ _ _ _ _ => pg_name (i := 5) sc_ask_all.nd rfl (Or.inl rfl)) (fun _ _ _ _ _ => pts_nil) (fun _ _ _ _ _ => (pe_make T.mk_Question (G_Question_init T) (hr.mono (by decide)) (by rfl) T.g_Question T.B_Question_init .nil pass0 (pa_cons (pv 0) (pa_cons (pv 5) (pa_cons (pv 2) (pa_cons (pv 3) pa_nil))))))))))))))), ?_⟩
    -- winds
    refine ⟨_, rfl, W, rfl, ⟨_, hW⟩, for_list (K := K) (a := W) (xs := wvs) (fun i σ H' => ∃ v5 : Option V, σ = [some (.ref l), some (.ref W), some (.ref s), some (.ref b), some (.ref pl), v5, none, none] ∧ H' = H) ⟨none, rfl, rfl⟩ (fun i σ H' _ z => by obtain ⟨_, _, e⟩ := z; rw [e]; exact hW) (fun i y σ H' hy z => ?_) (fun σ H1 z => ?_)⟩
    · obtain ⟨v5, rfl, e⟩ := z
      rw [e]
      obtain ⟨w1, us, ws, rfl, _, hw, dw, wok⟩ := hws i y hy
      exact ⟨_, rfl, _, rfl, l, w1, D, us, ws, rfl, hl, hw, dw, wok.nm, _, rfl, rfl⟩
    obtain ⟨v5, rfl, e⟩ := z
    rw [e]
    -- places of starts and breaks
    refine ⟨_, rfl, s, ss, rfl, .inr hs, _, rfl, b, bb, rfl, .inr hb, sz_of (by simp only [List.length_append, List.length_nil]; omega), fun m hm => ?_⟩
    have em := Ex.new (o := .lst (ss ++ (bb ++ []))) hm
    have mm : (upd H m (.lst (ss ++ (bb ++ [])))) m = some (.lst (ss ++ (bb ++ []))) := upd_same
    generalize upd H m (.lst (ss ++ (bb ++ []))) = H2 at em mm
    have dall : DpAll K H2 (ss ++ (bb ++ [])) ((sts ++ bs).map dPm) := by
      rw [List.append_nil, List.map_append]
      exact dps_ex em (dps_app ds db)
    refine ⟨m, rfl, ⟨_, SqL.of mm⟩, for_list (K := K) (a := m) (xs := ss ++ (bb ++ [])) (fun i σ H' => ∃ v6 v7 : Option V, σ = [some (.ref l), some (.ref W), some (.ref s), some (.ref b), some (.ref pl), v5, v6, v7] ∧ H' = H2) ⟨none, none, rfl, rfl⟩ (fun i σ H' _ z => by obtain ⟨_, _, _, e⟩ := z; rw [e]; exact SqL.of mm) (fun i y σ H' hy z => ?_) (fun σ H3 z => ?_)⟩
    · obtain ⟨v6, v7, rfl, e⟩ := z
      rw [e]
      obtain ⟨r, hrr, hmr, dp⟩ := pick dall hy
      obtain ⟨t, rfl, st⟩ := pm_in dp
      have mem : r.1 ∈ D.ps := by
        rcases List.mem_append.mp hmr with h | h
        · exact is r h
        · exact ib r h
      exact ⟨t, _, rfl, st, rfl, _, _, rfl, _, _, rfl, rfl, _, rfl, l, dxl, _, rfl, em _ _ L.ob, fs_check_place .., _, rfl, l, D, r.1, rfl, hl.ex em, mem, _, _, rfl, rfl⟩
    obtain ⟨v6, v7, rfl, e⟩ := z
    rw [e]
    -- further places
    have turn : ∀ {y : V} {v6 v7 : Option V} {i : Nat}, (pq.map V.str)[i]? = some y → ∃ q, q ∈ D.ps ∧ y = .str q := fun {y v6 v7 i} hy => by
      rw [List.getElem?_map] at hy
      obtain ⟨q, hq, rfl⟩ := Option.map_eq_some_iff.mp hy
      exact ⟨q, ipl q (List.mem_of_getElem? hq), rfl⟩
    refine ⟨fun σ H' => ∃ v5 v6 v7 : Option V, σ = [some (.ref l), some (.ref W), some (.ref s), some (.ref b), some (.ref pl), v5, v6, v7] ∧ H' = H2, ?_, ?_⟩
    · have body : ∀ (i : Nat) (y : V) (v5 v6 v7 : Option V), (pq.map V.str)[i]? = some y → tMeth a.C "check_place" (sp_check_place K a.C) [] E0 (tVar 0) (tCons (tVar 6) tNil) [some (.ref l), some (.ref W), some (.ref s), some (.ref b), some (.ref pl), v5, some y, v7] H2 fun _ H3 => ∃ v6 : Option V, [some (V.ref l), some (.ref W), some (.ref s), some (.ref b), some (.ref pl), v5, some y, v7] = [some (V.ref l), some (.ref W), some (.ref s), some (.ref b), some (.ref pl), v5, v6, v7] ∧ H3 = H2 := fun i y v5 v6 v7 hy => by
        obtain ⟨q, hq, rfl⟩ := turn (v6 := none) (v7 := none) hy
        exact ⟨_, rfl, l, dxl, _, rfl, em _ _ L.ob, fs_check_place .., _, rfl, l, D, q, rfl, hl.ex em, hq, _, rfl, rfl⟩
      rcases hpl with hpl | hpl
      · refine .inl ⟨_, rfl, pl, rfl, ⟨_, ex_l em hpl⟩, for_list (K := K) (a := pl) (xs := pq.map V.str) (fun i σ H' => ∃ v6 : Option V, σ = [some (.ref l), some (.ref W), some (.ref s), some (.ref b), some (.ref pl), v5, v6, v7] ∧ H' = H2) ⟨v6, rfl, rfl⟩ (fun i σ H' _ z => by obtain ⟨_, _, e⟩ := z; rw [e]; exact ex_l em hpl) (fun i y σ H' hy z => ?_) (fun σ H3 z => ?_)⟩
        · obtain ⟨v6, rfl, e⟩ := z
          rw [e]
          exact body i y v5 v6 v7 hy
        · obtain ⟨v6, rfl, e⟩ := z
          exact ⟨v5, v6, v7, rfl, e⟩
      · refine .inr ⟨_, rfl, pl, rfl, ⟨_, ex_t em hpl⟩, for_tup (K := K) (a := pl) (xs := pq.map V.str) (fun i σ H' => ∃ v6 : Option V, σ = [some (.ref l), some (.ref W), some (.ref s), some (.ref b), some (.ref pl), v5, v6, v7] ∧ H' = H2) ⟨v6, rfl, rfl⟩ (fun i σ H' _ z => by obtain ⟨_, _, e⟩ := z; rw [e]; exact ex_t em hpl) (fun i y σ H' hy z => ?_) (fun σ H3 z => ?_)⟩
        · obtain ⟨v6, rfl, e⟩ := z
          rw [e]
          exact body i y v5 v6 v7 hy
        · obtain ⟨v6, rfl, e⟩ := z
          exact ⟨v5, v6, v7, rfl, e⟩
    rintro σ H' ⟨v5, v6, v7, rfl, rfl⟩
    -- rows
    refine ⟨_, rfl, W, rfl, ⟨_, ex_l em hW⟩, for_list (K := K) (a := W) (xs := wvs) (fun i σ H2 => ∃ v5 v6 v7 : Option V, σ = [some (.ref l), some (.ref W), some (.ref s), some (.ref b), some (.ref pl), v5, v6, v7] ∧ Ex H H2) ⟨_, _, _, rfl, em⟩ (fun i σ H' _ z => by obtain ⟨_, _, _, _, e⟩ := z; exact ex_l e hW) (fun i y σ H' hy z => ?_) (fun σ H3 z => ?_)⟩
    · obtain ⟨v5, v6, v7, rfl, e⟩ := z
      obtain ⟨w1, us, ws, rfl, _, hw, dw, wok⟩ := hws i y hy
      exact ⟨_, rfl, w1, D, us, ws, rfl, ex_l e hw, dps_ex e dw, wok, fun H4 e4 => ⟨_, _, _, rfl, e.trans e4⟩⟩
    obtain ⟨v5, v6, v7, rfl, e⟩ := z
    refine ⟨_, rfl, W, _, rfl, .inl (ex_l e hW), rfl, _, rfl, ?_⟩
    rw [decide_eq_false (show ¬ V.int ((wvs.length : Nat) : Int) = V.int 0 from fun z => by have := V.int.inj z; omega)]
    refine iteF ?_
    -- the questions
    refine ⟨_, rfl, W, rfl, ⟨_, ex_l e hW⟩, fun D0 hD => lcY_list (K := K) (a := W) (xs := wvs) (fun i H' => Ex H3 H' ∧ ∃ qs, H' D0 = some (.lst qs) ∧ qs.length = i ∧ ∀ (j : Nat) (ws : List (Int × Str)), j < i → wss[j]? = some ws → ∃ x : Addr, qs[j]? = some (.ref x) ∧ IsQ K a.C a.C_Question (del H' D0) x D ws sts bs) ⟨Ex.new hD, [], upd_same, rfl, (fun j ws h => absurd h (Nat.not_lt_zero _))⟩ (fun i H' _ z => ex_l (e.trans z.1) hW) (fun i y H' hy z => ?_) (fun H5 z => ?_)⟩
    · obtain ⟨e3, qs, hqs, lq, hq⟩ := z
      have hi := (List.getElem?_eq_some_iff.mp hy).1
      obtain ⟨w1, us, ws, rfl, hws1, hw, dw, wok⟩ := hws i y hy
      refine ⟨rfl, _, rfl, _, rfl, _, rfl, _, rfl, fun x dx hx hdx ne => ?_⟩
      have d0 : Ex H (del H' D0) := ex_to_del (e.trans e3) (fresh_back e hD)
      have dx0 : del H' D0 x = none := by
        unfold del
        split
        · rfl
        · exact hx
      have gx : D0 ≠ x := ne_of_none hqs hx
      have gd : D0 ≠ dx := ne_of_none hqs hdx
      have eN : Ex (del H' D0) (upd (upd H' dx (.own x)) x (.ins a.C_Question dx [])) := (del_ex.trans (Ex.new hdx)).trans (Ex.new (by rw [upd_ne ne.symm]; exact hx))
      refine ⟨del H' D0, D0, x, dx, l, w1, s, b, .lst qs, D, ws, sts, bs, us, ss, bb, rfl, eN, dx0, upd_same, if_pos rfl, by rw [upd_ne gx, upd_ne gd]; exact hqs, ⟨(fun xs z => by cases z), (fun q xs z => by cases z)⟩, gx, hl.ex d0, ok, ex_l d0 hw, dps_ex d0 dw, wok, ex_l d0 hs, dps_ex d0 ds, ls, ex_l d0 hb, dps_ex d0 db, lb, fun H6 e6 hg6 hq6 => ⟨rfl, qs, hg6, sz_lt (by omega), ?_, qs ++ [.ref x], upd_same, by rw [List.length_append, lq] <;> rfl, fun j ws' hj hws' => ?_⟩⟩
      · exact ((ex_to_del e3 hD).trans e6).mut hD
      · rw [del_upd]
        by_cases c : j < i
        · obtain ⟨x', h1, h2⟩ := hq j ws' c hws'
          exact ⟨x', by rw [List.getElem?_append_left (by omega)]; exact h1, h2.ex (ex_to_del e6 (if_pos rfl))⟩
        · have ej : j = i := by omega
          subst ej
          rw [hws1] at hws'
          cases hws'
          exact ⟨x, by rw [← lq, List.getElem?_append_right (Nat.le_refl _), Nat.sub_self] <;> rfl, hq6⟩
    · obtain ⟨e3, qs, hqs, lq, hq⟩ := z
      refine k H5 D0 qs (e.trans e3) (fresh_back e hD) hqs ⟨by omega, fun i ws hi => ?_⟩
      have hlt := (List.getElem?_eq_some_iff.mp hi).1
      obtain ⟨x, h1, h2⟩ := hq i ws (by omega) hi
      exact ⟨x, h1, h2.ex del_ex⟩
theorem G_ask (T : Txt K mg a) : FnOk P w K mg base CX0 5 a.f_ask a.d_ask ["land", "weather", "starts", "breaks", "places"] (sp_ask K a.C a.C_Question) := by
  refine T.F_ask.ok sc_ask (fun vs H Q E h => ?_) (fun cdv A outer s H vs Q E hr h => ?_)
  · obtain ⟨l, w1, s, b, pl, D, ws, us, sts, bs, ss, bb, pq, rfl, _⟩ := h
    rfl
  · obtain ⟨l, w1, s, b, pl, D, ws, us, sts, bs, ss, bb, pq, rfl, hl, ok, hw, dw, wok, hs, ds, ls, is, hb, db, lb, ib, hpl, ipl, k⟩ := h
    refine ⟨_, (pss_one (ps_ret (pe_ix ix_list (pe_call (G_ask_all T) (hr.mono (by decide)) (by rfl) T.g_ask_all T.k_ask_all T.B_ask_all .nil pass0 (pa_cons (pv 0) (pa_cons (pe_lst (pa_cons (pv 1) pa_nil)) (pa_cons (pv 2) (pa_cons (pv 3) (pa_cons (pv 4) pa_nil)))))) pe_int (fun _ _ => rfl)))), ?_⟩
    refine ⟨_, rfl, _, rfl, by show 1 ≤ sizeLine; decide, fun m hm => ⟨_, rfl, _, rfl, _, rfl, ?_⟩⟩
    have em := Ex.new (o := .lst [.ref w1]) hm
    refine ⟨l, m, s, b, pl, D, [ws], [.ref w1], sts, bs, ss, bb, pq, rfl, hl.ex em, ok, SqL.of upd_same, ⟨rfl, fun i v hv => ?_⟩, (by show 1 ≤ 1; decide), (by show 1 ≤ 1000; decide), ex_l em hs, dps_ex em ds, ls, is, ex_l em hb, dps_ex em db, lb, ib, hpl.imp (ex_l em) (ex_t em), ipl, fun H1 o qs e1 o0 ho qa => ?_⟩
    · cases i with
      | zero =>
        cases hv
        exact ⟨w1, us, ws, rfl, rfl, ex_l em hw, dps_ex em dw, wok⟩
      | succ i => cases i <;> cases hv
    · obtain ⟨x, h1, h2⟩ := qa.2 0 ws rfl
      exact ⟨o, _, _, _, rfl, rfl, SqL.of ho, atI_nat (j := 0) h1, k H1 x (em.trans e1) h2⟩
end
end EV

set_option Elab.async false
set_option linter.all false
set_option maxRecDepth 100000
set_option maxHeartbeats 4000000
namespace EV
open PySem PySem.Spec PyProof.Rows L2 EvS Evl FD EnT
theorem Nums.get {K : PySem.W.Frag} {H : Hp} {p : Addr} {ks : List Int} (N : Nums K H p ks) {i : Int} (h0 : 0 ≤ i) (h1 : i < 160) : ∃ n, 0 ≤ n ∧ n < 1009 ∧ atI (ks.map V.int) i = some (.int n) := by
  have lo := N.lo
  obtain ⟨n, hn, hat, _⟩ := num_in (ks := ks) (i := i) h0 (by omega)
  exact ⟨n, (N.sm n hn).1, (N.sm n hn).2, hat⟩
theorem str_pick {ps : List Str} (h : 1 ≤ ps.length) (x : Int) : ((ps.map V.str).length : Int) ≠ 0 ∧ ∃ z, z ∈ ps ∧ atI (ps.map V.str) (x.fmod ((ps.map V.str).length : Int)) = some (.str z) := by
  have L : (ps.map V.str).length = ps.length := List.length_map ..
  have o0 := Int.fmod_nonneg_of_pos x (b := (((ps.map V.str).length : Nat) : Int)) (by omega)
  have o1 := Int.fmod_lt_of_pos x (b := (((ps.map V.str).length : Nat) : Int)) (by omega)
  obtain ⟨i, ei⟩ : ∃ i : Nat, x.fmod (((ps.map V.str).length : Nat) : Int) = (i : Int) := ⟨_, (Int.toNat_of_nonneg o0).symm⟩
  have hi : i < ps.length := by omega
  refine ⟨by omega, ps[i], List.getElem_mem hi, ?_⟩
  rw [ei]
  exact atI_nat (by rw [List.getElem?_map, List.getElem?_eq_getElem hi] <;> rfl)
theorem str_at {ps : List Str} {v : Int} (h0 : 0 ≤ v) (h1 : v < ps.length) : ∃ z, z ∈ ps ∧ atI (ps.map V.str) v = some (.str z) := by
  obtain ⟨i, rfl⟩ : ∃ i : Nat, v = (i : Int) := ⟨_, (Int.toNat_of_nonneg h0).symm⟩
  have hi : i < ps.length := by omega
  exact ⟨ps[i], List.getElem_mem hi, atI_nat (by rw [List.getElem?_map, List.getElem?_eq_getElem hi] <;> rfl)⟩
def sp4__law_pick (K : PySem.W.Frag) : Sp := fun vs H Q _ => ∃ (p : Addr) (ks : List Int) (at_ m : Int), vs = [.ref p, .int at_, .int m] ∧ Nums K H p ks ∧ 0 ≤ at_ ∧ at_ < 160 ∧ 0 < m ∧ ∀ v, 0 ≤ v → v < m → Q (.int v) H
def sp4__law_rows (K : PySem.W.Frag) : Sp := fun vs H Q _ => ∃ (q p : Addr) (ks : List Int) (at_ many most : Int) (D : LandD) (wi pl li pa : Addr) (rows prs : List V), vs = [.ref q, .int at_, .int many, .ref p, .int most] ∧ Nums K H q ks ∧ 0 ≤ at_ ∧ 0 ≤ many ∧ many ≤ 20 ∧ at_ + 2 * many ≤ 160 - 2 ∧ 0 < most ∧ Parts2 K H p D wi pl li pa rows prs ∧ 1 ≤ D.ps.length ∧
  ∀ H' l us rs, Ex H H' → H l = none → H' l = some (.lst us) → DpAll K H' us (rs.map dPm) → StOk D rs → (rs.length : Int) = many → Q (.ref l) H'
def sp4__law_weather (K : PySem.W.Frag) : Sp := fun vs H Q _ => ∃ (q p : Addr) (ks : List Int) (D : LandD) (wi pl li pa : Addr) (rows prs : List V), vs = [.ref q, .int 110, .ref p] ∧ Nums K H q ks ∧ Parts2 K H p D wi pl li pa rows prs ∧ LandOk D ∧
  ∀ H' l us ws, Ex H H' → H l = none → H' l = some (.lst us) → DpAll K H' us (ws.map dWr) → WOk D ws → ws.length ≤ 4 → (∀ r ∈ ws, r.1 ≤ 40) → Q (.ref l) H'
def sp4__law_land (K : PySem.W.Frag) (C : Addr) : Sp := fun vs H Q _ => ∃ (p : Addr) (D : LandD) (wi pl li pa : Addr) (rows prs : List V), vs = [.ref p] ∧ Parts2 K H p D wi pl li pa rows prs ∧ LandOk D ∧ ∀ H' x, Ex H H' → H x = none → IsLand K C H' x D → Q (.ref x) H'
section
variable {P : Program} {w : World} {K : PySem.W.Frag} {mg : Str → Option Value} {base : Heap} {a : Ad}
theorem G__law_pick (T : Txt K mg a) : FnOk P w K mg base CX0 1 a.f__law_pick a.d__law_pick ["numbers", "at", "most"] (sp4__law_pick K) := by
  refine T.F__law_pick.ok sc__law_pick (fun vs H Q E h => ?_) (fun cdv A outer s H vs Q E hr h => ?_)
  · obtain ⟨p, ks, at_, m, rfl, _⟩ := h
    rfl
  · obtain ⟨p, ks, at_, m, rfl, N, a0, a1, m0, k⟩ := h
    obtain ⟨n, n0, n1, g⟩ := N.get a0 a1
    refine ⟨_, (pss_one (ps_ret (pe_op op_modN (pe_callTy call_int1 (by rfl) T.z_int (by decide +kernel) (pa_cons (pe_ix ix_list (pv 0) (pv 1) (fun _ _ => rfl)) pa_nil)) (pv 2)))), ?_⟩
    exact ⟨_, rfl, _, rfl, p, _, _, _, rfl, rfl, N.at_, g, .inl ⟨_, rfl, _, rfl, _, _, rfl, rfl, by omega, k _ (Int.fmod_nonneg_of_pos n m0) (Int.fmod_lt_of_pos n m0)⟩⟩
theorem G__law_rows (T : Txt K mg a) : FnOk P w K mg base CX0 1 a.f__law_rows a.d__law_rows ["numbers", "at", "many", "parts", "most"] (sp4__law_rows K) := by
  refine T.F__law_rows.ok sc__law_rows (fun vs H Q E h => ?_) (fun cdv A outer s H vs Q E hr h => ?_)
  · obtain ⟨q, p, ks, at_, many, most, D, wi, pl, li, pa, rows, prs, rfl, _⟩ := h
    rfl
  · obtain ⟨q, p, ks, at_, many, most, D, wi, pl, li, pa, rows, prs, rfl, N, a0, m0, m20, hi, mo, S, p1, k⟩ := h
    refine ⟨_, (pss_one (ps_ret (pe_lc (own := [("k", 5)]) (g := gName 5) (tt := tYes) rfl sc__law_rows.nd (pi_range1 (by rfl) T.z_range (pa_cons (pv 2) pa_nil)) (blkOk_by (N := ["numbers", "at", "many", "parts", "most", "k"]) (sc := defScope s__law_rows) (by decide +kernel)) (fun _ _ _ _ _ => pg_name (i := 5) sc__law_rows.nd rfl (Or.inl rfl)) (fun _ _ _ _ _ => pts_nil) (fun _ _ _ _ _ => (pe_tup (pa_cons (pe_ix (show IxR _ (rIxT K) from ix_tup) (pe_ix (show IxR _ (rIxL K) from ix_list) (pv 3) pe_int (fun _ _ => rfl)) (pe_op op_modN (pe_callTy call_int1 (by rfl) T.z_int (by decide +kernel) (pa_cons (pe_ix (show IxR _ (rIxL K) from ix_list) (pv 0) (pe_op op_add (pv 1) (pe_op op_mul pe_int (pv 5))) (fun _ _ => rfl)) pa_nil)) (pe_callB (show CallR _ _ (rLenK K) from call_len_seq) (by rfl) T.z_len PySem.boot_len (pa_cons (pe_ix (show IxR _ (rIxL K) from ix_list) (pv 3) pe_int (fun _ _ => rfl)) pa_nil))) (fun _ _ => rfl)) (pa_cons (pe_op op_modN (pe_callTy call_int1 (by rfl) T.z_int (by decide +kernel) (pa_cons (pe_ix (show IxR _ (rIxL K) from ix_list) (pv 0) (pe_op op_add (pe_op op_add (pv 1) (pe_op op_mul pe_int (pv 5))) pe_int) (fun _ _ => rfl)) pa_nil)) (pv 4)) pa_nil))))))), ?_⟩
    refine ⟨_, rfl, _, rfl, by omega, by omega, fun D0 hD => lc_range (lo := 0) (n := many.toNat) (fun i H' => Ex H H' ∧ ∃ acc rs, H' D0 = some (.lst acc) ∧ acc.length = i ∧ DpAll K (del H' D0) acc (rs.map dPm) ∧ StOk D rs ∧ rs.length = i) ⟨Ex.new hD, [], [], upd_same, rfl, .nil, (fun r hr => by cases hr), rfl⟩ ?_ ?_⟩
    · rintro i H' hi' ⟨e, acc, rs, ha, la, da, so, lr⟩
      have N' := N.ex e
      have S' := S.ex e
      obtain ⟨x, x0, x1, gx⟩ := N'.get (i := at_ + 2 * (0 + (i : Int))) (by omega) (by omega)
      obtain ⟨y, y0, y1, gy⟩ := N'.get (i := at_ + 2 * (0 + (i : Int)) + 1) (by omega) (by omega)
      obtain ⟨nz, z, zin, hz⟩ := str_pick p1 x
      refine ⟨rfl, _, rfl, p, _, _, _, rfl, rfl, S'.ob, atI_nat (j := 1) rfl, _, rfl, _, rfl, _, rfl, _, _, rfl, rfl, .inl ⟨by decide, by decide⟩, _, _, rfl, rfl, q, _, _, _, rfl, rfl, N'.at_, gx, .inl ⟨_, rfl, _, rfl, p, _, _, _, rfl, rfl, S'.ob, atI_nat (j := 1) rfl, pl, _, rfl, .inr S'.pl, _, _, rfl, rfl, nz, pl, _, _, _, rfl, rfl, S'.pl, hz, ?_⟩⟩
      refine ⟨_, rfl, _, rfl, _, rfl, _, _, rfl, rfl, .inl ⟨by decide, by decide⟩, _, _, rfl, rfl, _, _, rfl, rfl, q, _, _, _, rfl, rfl, N'.at_, gy, .inl ⟨_, rfl, _, rfl, _, _, rfl, rfl, by omega, by show 2 ≤ sizeLine; decide, fun t ht => ?_⟩⟩
      have eT := Ex.new (o := .tup [.str z, .int (y.fmod most)]) ht
      have tD : t ≠ D0 := fun q => by rw [q, ha] at ht; cases ht
      refine ⟨acc, eT _ _ ha, sz_lt (by omega), (e.trans eT).mut hD, acc ++ [.ref t], rs ++ [(z, y.fmod most)], upd_same, by rw [List.length_append, la] <;> rfl, ?_, fun r hr => ?_, by rw [List.length_append, lr] <;> rfl⟩
      · rw [del_upd, List.map_append]
        exact dps_app (dps_ex (ex_del eT) da) (dps_one (.tup (st_of (del_at tD upd_same)) (.cons (.str _) (.cons (.int _) .nil))))
      · rcases List.mem_append.mp hr with h | h
        · exact so r h
        · rw [List.mem_singleton.mp h]
          exact ⟨zin, Int.fmod_nonneg_of_pos y mo⟩
    · rintro H' ⟨e, acc, rs, ha, la, da, so, lr⟩
      exact k H' D0 acc rs e hD ha (dps_ex del_ex da) so (by omega)
theorem G__law_weather (T : Txt K mg a) : FnOk P w K mg base CX0 1 a.f__law_weather a.d__law_weather ["numbers", "at", "parts"] (sp4__law_weather K) := by
  refine T.F__law_weather.ok sc__law_weather (fun vs H Q E h => ?_) (fun cdv A outer s H vs Q E hr h => ?_)
  · obtain ⟨q, p, ks, D, wi, pl, li, pa, rows, prs, rfl, _⟩ := h
    rfl
  · obtain ⟨q, p, ks, D, wi, pl, li, pa, rows, prs, rfl, N, S, ok, k⟩ := h
    have w1 := ok.w1
    refine ⟨_, (pss_cons (ps_set (i := 3) sc__law_weather.nd rfl (Or.inl rfl) (pe_lst (pa_cons (pe_tup (pa_cons pe_int (pa_cons (pe_ix ix_tup (pe_ix ix_list (pv 2) pe_int (fun _ _ => rfl)) (pe_op op_modN (pe_callTy call_int1 (by rfl) T.z_int (by decide +kernel) (pa_cons (pe_ix ix_list (pv 0) (pv 1) (fun _ _ => rfl)) pa_nil)) (pe_callB call_len_seq (by rfl) T.z_len PySem.boot_len (pa_cons (pe_ix ix_list (pv 2) pe_int (fun _ _ => rfl)) pa_nil))) (fun _ _ => rfl)) pa_nil))) pa_nil)))
      (pss_cons (ps_for PassesOwn.never rfl (pi_range1 (by rfl) T.z_range (pa_cons (pe_op op_mod (pe_callTy call_int1 (by rfl) T.z_int (by decide +kernel) (pa_cons (pe_ix ix_list (pv 0) (pe_op op_add (pv 1) pe_int) (fun _ _ => rfl)) pa_nil)) pe_int) pa_nil)) (pg_name (i := 4) sc__law_weather.nd rfl (Or.inl rfl)) (pss_one (ps_expr (pe_bm PySem.F.plainAttrs_list PySem.F.slot_list_append PySem.F.type_list_append mt_append (pv 3) (pa_cons (pe_tup (pa_cons (pe_op op_add (pe_op op_add (pe_ix ix_tup (pe_ix ix_list (pv 3) (pv 4) (fun _ _ => rfl)) pe_int (fun _ _ => rfl)) pe_int) (pe_op op_mod (pe_callTy call_int1 (by rfl) T.z_int (by decide +kernel) (pa_cons (pe_ix ix_list (pv 0) (pe_op op_add (pe_op op_add (pv 1) pe_int) (pv 4)) (fun _ _ => rfl)) pa_nil)) pe_int)) (pa_cons (pe_ix ix_tup (pe_ix ix_list (pv 2) pe_int (fun _ _ => rfl)) (pe_op op_modN (pe_callTy call_int1 (by rfl) T.z_int (by decide +kernel) (pa_cons (pe_ix ix_list (pv 0) (pe_op op_add (pe_op op_add (pv 1) pe_int) (pv 4)) (fun _ _ => rfl)) pa_nil)) (pe_callB call_len_seq (by rfl) T.z_len PySem.boot_len (pa_cons (pe_ix ix_list (pv 2) pe_int (fun _ _ => rfl)) pa_nil))) (fun _ _ => rfl)) pa_nil))) pa_nil)))))
      (pss_one (ps_ret (pv 3))))), ?_⟩
    obtain ⟨n0, l0, u0, g0⟩ := N.get (i := 110) (by decide) (by decide)
    obtain ⟨n1, l1, u1, g1⟩ := N.get (i := 110 + 1) (by decide) (by decide)
    obtain ⟨nz, z, zin, hz⟩ := str_pick w1 n0
    refine ⟨_, rfl, p, _, _, _, rfl, rfl, S.ob, atI_nat (j := 0) rfl, _, rfl, _, rfl, q, _, _, _, rfl, rfl, N.at_, g0, .inl ⟨_, rfl, _, rfl, p, _, _, _, rfl, rfl, S.ob, atI_nat (j := 0) rfl, wi, _, rfl, .inr S.wi.sq, _, _, rfl, rfl, nz, wi, _, _, _, rfl, rfl, S.wi.sq, hz, by show 2 ≤ sizeLine; decide, fun t ht => ⟨by show 1 ≤ sizeLine; decide, fun L hL => ?_⟩⟩⟩
    have L0 := fresh_back (Ex.new ht) hL
    have e0 : Ex H (upd (upd H t (.tup [.int 0, .str z])) L (.lst [.ref t])) := (Ex.new ht).trans (Ex.new hL)
    have tL : t ≠ L := ne_of_none (upd_same (H := H) (a := t) (o := .tup [.int 0, .str z])) hL
    have d0 : DpAll K (del (upd (upd H t (.tup [.int 0, .str z])) L (.lst [.ref t])) L) [.ref t] ([((0 : Int), z)].map dWr) := by
      rw [del_upd]
      exact dps_one (.tup (st_of (del_at tL upd_same)) (.cons (.int _) (.cons (.str _) .nil)))
    have h0 : (upd (upd H t (.tup [.int 0, .str z])) L (.lst [.ref t])) L = some (.lst [.ref t]) := upd_same
    generalize upd (upd H t (.tup [.int 0, .str z])) L (.lst [.ref t]) = H0 at e0 d0 h0
    refine ⟨_, rfl, _, rfl, _, _, rfl, rfl, q, _, _, _, rfl, rfl, (N.ex e0).at_, g1, .inl ⟨_, rfl, _, _, rfl, rfl, (by show (0 : Int) < 4; decide), _, rfl, by omega, by omega, for_range (n := (n1 % 4).toNat) (fun i σ H' => ∃ (us : List V) (ws : List (Int × Str)) (v4 : Option V), σ = [some (.ref q), some (.int 110), some (.ref p), some (.ref L), v4] ∧ Ex H H' ∧ H' L = some (.lst us) ∧ DpAll K (del H' L) us (ws.map dWr) ∧ (∀ r ∈ ws, r.2 ∈ D.ws) ∧ (∀ r ∈ ws.head?, r.1 = 0) ∧ ws.Pairwise (fun a b => a.1 < b.1) ∧ (∀ r ∈ ws, 0 ≤ r.1 ∧ r.1 ≤ 12 * (i : Int)) ∧ ws.length = i + 1 ∧ ∃ r, ws[i]? = some r ∧ ∀ x ∈ ws, x.1 ≤ r.1) ?_ ?_ ?_⟩⟩
    · exact ⟨[.ref t], [(0, z)], none, rfl, e0, h0, d0, (fun r hr => by rw [List.mem_singleton.mp hr]; exact zin), (fun r hr => by cases hr; rfl), List.pairwise_singleton _ _, (fun r hr => by rw [List.mem_singleton.mp hr]; exact ⟨Int.le_refl 0, by show (0 : Int) ≤ 12 * ((0 : Nat) : Int); decide⟩), rfl, (0, z), rfl, fun x hx => by rw [List.mem_singleton.mp hx]; exact Int.le_refl _⟩
    · rintro i σ H1 hi ⟨us, ws, v4, rfl, e1, hg, hd, nm, hd0, asc, top, lw, r, hr, mx⟩
      have i4 : i < 4 := by omega
      have lus : us.length = ws.length := by rw [dps_len hd, List.length_map]
      obtain ⟨v, hv, dv⟩ := pick_i (dps_ex del_ex hd) hr
      obtain ⟨t1, rfl, ht1⟩ := wr_in dv
      have N1 := N.ex e1
      have S1 := S.ex e1
      obtain ⟨n, ln, un, gn⟩ := N1.get (i := 110 + 2 + (0 + (i : Int))) (by omega) (by omega)
      obtain ⟨y, ly, uy, gy⟩ := N1.get (i := 110 + 5 + (0 + (i : Int))) (by omega) (by omega)
      obtain ⟨nz2, z2, zin2, hz2⟩ := str_pick w1 y
      have m0 := Int.emod_nonneg n (show (12 : Int) ≠ 0 by decide)
      have m1 := Int.emod_lt_of_pos n (show (0 : Int) < 12 by decide)
      have hmr := List.mem_of_getElem? hr
      have rtop := top r hmr
      have ei : (0 : Int) + (i : Int) = ((i : Nat) : Int) := by omega
      refine ⟨_, rfl, .inl ⟨rfl, _, SqL.of hg⟩, _, rfl, _, rfl, L, _, _, _, rfl, rfl, SqL.of hg, by rw [ei]; exact atI_nat hv, t1, _, _, _, rfl, rfl, ht1, atI_nat (j := 0) rfl, _, _, rfl, rfl, _, rfl, _, rfl, _, _, rfl, rfl, _, rfl, _, _, rfl, rfl, q, _, _, _, rfl, rfl, N1.at_, gn, .inl ⟨_, rfl, _, _, rfl, rfl, (by show (0 : Int) < 12; decide), _, _, rfl, rfl, ?_⟩⟩
      refine ⟨_, rfl, p, _, _, _, rfl, rfl, S1.ob, atI_nat (j := 0) rfl, _, rfl, _, rfl, _, _, rfl, rfl, _, rfl, _, _, rfl, rfl, q, _, _, _, rfl, rfl, N1.at_, gy, .inl ⟨_, rfl, _, rfl, p, _, _, _, rfl, rfl, S1.ob, atI_nat (j := 0) rfl, wi, _, rfl, .inr S1.wi.sq, _, _, rfl, rfl, nz2, wi, _, _, _, rfl, rfl, S1.wi.sq, hz2, by show 2 ≤ sizeLine; decide, fun t2 ht2 => ?_⟩⟩
      have e2 : Ex H1 (upd H1 t2 (.tup [.int (r.1 + 1 + n % 12), .str z2])) := Ex.new ht2
      have tL2 : t2 ≠ L := fun e => by rw [e, hg] at ht2; cases ht2
      refine ⟨L, us, _, rfl, rfl, e2 _ _ hg, sz_lt (by omega), us ++ [.ref t2], ws ++ [(r.1 + 1 + n % 12, z2)], _, rfl, (e1.trans e2).mut L0, upd_same, ?_, ?_, ?_, ?_, ?_, by rw [List.length_append, lw] <;> rfl, (r.1 + 1 + n % 12, z2), ?_, ?_⟩
      · rw [del_upd, List.map_append]
        exact dps_app (dps_ex (ex_del e2) hd) (dps_one (.tup (st_of (del_at tL2 upd_same)) (.cons (.int _) (.cons (.str _) .nil))))
      · intro x hx
        rcases List.mem_append.mp hx with h | h
        · exact nm x h
        · rw [List.mem_singleton.mp h]; exact zin2
      · intro x hx
        cases ws with
        | nil => cases hmr
        | cons w0 wl => exact hd0 x hx
      · rw [List.pairwise_append]
        refine ⟨asc, List.pairwise_singleton _ _, fun x hx y hy => ?_⟩
        rw [List.mem_singleton.mp hy]
        have := mx x hx
        show x.1 < r.1 + 1 + n % 12
        omega
      · intro x hx
        rcases List.mem_append.mp hx with h | h
        · have := top x h
          push_cast
          exact ⟨this.1, by omega⟩
        · rw [List.mem_singleton.mp h]
          refine ⟨by show 0 ≤ r.1 + 1 + n % 12; omega, ?_⟩
          show r.1 + 1 + n % 12 ≤ 12 * ((i + 1 : Nat) : Int)
          push_cast
          omega
      · rw [← lw, List.getElem?_append_right (Nat.le_refl _), Nat.sub_self] <;> rfl
      · intro x hx
        rcases List.mem_append.mp hx with h | h
        · have := mx x h
          show x.1 ≤ r.1 + 1 + n % 12
          omega
        · rw [List.mem_singleton.mp h]
          exact Int.le_refl _
    · rintro σ H1 ⟨us, ws, v4, rfl, e1, hg, hd, nm, hd0, asc, top, lw, _⟩
      exact ⟨_, rfl, k H1 L us ws e1 L0 hg (dps_ex del_ex hd) ⟨by omega, by omega, nm, hd0, asc, fun r hr => by have := top r hr; omega⟩ (by omega) (fun r hr => by have := top r hr; omega)⟩
theorem G__law_land (T : Txt K mg a) : FnOk P w K mg base CX0 5 a.f__law_land a.d__law_land ["parts"] (sp4__law_land K a.C) := by
  obtain ⟨mv, kb_Land_wplp⟩ := kb_wplp T
  refine T.F__law_land.ok sc__law_land (fun vs H Q E h => ?_) (fun cdv A outer s H vs Q E hr h => ?_)
  · obtain ⟨p, D, wi, pl, li, pa, rows, prs, rfl, _⟩ := h
    rfl
  · obtain ⟨p, D, wi, pl, li, pa, rows, prs, rfl, S, ok, k⟩ := h
    refine ⟨_, (pss_one (ps_ret (pe_makeK0 T.mk_Land (G_init T) (hr.mono (by decide)) (by rfl) T.g_Land kb_Land_wplp pass0 (pk_cons (pe_callTy call_lstK (by rfl) T.z_list (by decide +kernel) (pa_cons (pe_ix ix_list (pv 0) pe_int (fun _ _ => rfl)) pa_nil)) (pk_cons (pe_callTy call_lstK (by rfl) T.z_list (by decide +kernel) (pa_cons (pe_ix ix_list (pv 0) pe_int (fun _ _ => rfl)) pa_nil)) (pk_cons (pe_callTy call_lstK (by rfl) T.z_list (by decide +kernel) (pa_cons (pe_ix ix_list (pv 0) pe_int (fun _ _ => rfl)) pa_nil)) (pk_cons (pe_callTy call_lstK (by rfl) T.z_list (by decide +kernel) (pa_cons (pe_ix ix_list (pv 0) pe_int (fun _ _ => rfl)) pa_nil)) pk_nil))))))), ?_⟩
    refine ⟨_, rfl, p, _, _, _, rfl, rfl, S.ob, atI_nat (j := 0) rfl, wi, _, rfl, .inr S.wi.sq, fun l1 h1 => ?_⟩
    have S1 := S.ex (Ex.new (o := .lst (D.ws.map V.str)) h1)
    refine ⟨_, rfl, p, _, _, _, rfl, rfl, S1.ob, atI_nat (j := 1) rfl, pl, _, rfl, .inr S1.pl, fun l2 h2 => ?_⟩
    have S2 := S1.ex (Ex.new (o := .lst (D.ps.map V.str)) h2)
    refine ⟨_, rfl, p, _, _, _, rfl, rfl, S2.ob, atI_nat (j := 2) rfl, li, _, rfl, .inr S2.li, fun l3 h3 => ?_⟩
    have S3 := S2.ex (Ex.new (o := .lst rows) h3)
    refine ⟨_, rfl, p, _, _, _, rfl, rfl, S3.ob, atI_nat (j := 3) rfl, pa, _, rfl, .inr S3.pa, fun l4 h4 => ?_⟩
    have S4 := S3.ex (Ex.new (o := .lst prs) h4)
    have b1 := upd_same (H := H) (a := l1) (o := .lst (D.ws.map V.str))
    have b2 := upd_same (H := upd H l1 (.lst (D.ws.map V.str))) (a := l2) (o := .lst (D.ps.map V.str))
    have b3 := upd_same (H := upd (upd H l1 (.lst (D.ws.map V.str))) l2 (.lst (D.ps.map V.str))) (a := l3) (o := .lst rows)
    have e0 : Ex H (upd (upd (upd (upd H l1 (.lst (D.ws.map V.str))) l2 (.lst (D.ps.map V.str))) l3 (.lst rows)) l4 (.lst prs)) := (((Ex.new h1).trans (Ex.new h2)).trans (Ex.new h3)).trans (Ex.new h4)
    have c1 := Ex.new h4 (o := .lst prs) _ _ (Ex.new h3 (o := .lst rows) _ _ (Ex.new h2 (o := .lst (D.ps.map V.str)) _ _ b1))
    have c2 := Ex.new h4 (o := .lst prs) _ _ (Ex.new h3 (o := .lst rows) _ _ b2)
    have c3 := Ex.new h4 (o := .lst prs) _ _ b3
    have c4 : (upd (upd (upd (upd H l1 (.lst (D.ws.map V.str))) l2 (.lst (D.ps.map V.str))) l3 (.lst rows)) l4 (.lst prs)) l4 = some (.lst prs) := upd_same
    refine ⟨rfl, rfl, fun x dx nx ndx ne => ?_⟩
    exact ⟨_, x, dx, l1, l2, l3, l4, D, rows, prs, rfl, (Ex.new ndx).mut nx, nx, upd_same, SqL.of c1, .inl (SqL.of c2), .inl (SqL.of c3), all2_dps (f := dLink) (R := LinkIn K _) (fun v b h => made_in h) S4.ls, .inl (SqL.of c4), S4.ps, ok, fun H' e hl => ⟨rfl, k H' x (e0.trans e) (fresh_back e0 nx) hl⟩⟩
end
end EV

set_option Elab.async false
set_option linter.all false
set_option maxRecDepth 100000
set_option maxHeartbeats 4000000
namespace EV
open PySem PySem.Spec PyProof.Rows L2 EvS Evl FD EnT
/-! ### a drawn case -/
structure CaseAt (K : PySem.W.Frag) (H : Hp) (p w s b : Addr) (D : LandD) (wi pl li pa : Addr) (rows prs us : List V) (ws : List (Int × Str)) (ss : List V) (sts : List (Str × Int)) (bb : List V) (bs : List (Str × Int)) : Prop where
  S : Parts2 K H p D wi pl li pa rows prs
  ok : LandOk D
  sm : Small2 D
  hw : SqL K H w us
  dw : DpAll K H us (ws.map dWr)
  wok : WOk D ws
  hs : SqL K H s ss
  ds : DpAll K H ss (sts.map dPm)
  sok : StOk D sts
  ls : sts.length ≤ 20
  hb : SqL K H b bb
  db : DpAll K H bb (bs.map dPm)
  bok : StOk D bs
  lb : bs.length ≤ 20
  mb : H b = some (.lst bb)
  t40 : ∀ r ∈ ws, r.1 ≤ 40
theorem CaseAt.ex {K : PySem.W.Frag} {H H' : Hp} {p w s b : Addr} {D : LandD} {wi pl li pa : Addr} {rows prs us : List V} {ws : List (Int × Str)} {ss : List V} {sts : List (Str × Int)} {bb : List V} {bs : List (Str × Int)} (e : Ex H H') (h : CaseAt K H p w s b D wi pl li pa rows prs us ws ss sts bb bs) : CaseAt K H' p w s b D wi pl li pa rows prs us ws ss sts bb bs :=
  ⟨h.S.ex e, h.ok, h.sm, ex_l e h.hw, dps_ex e h.dw, h.wok, ex_l e h.hs, dps_ex e h.ds, h.sok, h.ls, ex_l e h.hb, dps_ex e h.db, h.bok, h.lb, e _ _ h.mb, h.t40⟩
theorem StOk.pm {D : LandD} {rs : List (Str × Int)} (h : StOk D rs) : PmIn D rs := fun r hr => (h r hr).1
def sp__law_case (K : PySem.W.Frag) : Sp := fun vs H Q _ => ∃ (q : Addr) (ks : List Int), vs = [.ref q] ∧ Nums K H q ks ∧ ∀ H' c p w s b D wi pl li pa rows prs us ws ss sts bb bs, Ex H H' → SqT K H' c [.ref p, .ref w, .ref s, .ref b] → CaseAt K H' p w s b D wi pl li pa rows prs us ws ss sts bb bs → Q (.ref c) H'
def sp__law_sightings (K : PySem.W.Frag) : Sp := fun vs H Q _ => ∃ (q p fi : Addr) (ks : List Int) (D : LandD) (wi pl li pa : Addr) (rows prs : List V) (d0 d1 : Addr) (f0 f1 : Str → Option Int), vs = [.ref q, .int 145, .ref p, .ref fi] ∧ Nums K H q ks ∧ Parts2 K H p D wi pl li pa rows prs ∧ LandOk D ∧ SqL K H fi [.ref d0, .ref d1] ∧ Tab H d0 f0 ∧ Tab H d1 f1 ∧
  ∀ H' l us rs, Ex H H' → H l = none → H' l = some (.lst us) → DpAll K H' us (rs.map dPm) → PmIn D rs → rs.length ≤ 5 → Q (.ref l) H'
section
variable {P : Program} {w : World} {K : PySem.W.Frag} {mg : Str → Option Value} {base : Heap} {a : Ad}
theorem G__law_case (T : Txt K mg a) : FnOk P w K mg base CX0 3 a.f__law_case a.d__law_case ["numbers"] (sp__law_case K) := by
  refine T.F__law_case.ok sc__law_case (fun vs H Q E h => ?_) (fun cdv A outer s H vs Q E hr h => ?_)
  · obtain ⟨q, ks, rfl, _⟩ := h
    rfl
  · obtain ⟨q, ks, rfl, N, k⟩ := h
    refine ⟨_, (pss_cons (ps_set (i := 1) sc__law_case.nd rfl (Or.inl rfl) (pe_call (G__law_parts T) (hr.mono (by decide)) (by rfl) T.g__law_parts T.k__law_parts T.B__law_parts .nil pass0 (pa_cons (pv 0) (pa_cons pe_int pa_nil))))
      (pss_cons (ps_set (i := 2) sc__law_case.nd rfl (Or.inl rfl) (pe_call (G__law_weather T) (hr.mono (by decide)) (by rfl) T.g__law_weather T.k__law_weather T.B__law_weather .nil pass0 (pa_cons (pv 0) (pa_cons pe_int (pa_cons (pv 1) pa_nil)))))
      (pss_cons (ps_set (i := 3) sc__law_case.nd rfl (Or.inl rfl) (pe_call (G__law_rows T) (hr.mono (by decide)) (by rfl) T.g__law_rows T.k__law_rows T.B__law_rows .nil pass0 (pa_cons (pv 0) (pa_cons pe_int (pa_cons (pe_call (G__law_pick T) (hr.mono (by decide)) (by rfl) T.g__law_pick T.k__law_pick T.B__law_pick .nil pass0 (pa_cons (pv 0) (pa_cons pe_int (pa_cons pe_int pa_nil)))) (pa_cons (pv 1) (pa_cons pe_int pa_nil)))))))
      (Evl.pss_cut (ps_if (PW.pt (pw_and (pt_cmpR op_eq (pe_callB call_len_seq (by rfl) T.z_len PySem.boot_len (pa_cons (pv 3) pa_nil)) pe_int (nomark _)) (pw_and1 (pt_cmpR op_gt (pe_call (G__law_pick T) (hr.mono (by decide)) (by rfl) T.g__law_pick T.k__law_pick T.B__law_pick .nil pass0 (pa_cons (pv 0) (pa_cons pe_int (pa_cons pe_int pa_nil)))) pe_int (nomark _))))) (pss_one (ps_set (i := 3) sc__law_case.nd rfl (Or.inl rfl) (pe_call (G__law_rows T) (hr.mono (by decide)) (by rfl) T.g__law_rows T.k__law_rows T.B__law_rows .nil pass0 (pa_cons (pv 0) (pa_cons pe_int (pa_cons pe_int (pa_cons (pv 1) (pa_cons pe_int pa_nil)))))))) pss_nil)
      (pss_cons (ps_set (i := 4) sc__law_case.nd rfl (Or.inl rfl) (pe_call (G__law_rows T) (hr.mono (by decide)) (by rfl) T.g__law_rows T.k__law_rows T.B__law_rows .nil pass0 (pa_cons (pv 0) (pa_cons pe_int (pa_cons (pe_call (G__law_pick T) (hr.mono (by decide)) (by rfl) T.g__law_pick T.k__law_pick T.B__law_pick .nil pass0 (pa_cons (pv 0) (pa_cons pe_int (pa_cons pe_int pa_nil)))) (pa_cons (pv 1) (pa_cons pe_int pa_nil)))))))
      (pss_one (ps_ret (pe_tup (pa_cons (pv 1) (pa_cons (pv 2) (pa_cons (pv 3) (pa_cons (pv 4) pa_nil)))))))))))), ?_⟩
    refine ⟨_, rfl, q, ks, rfl, N, fun H1 p D wi pl li pa rows prs e1 _ _ S ok sm => ?_⟩
    have p1 := ok.p1
    refine ⟨_, rfl, _, rfl, q, p, ks, D, wi, pl, li, pa, rows, prs, rfl, N.ex e1, S, ok, fun H2 w us ws e2 _ hw dw wok l4 t40 => ?_⟩
    have e12 := e1.trans e2
    refine ⟨_, rfl, _, rfl, q, ks, 119, 4, rfl, N.ex e12, by decide, by decide, by decide, fun v v0 v1 => ⟨_, rfl, q, p, ks, 120, v, 12, D, wi, pl, li, pa, rows, prs, rfl, N.ex e12, by decide, v0, by omega, by omega, by decide, S.ex e2, p1, fun H3 s ss sts e3 _ hs ds so ls => ?_⟩⟩
    refine ⟨fun σ H' => ∃ (s : Addr) (ss : List V) (sts : List (Str × Int)), σ = [some (.ref q), some (.ref p), some (.ref w), some (.ref s), none] ∧ Ex H2 H' ∧ H' s = some (.lst ss) ∧ DpAll K H' ss (sts.map dPm) ∧ StOk D sts ∧ sts.length ≤ 20, ?_, ?_⟩
    · have mid : ∃ (s' : Addr) (ss : List V) (sts : List (Str × Int)), [some (V.ref q), some (.ref p), some (.ref w), some (.ref s), none] = [some (V.ref q), some (.ref p), some (.ref w), some (.ref s'), none] ∧ Ex H2 H3 ∧ H3 s' = some (.lst ss) ∧ DpAll K H3 ss (sts.map dPm) ∧ StOk D sts ∧ sts.length ≤ 20 := ⟨s, ss, sts, rfl, e3, hs, ds, so, by omega⟩
      refine ⟨_, rfl, s, _, rfl, .inl (SqL.of hs), rfl, _, rfl, ?_⟩
      refine ite2 (fun _ => ?_) (fun _ => mid)
      refine ⟨_, rfl, q, ks, 118, 4, rfl, N.ex (e12.trans e3), by decide, by decide, by decide, fun v2 v20 v21 => ⟨_, _, rfl, rfl, _, rfl, ?_⟩⟩
      refine ite2 (fun _ => ?_) (fun _ => mid)
      refine ⟨_, rfl, _, rfl, q, p, ks, 120, 1, 4, D, wi, pl, li, pa, rows, prs, rfl, N.ex (e12.trans e3), by decide, by decide, by decide, by decide, by decide, S.ex (e2.trans e3), p1, fun H4 s2 ss2 sts2 e4 _ hs2 ds2 so2 ls2 => ⟨s2, ss2, sts2, rfl, e3.trans e4, hs2, ds2, so2, by omega⟩⟩
    rintro σ H4 ⟨s, ss, sts, rfl, e4, hs, ds, so, ls⟩
    have e14 := e12.trans e4
    refine ⟨_, rfl, _, rfl, q, ks, 127, 4, rfl, N.ex e14, by decide, by decide, by decide, fun v3 v30 v31 => ⟨_, rfl, q, p, ks, 128, v3, 30, D, wi, pl, li, pa, rows, prs, rfl, N.ex e14, by decide, v30, by omega, by omega, by decide, S.ex (e2.trans e4), p1, fun H5 b bb bs e5 _ hb db bo lb => ?_⟩⟩
    refine ⟨_, rfl, _, rfl, _, rfl, _, rfl, by show 4 ≤ sizeLine; decide, fun c hc => ?_⟩
    have eC := Ex.new (o := .tup [.ref p, .ref w, .ref s, .ref b]) hc
    have e45 := e5.trans eC
    have e25 := e4.trans e45
    exact k _ c p w s b D wi pl li pa rows prs us ws ss sts bb bs (e12.trans e25) (st_of upd_same) ⟨S.ex (e2.trans e25), ok, sm, ex_l e25 (SqL.of hw), dps_ex e25 dw, wok, ex_l e45 (SqL.of hs), dps_ex e45 ds, so, ls, ex_l eC (SqL.of hb), dps_ex eC db, bo, by omega, eC _ _ hb, t40⟩
end
end EV

set_option Elab.async false
set_option linter.all false
set_option maxRecDepth 100000
set_option maxHeartbeats 4000000
namespace EV
open PySem PySem.Spec PyProof.Rows L2 EvS Evl FD EnT
/-! ### sightings -/
def burnsB (o : Option Int) (m : Int) : Bool := match o with
  | none => false
  | some t => decide (t ≤ m)
def sp__places_of (K : PySem.W.Frag) : Sp := fun vs H Q _ => ∃ (s : Addr) (ss : List V) (rs : List (Str × Int)), vs = [.ref s] ∧ SqL K H s ss ∧ DpAll K H ss (rs.map dPm) ∧ rs.length ≤ 1000 ∧ ∀ H' o, Ex H H' → H o = none → H' o = some (.lst ((rs.map (·.1)).map V.str)) → Q (.ref o) H'
def sp__burns : Sp := fun vs H Q _ => ∃ (d : Addr) (p : Str) (m : Int) (f : Str → Option Int), vs = [.ref d, .str p, .int m] ∧ Tab H d f ∧ Q (.bl (burnsB (f p) m)) H
def spDen (K : PySem.W.Frag) (C CQ : Addr) (sel : FP.Fire → Str × Int → Bool) (side : Nat) : Sp := fun vs H Q _ => ∃ (x c : Addr) (D : LandD) (ws : List (Int × Str)) (sts bs : List (Str × Int)) (cc : List V) (rs : List (Str × Int)), vs = [.ref x, .ref c] ∧ IsQ K C CQ H x D ws sts bs ∧ LandOk D ∧ WOk D ws ∧ StOk D sts ∧ sts.length ≤ 800 ∧ SqL K H c cc ∧ DpAll K H cc (rs.map dPm) ∧ rs.length ≤ 1000 ∧
  ∀ H' o us, Ex H H' → H o = none → H' o = some (.lst us) → DpAll K H' us ((rs.filter (sel (fireOf D ws sts bs side))).map dPm) → Q (.ref o) H'
/-- the questions's arguments, as they stand -/
structure AskAt (K : PySem.W.Frag) (C : Addr) (H : Hp) (l w s b : Addr) (D : LandD) (ws : List (Int × Str)) (sts bs : List (Str × Int)) (us ss bb : List V) : Prop where
  ld : IsLand K C H l D
  ok : LandOk D
  hw : SqL K H w us
  dw : DpAll K H us (ws.map dWr)
  wok : WOk D ws
  hs : SqL K H s ss
  ds : DpAll K H ss (sts.map dPm)
  sok : StOk D sts
  ls : sts.length ≤ 800
  hb : SqL K H b bb
  db : DpAll K H bb (bs.map dPm)
  bok : PmIn D bs
  lb : bs.length ≤ 800
theorem AskAt.ex {K : PySem.W.Frag} {C : Addr} {H H' : Hp} {l w s b : Addr} {D : LandD} {ws : List (Int × Str)} {sts bs : List (Str × Int)} {us ss bb : List V} (e : Ex H H') (h : AskAt K C H l w s b D ws sts bs us ss bb) : AskAt K C H' l w s b D ws sts bs us ss bb :=
  ⟨h.ld.ex e, h.ok, ex_l e h.hw, dps_ex e h.dw, h.wok, ex_l e h.hs, dps_ex e h.ds, h.sok, h.ls, ex_l e h.hb, dps_ex e h.db, h.bok, h.lb⟩
def spDenied (K : PySem.W.Frag) (C : Addr) (sel : FP.Fire → Str × Int → Bool) (side : Nat) : Sp := fun vs H Q _ => ∃ (l w s b c : Addr) (D : LandD) (ws : List (Int × Str)) (sts bs : List (Str × Int)) (us ss bb cc : List V) (rs : List (Str × Int)), vs = [.ref l, .ref w, .ref s, .ref b, .ref c] ∧ AskAt K C H l w s b D ws sts bs us ss bb ∧ SqL K H c cc ∧ DpAll K H cc (rs.map dPm) ∧ rs.length ≤ 1000 ∧ PmIn D rs ∧
  ∀ H' o us, Ex H H' → H o = none → H' o = some (.lst us) → DpAll K H' us ((rs.filter (sel (fireOf D ws sts bs side))).map dPm) → Q (.ref o) H'
def spCan (K : PySem.W.Frag) (C : Addr) (sel : FP.Fire → Str × Int → Bool) (side : Nat) : Sp := fun vs H Q _ => ∃ (l w s b c : Addr) (D : LandD) (ws : List (Int × Str)) (sts bs : List (Str × Int)) (us ss bb cc : List V) (rs : List (Str × Int)), vs = [.ref l, .ref w, .ref s, .ref b, .ref c] ∧ AskAt K C H l w s b D ws sts bs us ss bb ∧ SqL K H c cc ∧ DpAll K H cc (rs.map dPm) ∧ rs.length ≤ 1000 ∧ PmIn D rs ∧
  ∀ H', Ex H H' → Q (.bl (decide ((rs.filter (sel (fireOf D ws sts bs side))).length = 0))) H'
noncomputable def selC (F : FP.Fire) (r : Str × Int) : Bool := burnsB (FP.first F r.1) r.2
noncomputable def selS (F : FP.Fire) (r : Str × Int) : Bool := !burnsB (FP.first F r.1) r.2
def sp_bounds_of (K : PySem.W.Frag) (C : Addr) : Sp := fun vs H Q _ => ∃ (l w s b : Addr) (p : Str) (D : LandD) (ws : List (Int × Str)) (sts bs : List (Str × Int)) (us ss bb : List V), vs = [.ref l, .ref w, .ref s, .ref b, .str p] ∧ AskAt K C H l w s b D ws sts bs us ss bb ∧ p ∈ D.ps ∧
  ∀ H' t, Ex H H' → SqT K H' t [vInt (FP.first (fireOf D ws sts bs 0) p), vInt (FP.first (fireOf D ws sts bs 1) p)] → Q (.ref t) H'
theorem getD_vInt (o : Option Int) : (o.map V.int).getD .non = vInt o := by cases o <;> rfl
section
variable {P : Program} {w : World} {K : PySem.W.Frag} {mg : Str → Option Value} {base : Heap} {a : Ad}
end
end EV

set_option Elab.async false
set_option linter.all false
set_option maxRecDepth 100000
set_option maxHeartbeats 4000000
namespace EV
open PySem PySem.Spec PyProof.Rows L2 EvS Evl FD EnT
/-! ### chains -/
theorem link_uniq {ls : List Link} (nd : (ls.map (·.n)).Nodup) {b k : Link} (hb : b ∈ ls) (hk : k ∈ ls) (e : b.n = k.n) : b = k := by
  obtain ⟨i, hi, ei⟩ := List.getElem_of_mem hb
  obtain ⟨j, hj, ej⟩ := List.getElem_of_mem hk
  have li : i < (ls.map (·.n)).length := by rw [List.length_map]; exact hi
  have lj : j < (ls.map (·.n)).length := by rw [List.length_map]; exact hj
  have z : (ls.map (·.n))[i] = (ls.map (·.n))[j] := by rw [List.getElem_map, List.getElem_map, ei, ej]; exact e
  rcases Nat.lt_trichotomy i j with h | h | h
  · exact absurd z (List.pairwise_iff_getElem.mp nd i j li lj h)
  · subst h
    exact ei.symm.trans ej
  · exact absurd z.symm (List.pairwise_iff_getElem.mp nd j i lj li h)
def sp_link (K : PySem.W.Frag) (C : Addr) : Sp := fun vs H Q _ => ∃ (x : Addr) (z : Str) (D : LandD) (k : Link), vs = [.ref x, .str z] ∧ IsLand K C H x D ∧ LandOk D ∧ k ∈ D.ls ∧ z = k.n ∧ ∀ t, Dp K H (.ref t) (dLink k) → Q (.ref t) H
theorem q_chain_to (l w s b sp st lv : Addr) : (qFs l w s b sp st lv).lookup ("chain_to" : Str) = none := by
  unfold qFs
  rw [lookup_putF, if_neg (by decide +kernel), lookup_putF, if_neg (by decide +kernel), lookup_putF, if_neg (by decide +kernel), lookup_putF, if_neg (by decide +kernel), lookup_putF, if_neg (by decide +kernel), lookup_putF, if_neg (by decide +kernel), lookup_putF, if_neg (by decide +kernel)]
  rfl
theorem fs_link (wi pl li pa : Addr) : (landFs wi pl li pa).lookup ("link" : Str) = none := by
  unfold landFs
  rw [lookup_putF, if_neg (by decide +kernel), lookup_putF, if_neg (by decide +kernel), lookup_putF, if_neg (by decide +kernel), lookup_putF, if_neg (by decide +kernel)]
  rfl
abbrev CRow := Str × Str × Int
def dNm (z : Str) : PyData := if z = "" then .none else .str z
def dCh (r : CRow) : PyData := .tuple [.str r.1, dNm r.2.1, .int r.2.2]
def Comes (D : LandD) (ws : List (Int × Str)) (nums : List (List (Option Int))) (r b : CRow) : Prop := ∃ (j : Nat) (k : Link) (row : List (Option Int)), D.ls[j]? = some k ∧ nums[j]? = some row ∧ r.2.1 = k.n ∧ k.t = r.1 ∧ k.o = b.1 ∧ FP.thr (wt D ws) row b.2.2 = some r.2.2
/-- rows from a place back -/
inductive Back (D : LandD) (ws : List (Int × Str)) (nums : List (List (Option Int))) (f : Str → Option Int) (p : Str) : List CRow → CRow → Prop
  | one {r : CRow} : r.1 = p → f r.1 = some r.2.2 → Back D ws nums f p [r] r
  | step {l : List CRow} {r b : CRow} : Back D ws nums f p l r → f b.1 = some b.2.2 → Comes D ws nums r b → Back D ws nums f p (l ++ [b]) b
theorem flt_le {α : Type} {P Q : α → Bool} (imp : ∀ x, P x = true → Q x = true) : ∀ l : List α, (l.filter P).length ≤ (l.filter Q).length
  | [] => Nat.le_refl _
  | x :: l => by
    have ih := flt_le imp l
    rw [List.filter_cons, List.filter_cons]
    by_cases h : P x = true
    · rw [if_pos h, if_pos (imp x h)]
      simp only [List.length_cons]
      omega
    · rw [if_neg h]
      split
      · simp only [List.length_cons]
        omega
      · exact ih
theorem flt_lt {α : Type} {P Q : α → Bool} (imp : ∀ x, P x = true → Q x = true) {a : α} (h1 : P a = false) (h2 : Q a = true) : ∀ {l : List α}, a ∈ l → (l.filter P).length + 1 ≤ (l.filter Q).length
  | x :: l, h => by
    rw [List.filter_cons, List.filter_cons]
    rcases List.mem_cons.mp h with rfl | h
    · rw [if_neg (by rw [h1]; decide), if_pos h2]
      have := flt_le imp l
      simp only [List.length_cons]
      omega
    · have ih := flt_lt imp h1 h2 h
      by_cases c : P x = true
      · rw [if_pos c, if_pos (imp x c)]
        simp only [List.length_cons]
        omega
      · rw [if_neg c]
        split
        · simp only [List.length_cons]
          omega
        · exact ih
/-- how many places burn after m -/
def aft (ps : List Str) (f : Str → Option Int) (m : Int) : Nat := (ps.filter fun q => match f q with
  | some t => decide (m < t)
  | none => false).length
theorem Comes.lt {D : LandD} {ws : List (Int × Str)} {nums : List (List (Option Int))} (nok : NumsOk D nums) {r b : CRow} (h : Comes D ws nums r b) : b.2.2 < r.2.2 := by
  obtain ⟨j, k, row, h1, h2, h3, h4, h5, h6⟩ := h
  exact FP.thr_gt (nok.row row (List.mem_of_getElem? h2)).2 h6
theorem Back.len {D : LandD} {ws : List (Int × Str)} {nums : List (List (Option Int))} {f : Str → Option Int} {p : Str} (nok : NumsOk D nums) (hf : ∀ q t, f q = some t → q ∈ D.ps ∧ 0 ≤ t) {l : List CRow} {r : CRow} (h : Back D ws nums f p l r) : f r.1 = some r.2.2 ∧ l.length ≤ aft D.ps f r.2.2 + 1 := by
  induction h with
  | one h1 h2 => exact ⟨h2, by simp only [List.length_cons, List.length_nil]; omega⟩
  | @step l r b h1 h2 h3 ih =>
    refine ⟨h2, ?_⟩
    have lt := h3.lt nok
    rw [List.length_append]
    have : aft D.ps f r.2.2 + 1 ≤ aft D.ps f b.2.2 := by
      unfold aft
      refine flt_lt (a := r.1) (fun x hx => ?_) ?_ ?_ (hf _ _ ih.1).1
      · cases e : f x with
        | none => rw [e] at hx; cases hx
        | some t =>
          rw [e] at hx
          have := of_decide_eq_true hx
          exact decide_eq_true (by omega)
      · rw [ih.1]
        exact decide_eq_false (by omega)
      · rw [ih.1]
        exact decide_eq_true lt
    simp only [List.length_cons, List.length_nil]
    omega
theorem aft_le (ps : List Str) (f : Str → Option Int) (m : Int) : aft ps f m ≤ ps.length := List.length_filter_le _ _
theorem caught {D : LandD} {ws : List (Int × Str)} {sts : List (Str × Int)} {nums : List (List (Option Int))} {H : Hp} {kvs : List (Key × V)} {f : Str → Option Int} (kof : KOf H kvs f) (kwy : KWhy D ws sts nums H kvs f) {q : Str} {t : Int} (h : f q = some t) : ∃ (b : Addr) (nm : V) (z : Str), valV kvs (.inr q) = some (.ref b) ∧ H b = some (.tup [.str q, nm, .int t]) ∧ NmV z nm ∧ Why D ws sts nums f q z t := by
  have h2 := kof.2 q
  rw [h] at h2
  cases hv : valV kvs (.inr q) with
  | none => rw [hv] at h2; cases h2
  | some v =>
    have hv' := hv
    unfold valV at hv'
    obtain ⟨kv, h3, h4⟩ := Option.map_eq_some_iff.mp hv'
    have h5 := List.find?_some h3
    have h6 := List.mem_of_find?_eq_some h3
    obtain ⟨q1, t1, b1, nm1, e1, g1, f1⟩ := kof.1 kv h6
    obtain ⟨q2, t2, b2, nm2, z, e2, g2, nz, wy⟩ := kwy kv h6
    rw [e1] at e2 h4 h5
    cases e2
    have h5 := of_decide_eq_true h5
    cases h5
    cases h4
    rw [g1] at g2
    cases g2
    rw [h] at f1
    cases f1
    exact ⟨b1, nm1, z, rfl, g1, nz, wy⟩
theorem dp_ch {K : PySem.W.Frag} {H : Hp} {b : Addr} {nm : V} {q z : Str} {t : Int} (h : H b = some (.tup [.str q, nm, .int t])) (n : NmV z nm) : Dp K H (.ref b) (dCh (q, z, t)) := by
  unfold dCh dNm
  rcases n with ⟨rfl, rfl⟩ | ⟨n, rfl⟩
  · rw [if_pos rfl]
    exact .tup (st_of h) (.cons (.str _) (.cons .non (.cons (.int _) .nil)))
  · rw [if_neg n]
    exact .tup (st_of h) (.cons (.str _) (.cons (.str _) (.cons (.int _) .nil)))
theorem dps_rev {K : PySem.W.Frag} {H : Hp} : ∀ {vs : List V} {ds : List PyData}, DpAll K H vs ds → DpAll K H vs.reverse ds.reverse
  | _, _, .nil => .nil
  | _, _, .cons h hs => by
    rw [List.reverse_cons, List.reverse_cons]
    exact dps_app (dps_rev hs) (dps_one h)
def sp_Question_chain_to (K : PySem.W.Frag) (C CQ : Addr) : Sp := fun vs H Q _ => ∃ (x d : Addr) (p : Str) (D : LandD) (ws : List (Int × Str)) (sts bs : List (Str × Int)) (nums : List (List (Option Int))) (kvs : List (Key × V)) (f : Str → Option Int), vs = [.ref x, .ref d, .str p] ∧ IsQ K C CQ H x D ws sts bs ∧ LandOk D ∧ H d = some (.dK kvs) ∧ KOf H kvs f ∧ KWhy D ws sts nums H kvs f ∧ NumsOk D nums ∧ (∀ q t, f q = some t → q ∈ D.ps ∧ 0 ≤ t) ∧ (∃ t, f p = some t) ∧
  ∀ (H' : Hp) (o : Addr) (us : List V) (rows : List CRow) (r : CRow), Ex H H' → H o = none → H' o = some (.lst us) → DpAll K H' us (rows.map dCh) → Back D ws nums f p rows.reverse r → r.2.1 = "" → (r.1, r.2.2) ∈ sts → rows.length ≤ 25 → Q (.ref o) H'
section
variable {P : Program} {w : World} {K : PySem.W.Frag} {mg : Str → Option Value} {base : Heap} {a : Ad}
theorem G_link (T : Txt K mg a) : FnOk P w K mg base CX0 1 a.f_link a.d_link ["self", "name"] (sp_link K a.C) := by
  refine T.F_link.ok sc_link (fun vs H Q E h => ?_) (fun cdv A outer s H vs Q E hr h => ?_)
  · obtain ⟨x, z, D, k0, rfl, _⟩ := h
    rfl
  · obtain ⟨x, z, D, k0, rfl, hx, ok, hk, rfl, k⟩ := h
    obtain ⟨dx, wi, pl, li, pa, rows, prs, L⟩ := hx
    have rl : rows.length = D.ls.length := by rw [dps_len L.ls, List.length_map]
    obtain ⟨j, hj, ej⟩ := List.getElem_of_mem hk
    refine ⟨_, (pss_cons (ps_for PassesOwn.never rfl (pi_tup (pe_fld (pv 0) rfl)) (pg_name (i := 2) sc_link.nd rfl (Or.inl rfl)) (pss_one (ps_if (pt_cmpR op_eq (pe_ix ix_tup (pv 2) pe_int (fun _ _ => rfl)) (pv 1) (nomark _)) (pss_one (ps_ret (pv 2))) pss_nil)))
      (pss_one ps_any)), ?_⟩
    refine ⟨_, rfl, x, a.C, dx, _, _, rfl, L.ob, T.cl, T.nL, fs_links .., li, rfl, ⟨_, L.li⟩, for_tup (K := K) (a := li) (xs := rows) (fun i σ H' => ∃ v, σ = [some (.ref x), some (.str k0.n), v] ∧ H' = H ∧ i ≤ j) ⟨none, rfl, rfl, Nat.zero_le _⟩ ?_ ?_ ?_⟩
    · rintro i σ H' _ ⟨v, rfl, hH, _⟩
      rw [hH]
      exact L.li
    · rintro i y σ H' hy ⟨v, rfl, hH, hij⟩
      rw [hH]
      have hil : i < rows.length := (List.getElem?_eq_some_iff.mp hy).1
      have eL : D.ls[i]? = some (D.ls[i]'(by omega)) := List.getElem?_eq_getElem (by omega)
      have hm := List.getElem_mem (l := D.ls) (n := i) (by omega)
      obtain ⟨d, hd1, hd2⟩ := dps_at L.ls hy
      rw [List.getElem?_map, eL] at hd1
      obtain rfl := Option.some.inj hd1
      have ne : D.ls[i]'(by omega) ≠ k0 → i < j := fun h => by
        rcases Nat.lt_or_eq_of_le hij with q | q
        · exact q
        · subst q
          exact absurd ej h
      generalize D.ls[i]'(by omega) = b at eL hm hd2 ne
      obtain ⟨t, u, vs, rfl, hT, _, _⟩ := made_in hd2
      refine ⟨_, rfl, t, _, _, _, rfl, rfl, hT, atI_nat (j := 0) rfl, _, rfl, rfl, _, rfl, ?_⟩
      refine ite2 (fun h => ?_) (fun h => ?_)
      · have e : b = k0 := link_uniq ok.gl.2 hm hk (V.str.inj (of_decide_eq_true h))
        rw [e] at hd2
        exact ⟨_, rfl, k t hd2⟩
      · exact ⟨_, rfl, rfl, ne fun e => h (decide_eq_true (by rw [e]))⟩
    · rintro σ H' ⟨v, rfl, hH, hij⟩
      exact absurd hij (by omega)
theorem G_Question_chain_to (T : Txt K mg a) : FnOk P w K mg base CX0 2 a.f_Question_chain_to a.d_Question_chain_to ["self", "caught", "place"] (sp_Question_chain_to K a.C a.C_Question) := by
  refine T.F_Question_chain_to.ok sc_Question_chain_to (fun vs H Q E h => ?_) (fun cdv A outer s H vs Q E hr h => ?_)
  · obtain ⟨x, d, p, D, ws, sts, bs, nums, kvs, f, rfl, _⟩ := h
    rfl
  · obtain ⟨x, d, p, D, ws, sts, bs, nums, kvs, f, rfl, hq, ok, hd, kof, kwy, nok, hf, ⟨t, hp⟩, k⟩ := h
    obtain ⟨dx, l, w, s, b, sp, stp, lv, us, ss, bb, acc, kl, QA⟩ := id hq
    have p24 := ok.p24
    refine ⟨_, (pss_cons (ps_set (i := 3) sc_Question_chain_to.nd rfl (Or.inl rfl) (pe_lst (pa_cons (pe_dget (hu_of hr) (pv 1) (pv 2) (fun _ _ => rfl)) pa_nil)))
      (pss_cons (ps_while PassesOwn.never (pt_cmpR op_notN (pe_ix ix_tup (pe_ix ix_list (pv 3) (pe_un un_neg pe_int) (fun _ _ => rfl)) pe_int (fun _ _ => rfl)) pe_non (nomark _)) (pss_cons (ps_set (i := 4) sc_Question_chain_to.nd rfl (Or.inl rfl) (pe_meth (pe_fld (pv 0) rfl) T.cl T.m_link (G_link T) (hr.mono (by decide)) T.B_link .nil pass0 (pa_cons (pe_ix ix_tup (pe_ix ix_list (pv 3) (pe_un un_neg pe_int) (fun _ _ => rfl)) pe_int (fun _ _ => rfl)) pa_nil)))
        (pss_one (ps_expr (pe_bm PySem.F.plainAttrs_list PySem.F.slot_list_append PySem.F.type_list_append mt_append (pv 3) (pa_cons (pe_dget (hu_of hr) (pv 1) (pe_ix ix_tup (pv 4) pe_int (fun _ _ => rfl)) (fun _ _ => rfl)) pa_nil))))))
      (pss_cons (ps_expr (pe_bm0 PySem.F.plainAttrs_list PySem.F.slot_list_reverse PySem.F.type_list_reverse mt_reverse (pv 3)))
      (pss_one (ps_ret (pv 3)))))), ?_⟩
    obtain ⟨b0, nm0, z0, hv0, hb0, hn0, wy0⟩ := caught kof kwy hp
    have g : ∀ {H' : Hp}, Ex H H' → ∀ z, DGet H' d (.str z) (valV kvs (.inr z)) := fun {H'} e z => DGet.k (k := Sum.inr z) (e _ _ hd)
    have g0 := g (Ex.refl H) p
    rw [hv0] at g0
    refine ⟨_, rfl, _, rfl, d, _, rfl, g0, by show 1 ≤ sizeLine; decide, fun L hL => ?_⟩
    refine ⟨fun m σ H' => ∃ (v4 : Option V) (vs : List V) (bk : List CRow) (bl : Addr) (nm : V) (r : CRow), σ = [some (.ref x), some (.ref d), some (.str p), some (.ref L), v4] ∧ Ex H H' ∧ H' L = some (.lst (vs ++ [.ref bl])) ∧ DpAll K H (vs ++ [.ref bl]) (bk.map dCh) ∧ Back D ws nums f p bk r ∧ H bl = some (.tup [.str r.1, nm, .int r.2.2]) ∧ NmV r.2.1 nm ∧ Why D ws sts nums f r.1 r.2.1 r.2.2 ∧ m = r.2.2.toNat, ⟨_, none, [], [(p, z0, t)], b0, nm0, (p, z0, t), rfl, Ex.new hL, upd_same, dps_one (dp_ch hb0 hn0), .one rfl hp, hb0, hn0, wy0, rfl⟩, ?_⟩
    rintro m σ H1 ⟨v4, vs, bk, bl, nm, r, rfl, e, hl, da, bck, hbl, hnm, wy, rfl⟩
    obtain ⟨fr, lbk⟩ := bck.len nok hf
    have al := aft_le D.ps f r.2.2
    have lvs := dps_len da
    rw [List.length_map] at lvs
    refine ⟨_, rfl, _, rfl, L, _, _, _, rfl, rfl, SqL.of hl, atI_last _ _, bl, _, _, _, rfl, rfl, st_of (e _ _ hbl), atI_nat (j := 1) rfl, ?_⟩
    refine ⟨rfl, _, rfl, ?_⟩
    rcases hnm with ⟨hz, rfl⟩ | ⟨hz, rfl⟩
    · refine iteF ?_
      have st : (r.1, r.2.2) ∈ sts := by
        rcases wy with ⟨_, h⟩ | ⟨j, k0, row, t0, h1, _, h3, _⟩
        · exact h
        · exfalso
          have := (name_len (ok.gl.1 k0.n (List.mem_map.mpr ⟨k0, List.mem_of_getElem? h1, rfl⟩))).1
          rw [← h3, hz] at this
          exact absurd this (by decide)
      refine ⟨_, rfl, .inl ⟨rfl, _, SqL.of hl⟩, L, _, rfl, rfl, hl, _, rfl, ?_⟩
      exact k _ L _ bk.reverse r (e.mut hL) hL upd_same (by rw [List.map_reverse]; exact dps_rev (dps_ex (e.mut hL) da)) (by rw [List.reverse_reverse]; exact bck) hz st (by rw [List.length_reverse]; omega)
    · refine iteT ?_
      rcases wy with ⟨h, _⟩ | ⟨j, k0, row, t0, h1, h2, h3, h4, h5, h6⟩
      · exact absurd h hz
      refine ⟨_, fun σ' H' h => h, ?_⟩
      have kin := List.mem_of_getElem? h1
      have ld := QA.ld.ex e
      obtain ⟨dxl, wi, pl, li, pa, rows, prs, Lx⟩ := id ld
      refine ⟨_, rfl, x, a.C_Question, dx, _, _, rfl, e _ _ QA.ob, T.cl_Question, T.na_Question_land, q_land .., l, dxl, _, rfl, Lx.ob, fs_link .., _, rfl, _, rfl, L, _, _, _, rfl, rfl, SqL.of hl, atI_last _ _, bl, _, _, _, rfl, rfl, st_of (e _ _ hbl), atI_nat (j := 1) rfl, l, r.2.1, D, k0, rfl, ld, ok, kin, h3, fun tl htl => ?_⟩
      obtain ⟨tl', u, vs', etl, hT, _, _⟩ := link_in htl
      cases etl
      obtain ⟨b1, nm1, z1, hv1, hb1, hn1, wy1⟩ := caught kof kwy h5
      have g1 := g e k0.o
      rw [hv1] at g1
      have t0n := (hf _ _ h5).2
      have t0l := FP.thr_gt (nok.row row (List.mem_of_getElem? h2)).2 h6
      refine ⟨_, rfl, .inl ⟨rfl, _, SqL.of hl⟩, _, rfl, _, rfl, tl, _, _, _, rfl, rfl, hT, atI_nat (j := 1) rfl, d, _, rfl, g1, L, _, _, rfl, rfl, hl, sz_of (by omega), t0.toNat, by omega, _, vs ++ [.ref bl], bk ++ [(k0.o, z1, t0)], b1, nm1, (k0.o, z1, t0), rfl, e.mut hL, upd_same, ?_, .step bck h5 ⟨j, k0, row, h1, h2, h3, h4, rfl, h6⟩, hb1, hn1, wy1, rfl⟩
      rw [List.map_append]
      exact dps_app da (dps_one (dp_ch hb1 hn1))
end
end EV

set_option Elab.async false
set_option linter.all false
set_option maxRecDepth 100000
set_option maxHeartbeats 4000000
namespace EV
open PySem PySem.Spec PyProof.Rows L2 EvS Evl FD EnT
/-! ### papers -/
def pFs (wd : Str) (lb ch : Addr) : List (Str × V) := putF "chain" (.ref ch) (putF "labels" (.ref lb) (putF "word" (.str wd) []))
theorem p_word (wd : Str) (lb ch : Addr) : (pFs wd lb ch).lookup ("word" : Str) = some (V.str wd) := by
  unfold pFs
  rw [lookup_putF, if_neg (by decide +kernel), lookup_putF, if_neg (by decide +kernel), lookup_putF, if_pos rfl]
theorem p_labels (wd : Str) (lb ch : Addr) : (pFs wd lb ch).lookup ("labels" : Str) = some (V.ref lb) := by
  unfold pFs
  rw [lookup_putF, if_neg (by decide +kernel), lookup_putF, if_pos rfl]
theorem p_chain (wd : Str) (lb ch : Addr) : (pFs wd lb ch).lookup ("chain" : Str) = some (V.ref ch) := by
  unfold pFs
  rw [lookup_putF, if_pos rfl]
def IsPaper (K : PySem.W.Frag) (CP : Addr) (H : Hp) (x : Addr) (wd : Str) (ls : List (Str × Int)) (rows : List CRow) : Prop := ∃ (dx lb ch : Addr) (us cs : List V), H x = some (.ins CP dx (pFs wd lb ch)) ∧ SqL K H lb us ∧ DpAll K H us (ls.map dPm) ∧ SqL K H ch cs ∧ DpAll K H cs (rows.map dCh)
theorem IsPaper.ex {K : PySem.W.Frag} {CP : Addr} {H H' : Hp} {x : Addr} {wd : Str} {ls : List (Str × Int)} {rows : List CRow} (e : Ex H H') (h : IsPaper K CP H x wd ls rows) : IsPaper K CP H' x wd ls rows := by
  obtain ⟨dx, lb, ch, us, cs, h1, h2, h3, h4, h5⟩ := h
  exact ⟨dx, lb, ch, us, cs, e _ _ h1, ex_l e h2, dps_ex e h3, ex_l e h4, dps_ex e h5⟩
def lab (D : LandD) (f : Str → Option Int) : List (Str × Int) := D.ps.filterMap fun p => (f p).map fun t => (p, t)
def ChainOk (D : LandD) (ws : List (Int × Str)) (sts : List (Str × Int)) (nums : List (List (Option Int))) (f : Str → Option Int) (p : Str) (rows : List CRow) : Prop := ∃ r, Back D ws nums f p rows.reverse r ∧ r.2.1 = "" ∧ (r.1, r.2.2) ∈ sts ∧ rows.length ≤ 25
noncomputable def wordOf (f0 f1 : Str → Option Int) (p : Str) : Str := match f0 p with
  | none => "never"
  | some _ => match f1 p with
    | none => "maybe"
    | some _ => "surely"
def PaperOk (D : LandD) (ws : List (Int × Str)) (sts bs : List (Str × Int)) (p : Str) (ls : List (Str × Int)) (rows : List CRow) : Prop :=
  (FP.first (fireOf D ws sts bs 0) p = none ∧ ls = lab D (FP.first (fireOf D ws sts bs 0)) ∧ rows = []) ∨
  (FP.first (fireOf D ws sts bs 0) p ≠ none ∧ FP.first (fireOf D ws sts bs 1) p = none ∧ ls = lab D (FP.first (fireOf D ws sts bs 1)) ∧ ChainOk D ws sts (numsS 0 D) (FP.first (fireOf D ws sts bs 0)) p rows) ∨
  (FP.first (fireOf D ws sts bs 0) p ≠ none ∧ FP.first (fireOf D ws sts bs 1) p ≠ none ∧ ls = [] ∧ ChainOk D ws sts (numsS 1 D) (FP.first (fireOf D ws sts bs 1)) p rows)
theorem ch_in {K : PySem.W.Frag} {H : Hp} {v : V} {r : CRow} (h : Dp K H v (dCh r)) : ∃ t nm, v = .ref t ∧ SqT K H t [.str r.1, nm, .int r.2.2] ∧ Dp K H nm (dNm r.2.1) := by
  unfold dCh at h
  cases h with
  | tup st al =>
    cases al with
    | cons d1 al =>
      cases al with
      | cons d2 al =>
        cases al with
        | cons d3 al =>
          cases al
          cases d1
          cases d3
          exact ⟨_, _, rfl, st, d2⟩
def sp_Paper_init (K : PySem.W.Frag) (CP : Addr) : Sp := fun vs H Q _ => ∃ (H0 : Hp) (x dx lb ch : Addr) (wd : Str) (us cs : List V) (ls : List (Str × Int)) (rows : List CRow), vs = [.ref x, .str wd, .ref lb, .ref ch] ∧ Ex H0 H ∧ H0 x = none ∧ H x = some (.ins CP dx []) ∧ SqL K H0 lb us ∧ DpAll K H0 us (ls.map dPm) ∧ ls.length ≤ 1000 ∧ SqL K H0 ch cs ∧ DpAll K H0 cs (rows.map dCh) ∧ rows.length ≤ 1000 ∧
  ∀ H', Ex H0 H' → IsPaper K CP H' x wd ls rows → Q .non H'
def sp__labels_of (K : PySem.W.Frag) (C : Addr) : Sp := fun vs H Q _ => ∃ (l d : Addr) (D : LandD) (kvs : List (Key × V)) (f : Str → Option Int), vs = [.ref l, .ref d] ∧ IsLand K C H l D ∧ LandOk D ∧ H d = some (.dK kvs) ∧ KOf H kvs f ∧
  ∀ H' o us, Ex H H' → H o = none → H' o = some (.lst us) → DpAll K H' us ((lab D f).map dPm) → Q (.ref o) H'
def sp_paper (K : PySem.W.Frag) (C CP : Addr) : Sp := fun vs H Q _ => ∃ (l w s b : Addr) (p : Str) (D : LandD) (ws : List (Int × Str)) (sts bs : List (Str × Int)) (us ss bb : List V), vs = [.ref l, .ref w, .ref s, .ref b, .str p] ∧ AskAt K C H l w s b D ws sts bs us ss bb ∧ p ∈ D.ps ∧
  ∀ H' x ls rows, Ex H H' → H x = none → IsPaper K CP H' x (wordOf (FP.first (fireOf D ws sts bs 0)) (FP.first (fireOf D ws sts bs 1)) p) ls rows → PaperOk D ws sts bs p ls rows → Q (.ref x) H'
theorem lab_next {f : Str → Option Int} {ps : List Str} {i : Nat} {z : Str} (h : ps[i]? = some z) : (ps.take (i + 1)).filterMap (fun p => (f p).map fun t => (p, t)) = (ps.take i).filterMap (fun p => (f p).map fun t => (p, t)) ++ match f z with
    | none => []
    | some t => [(z, t)] := by
  rw [take_one h, List.filterMap_append]
  congr 1
  rw [List.filterMap_cons, List.filterMap_nil]
  cases f z <;> rfl
theorem KOf.ent {H : Hp} {kvs : List (Key × V)} {f : Str → Option Int} (kof : KOf H kvs f) {q : Str} {t : Int} (h : f q = some t) : ∃ (b : Addr) (nm : V), valV kvs (.inr q) = some (.ref b) ∧ H b = some (.tup [.str q, nm, .int t]) := by
  have h2 := kof.2 q
  rw [h] at h2
  cases hv : valV kvs (.inr q) with
  | none => rw [hv] at h2; cases h2
  | some v =>
    have hv' := hv
    unfold valV at hv'
    obtain ⟨kv, h3, h4⟩ := Option.map_eq_some_iff.mp hv'
    have h5 := List.find?_some h3
    have h6 := List.mem_of_find?_eq_some h3
    obtain ⟨q1, t1, b1, nm1, e1, g1, f1⟩ := kof.1 kv h6
    rw [e1] at h4 h5
    have h5 := of_decide_eq_true h5
    cases h5
    cases h4
    rw [h] at f1
    cases f1
    exact ⟨b1, nm1, rfl, g1⟩
section
variable {P : Program} {w : World} {K : PySem.W.Frag} {mg : Str → Option Value} {base : Heap} {a : Ad}
theorem G__labels_of (T : Txt K mg a) : FnOk P w K mg base CX0 1 a.f__labels_of a.d__labels_of ["land", "caught"] (sp__labels_of K a.C) := by
  refine T.F__labels_of.ok sc__labels_of (fun vs H Q E h => ?_) (fun cdv A outer s H vs Q E hr h => ?_)
  · obtain ⟨l, d, D, kvs, f, rfl, _⟩ := h
    rfl
  · obtain ⟨l, d, D, kvs, f, rfl, hl, ok, hd, kof, k⟩ := h
    obtain ⟨dxl, wi, pl, li, pa, rows, prs, L⟩ := hl
    have p24 := ok.p24
    refine ⟨_, (pss_one (ps_ret (pe_lc (own := [("place", 2)]) (g := gName 2) rfl sc__labels_of.nd (pi_tup (pe_fld (pv 0) rfl)) (blkOk_by (N := ["land", "caught", "place"]) (sc := defScope s__labels_of) (by decide +kernel)) (fun _ _ _ _ _ => pg_name (i := 2) sc__labels_of.nd rfl (Or.inl rfl)) (fun _ _ _ _ _ => pts_one (pt_cmp (pc_din (hu_of hr) (pv 2) (pv 1)))) (fun _ _ _ _ _ => (pe_tup (pa_cons (pv 2) (pa_cons (pe_ix (show IxR _ (rIxT K) from ix_tup) (pe_dget (hu_of hr) (pv 1) (pv 2) (fun _ _ => rfl)) pe_int (fun _ _ => rfl)) pa_nil))))))), ?_⟩
    have g : ∀ {H' : Hp}, Ex H H' → ∀ z, DGet H' d (.str z) (valV kvs (.inr z)) := fun {H'} e z => DGet.k (k := Sum.inr z) (e _ _ hd)
    refine ⟨_, rfl, l, a.C, dxl, _, _, rfl, L.ob, T.cl, T.nP, fs_places .., pl, rfl, ⟨_, L.pl⟩, fun D0 hD => lc_tup (K := K) (a := pl) (xs := D.ps.map V.str) (fun i H' => Ex H H' ∧ ∃ acc, H' D0 = some (.lst acc) ∧ acc.length ≤ i ∧ DpAll K (del H' D0) acc (((D.ps.take i).filterMap fun p => (f p).map fun t => (p, t)).map dPm)) ⟨Ex.new hD, [], upd_same, Nat.le_refl _, .nil⟩ (fun i H' _ z => ex_t z.1 L.pl) (fun i y H' hy z => ?_) (fun H2 z => ?_)⟩
    · obtain ⟨e, acc, ha, la, da⟩ := z
      have hi := (List.getElem?_eq_some_iff.mp hy).1
      rw [List.length_map] at hi
      rw [List.getElem?_map] at hy
      obtain ⟨z, hz, rfl⟩ := Option.map_eq_some_iff.mp hy
      rw [lab_next hz, List.map_append]
      have gz := g e z
      refine ⟨rfl, _, rfl, _, rfl, d, _, rfl, gz, _, rfl, ?_⟩
      rw [kof.2 z]
      cases hf : f z with
      | none => exact iteF ⟨e, acc, ha, by omega, by simpa using da⟩
      | some t =>
        obtain ⟨b, nm, hv, hb⟩ := kof.ent hf
        rw [hv] at gz
        refine iteT ⟨_, rfl, _, rfl, _, rfl, d, _, rfl, gz, b, _, _, _, rfl, rfl, st_of (e _ _ hb), atI_nat (j := 2) rfl, by show 2 ≤ sizeLine; decide, fun u hu => ?_⟩
        have eT := Ex.new (o := .tup [.str z, .int t]) hu
        have tD : u ≠ D0 := fun q => by rw [q, ha] at hu; cases hu
        refine ⟨acc, eT _ _ ha, sz_lt (by omega), (e.trans eT).mut hD, acc ++ [.ref u], upd_same, by rw [List.length_append]; show acc.length + 1 ≤ i + 1; omega, ?_⟩
        rw [del_upd]
        exact dps_app (dps_ex (ex_del eT) da) (dps_one (.tup (st_of (del_at tD upd_same)) (.cons (.str _) (.cons (.int _) .nil))))
    · obtain ⟨e, acc, ha, la, da⟩ := z
      rw [List.length_map, List.take_length] at da
      exact k H2 D0 acc e hD ha (dps_ex del_ex da)
theorem G_Paper_init (T : Txt K mg a) : FnOk P w K mg base CX0 1 a.f_Paper_init a.d_Paper_init ["self", "word", "labels", "chain"] (sp_Paper_init K a.C_Paper) := by
  refine T.F_Paper_init.ok sc_Paper_init (fun vs H Q E h => ?_) (fun cdv A outer s H vs Q E hr h => ?_)
  · obtain ⟨H0, x, dx, lb, ch, wd, us, cs, ls, rows, rfl, _⟩ := h
    rfl
  · obtain ⟨H0, x, dx, lb, ch, wd, us, cs, ls, rows, rfl, e0, x0, hx, hlb, dlb, llb, hch, dch, lch, k⟩ := h
    have lu := dps_len dlb
    rw [List.length_map] at lu
    have lc := dps_len dch
    rw [List.length_map] at lc
    refine ⟨_, (pss_cons (ps_fld (pv 0) (pv 1) rfl)
      (pss_cons (ps_fld (pv 0) (pe_lc (own := [("label", 4)]) (g := gName 4) (tt := tYes) rfl sc_Paper_init.nd (pi_list (pv 2)) (blkOk_by (N := ["self", "word", "labels", "chain", "label", "row"]) (sc := defScope s_Paper_init) (by decide +kernel)) (fun _ _ _ _ _ => pg_name (i := 4) sc_Paper_init.nd rfl (Or.inl rfl)) (fun _ _ _ _ _ => pts_nil) (fun _ _ _ _ _ => (pe_callTy (show CallR _ _ (rTupK K) from call_tupK) (by rfl) T.z_tuple (by decide +kernel) (pa_cons (pv 4) pa_nil)))) rfl)
      (pss_one (ps_fld (pv 0) (pe_lc (own := [("row", 5)]) (g := gName 5) (tt := tYes) rfl sc_Paper_init.nd (pi_list (pv 3)) (blkOk_by (N := ["self", "word", "labels", "chain", "label", "row"]) (sc := defScope s_Paper_init) (by decide +kernel)) (fun _ _ _ _ _ => pg_name (i := 5) sc_Paper_init.nd rfl (Or.inl rfl)) (fun _ _ _ _ _ => pts_nil) (fun _ _ _ _ _ => (pe_callTy (show CallR _ _ (rTupK K) from call_tupK) (by rfl) T.z_tuple (by decide +kernel) (pa_cons (pv 5) pa_nil)))) rfl)))), ?_⟩
    have b0 : Ex H0 (del H x) := ex_to_del e0 x0
    refine ⟨_, rfl, _, rfl, x, a.C_Paper, dx, [], rfl, hx, T.cl_Paper, T.na_Paper_word, by decide, ?_⟩
    have b1 : Ex H0 (del (upd H x (.ins a.C_Paper dx (putF "word" (.str wd) []))) x) := by rw [del_upd]; exact b0
    have hx1 : (upd H x (.ins a.C_Paper dx (putF "word" (.str wd) []))) x = some (.ins a.C_Paper dx (putF "word" (.str wd) [])) := upd_same
    generalize upd H x (.ins a.C_Paper dx (putF "word" (.str wd) [])) = H1 at b1 hx1
    have c1 := b1.trans del_ex
    refine ⟨_, rfl, lb, rfl, ⟨_, ex_l c1 hlb⟩, fun l' hl' => lcY_list (K := K) (a := lb) (xs := us) (fun i H' => Ex H1 H' ∧ H' l' = some (.lst (us.take i))) ⟨Ex.new hl', upd_same⟩ (fun i H' _ z => ex_l (c1.trans z.1) hlb) (fun i y H' hy z => ?_) (fun H2 z => ?_)⟩
    · have hi := (List.getElem?_eq_some_iff.mp hy).1
      obtain ⟨r, hrr, hmr, dp⟩ := pick (dps_ex (c1.trans z.1) dlb) hy
      obtain ⟨t, rfl, st⟩ := pm_in dp
      refine ⟨rfl, _, rfl, t, _, rfl, .inr ⟨st, _, z.2, sz_lt (by simp only [List.length_take]; omega), z.1.mut hl', ?_⟩⟩
      rw [upd_same, take_one hy]
    obtain ⟨e2, ml⟩ := z
    rw [List.take_length] at ml
    refine ⟨_, rfl, x, a.C_Paper, dx, _, rfl, e2 _ _ hx1, T.cl_Paper, T.na_Paper_labels, by show 1 < 1000; decide, ?_⟩
    have lx : l' ≠ x := fun q => by rw [q, hx1] at hl'; cases hl'
    have b2 : Ex (del H1 x) (del (upd H2 x (.ins a.C_Paper dx (putF "labels" (.ref l') (putF "word" (.str wd) [])))) x) := by rw [del_upd]; exact ex_del e2
    have ml2 : (del (upd H2 x (.ins a.C_Paper dx (putF "labels" (.ref l') (putF "word" (.str wd) [])))) x) l' = some (.lst us) := by rw [del_upd]; exact del_at lx ml
    have hx2 : (upd H2 x (.ins a.C_Paper dx (putF "labels" (.ref l') (putF "word" (.str wd) [])))) x = some (.ins a.C_Paper dx (putF "labels" (.ref l') (putF "word" (.str wd) []))) := upd_same
    generalize upd H2 x (.ins a.C_Paper dx (putF "labels" (.ref l') (putF "word" (.str wd) []))) = H3 at b2 ml2 hx2
    have b02 := b1.trans b2
    have c2 := b02.trans del_ex
    refine ⟨_, rfl, ch, rfl, ⟨_, ex_l c2 hch⟩, fun c' hc' => lcY_list (K := K) (a := ch) (xs := cs) (fun i H' => Ex H3 H' ∧ H' c' = some (.lst (cs.take i))) ⟨Ex.new hc', upd_same⟩ (fun i H' _ z => ex_l (c2.trans z.1) hch) (fun i y H' hy z => ?_) (fun H4 z => ?_)⟩
    · have hi := (List.getElem?_eq_some_iff.mp hy).1
      obtain ⟨r, hrr, hmr, dp⟩ := pick (dps_ex (c2.trans z.1) dch) hy
      obtain ⟨t, nm, rfl, st, _⟩ := ch_in dp
      refine ⟨rfl, _, rfl, t, _, rfl, .inr ⟨st, _, z.2, sz_lt (by simp only [List.length_take]; omega), z.1.mut hc', ?_⟩⟩
      rw [upd_same, take_one hy]
    obtain ⟨e4, mc⟩ := z
    rw [List.take_length] at mc
    refine ⟨_, rfl, x, a.C_Paper, dx, _, rfl, e4 _ _ hx2, T.cl_Paper, T.na_Paper_chain, by show 2 < 1000; decide, ?_⟩
    have cx : c' ≠ x := fun q => by rw [q, hx2] at hc'; cases hc'
    have b3 : Ex (del H3 x) (del (upd H4 x (.ins a.C_Paper dx (pFs wd l' c'))) x) := by rw [del_upd]; exact ex_del e4
    have mc3 : (del (upd H4 x (.ins a.C_Paper dx (pFs wd l' c'))) x) c' = some (.lst cs) := by rw [del_upd]; exact del_at cx mc
    have e5 := (b02.trans b3).trans del_ex
    exact k _ e5 ⟨dx, l', c', us, cs, upd_same, SqL.of (del_ex _ _ (b3 _ _ ml2)), dps_ex e5 dlb, SqL.of (del_ex _ _ mc3), dps_ex e5 dch⟩
end
end EV

set_option Elab.async false
set_option linter.all false
set_option maxRecDepth 100000
set_option maxHeartbeats 4000000
namespace EV
open PySem PySem.Spec PyProof.Rows L2 EvS Evl FD EnT
section
variable {P : Program} {w : World} {K : PySem.W.Frag} {mg : Str → Option Value} {base : Heap} {a : Ad}
theorem G_paper (T : Txt K mg a) : FnOk P w K mg base CX0 6 a.f_paper a.d_paper ["land", "weather", "starts", "breaks", "place"] (sp_paper K a.C a.C_Paper) := by
  refine T.F_paper.ok sc_paper (fun vs H Q E h => ?_) (fun cdv A outer s H vs Q E hr h => ?_)
  · obtain ⟨l, w, s, b, p, D, ws, sts, bs, us, ss, bb, rfl, _⟩ := h
    rfl
  · obtain ⟨l, w, s, b, p, D, ws, sts, bs, us, ss, bb, rfl, A, hp, k⟩ := h
    refine ⟨_, (pss_cons (ps_set (i := 5) sc_paper.nd rfl (Or.inl rfl) (pe_call (G_ask T) (hr.mono (by decide)) (by rfl) T.g_ask T.k_ask T.B_ask .nil pass0 (pa_cons (pv 0) (pa_cons (pv 1) (pa_cons (pv 2) (pa_cons (pv 3) (pa_cons (pe_lst (pa_cons (pv 4) pa_nil)) pa_nil)))))))
      (pss_cons (ps_set (i := 6) sc_paper.nd rfl (Or.inl rfl) (pe_meth (pv 5) T.cl_Question T.m_Question_catches (G_Question_catches T) (hr.mono (by decide)) T.B_Question_catches .nil pass0 (pa_cons (pe_call (G_least_numbers T) (hr.mono (by decide)) (by rfl) T.g_least_numbers T.k_least_numbers T.B_least_numbers .nil pass0 (pa_cons (pv 0) pa_nil)) pa_nil)))
      (pss_cons (ps_set (i := 7) sc_paper.nd rfl (Or.inl rfl) (pe_meth (pv 5) T.cl_Question T.m_Question_catches (G_Question_catches T) (hr.mono (by decide)) T.B_Question_catches .nil pass0 (pa_cons (pe_call (G_most_numbers T) (hr.mono (by decide)) (by rfl) T.g_most_numbers T.k_most_numbers T.B_most_numbers .nil pass0 (pa_cons (pv 0) pa_nil)) pa_nil)))
      (pss_cons (ps_if (pt_cmp (pc_dnotin (hu_of hr) (pv 4) (pv 6))) (pss_one (ps_ret (pe_make T.mk_Paper (G_Paper_init T) (hr.mono (by decide)) (by rfl) T.g_Paper T.B_Paper_init .nil pass0 (pa_cons (pe_gS rfl T.c_NEVER) (pa_cons (pe_call (G__labels_of T) (hr.mono (by decide)) (by rfl) T.g__labels_of T.k__labels_of T.B__labels_of .nil pass0 (pa_cons (pv 0) (pa_cons (pv 6) pa_nil))) (pa_cons (pe_lst pa_nil) pa_nil)))))) pss_nil)
      (pss_cons (ps_if (pt_cmp (pc_din (hu_of hr) (pv 4) (pv 7))) (pss_one (ps_ret (pe_make T.mk_Paper (G_Paper_init T) (hr.mono (by decide)) (by rfl) T.g_Paper T.B_Paper_init .nil pass0 (pa_cons (pe_gS rfl T.c_SURELY) (pa_cons (pe_lst pa_nil) (pa_cons (pe_meth (pv 5) T.cl_Question T.m_Question_chain_to (G_Question_chain_to T) (hr.mono (by decide)) T.B_Question_chain_to .nil pass0 (pa_cons (pv 7) (pa_cons (pv 4) pa_nil))) pa_nil)))))) pss_nil)
      (pss_one (ps_ret (pe_make T.mk_Paper (G_Paper_init T) (hr.mono (by decide)) (by rfl) T.g_Paper T.B_Paper_init .nil pass0 (pa_cons (pe_gS rfl T.c_MAYBE) (pa_cons (pe_call (G__labels_of T) (hr.mono (by decide)) (by rfl) T.g__labels_of T.k__labels_of T.B__labels_of .nil pass0 (pa_cons (pv 0) (pa_cons (pv 7) pa_nil))) (pa_cons (pe_meth (pv 5) T.cl_Question T.m_Question_chain_to (G_Question_chain_to T) (hr.mono (by decide)) T.B_Question_chain_to .nil pass0 (pa_cons (pv 6) (pa_cons (pv 4) pa_nil))) pa_nil))))))))))), ?_⟩
    have okF0 : FP.Ok (fireOf D ws sts bs 0) D.ps := fire_ok A.ok A.sok 0
    have okF1 : FP.Ok (fireOf D ws sts bs 1) D.ps := fire_ok A.ok A.sok 1
    have p24 := A.ok.p24
    have ll : ∀ f : Str → Option Int, (lab D f).length ≤ 1000 := fun f => Nat.le_trans (List.length_filterMap_le _ _) (by omega)
    refine ⟨_, rfl, _, rfl, _, rfl, _, rfl, _, rfl, by show 1 ≤ sizeLine; decide, fun o ho => ?_⟩
    have e1 := Ex.new (o := .lst [.str p]) ho
    have A1 := A.ex e1
    refine ⟨l, w, s, b, o, D, ws, us, sts, bs, ss, bb, [p], rfl, A1.ld, A1.ok, A1.hw, A1.dw, A1.wok, A1.hs, A1.ds, Nat.le_trans A1.ls (by decide), A1.sok.pm, A1.hb, A1.db, Nat.le_trans A1.lb (by decide), A1.bok, .inl (SqL.of upd_same), (fun q hq => by rw [List.mem_singleton.mp hq]; exact hp), fun H2 x e2 hx => ?_⟩
    have e12 := e1.trans e2
    obtain ⟨dx, l', w', s', b', sp, stp, lv, us', ss', bb', acc, kl, QA⟩ := id hx
    refine ⟨_, rfl, x, dx, _, rfl, QA.ob, q_catches .., _, rfl, l, D, rfl, A.ld.ex e12, A.ok, fun H3 n1 ns1 e3 _ hn1 dn1 => ?_⟩
    refine ⟨x, n1, D, ws, sts, bs, numsS 0 D, ns1, rfl, hx.ex e3, A.ok, A.wok, A.sok, A.ls, hn1, dn1, numsS_ok A.ok 0, fun d0 H4 kv0 e4 _ hd0 lk0 kof0 kwy0 => ?_⟩
    rw [fireN_S] at kof0 kwy0
    have e24 := e3.trans e4
    refine ⟨_, rfl, x, dx, _, rfl, e24 _ _ QA.ob, q_catches .., _, rfl, l, D, rfl, A.ld.ex (e12.trans e24), A.ok, fun H5 n2 ns2 e5 _ hn2 dn2 => ?_⟩
    refine ⟨x, n2, D, ws, sts, bs, numsS 1 D, ns2, rfl, hx.ex (e24.trans e5), A.ok, A.wok, A.sok, A.ls, hn2, dn2, numsS_ok A.ok 1, fun d1 H6 kv1 e6 _ hd1 lk1 kof1 kwy1 => ?_⟩
    rw [fireN_S] at kof1 kwy1
    have e46 := e5.trans e6
    have hd0 := e46 _ _ hd0
    have kof0 := kof0.ex e46
    have kwy0 := kwy0.ex e46
    have e16 := (e12.trans e24).trans e46
    have hx6 := hx.ex (e24.trans e46)
    have e46' := e24.trans e46
    have ld6 := A.ld.ex e16
    have g0 : DGet H6 d0 (.str p) (valV kv0 (.inr p)) := DGet.k (k := Sum.inr p) hd0
    have g1 : DGet H6 d1 (.str p) (valV kv1 (.inr p)) := DGet.k (k := Sum.inr p) hd1
    clear hn1 dn1 hn2 dn2 e1 e2 e3 e4 e5 e6 e12 e24 e46
    -- a paper, made
    have made : ∀ {H7 : Hp} {lb ch : Addr} {wd : Str} {us cs : List V} {ls : List (Str × Int)} {rows : List CRow} {E' : XK}, Ex H H7 → SqL K H7 lb us → DpAll K H7 us (ls.map dPm) → ls.length ≤ 1000 → SqL K H7 ch cs → DpAll K H7 cs (rows.map dCh) → rows.length ≤ 1000 → wd = wordOf (FP.first (fireOf D ws sts bs 0)) (FP.first (fireOf D ws sts bs 1)) p → PaperOk D ws sts bs p ls rows → ∀ (z dz : Addr), H7 z = none → H7 dz = none → dz ≠ z → sp_Paper_init K a.C_Paper [.ref z, .str wd, .ref lb, .ref ch] (upd (upd H7 dz (.own z)) z (.ins a.C_Paper dz [])) (fun v H' => v = .non ∧ Q (.ref z) H') E' := fun {H7 lb ch wd us cs ls rows E'} e h1 h2 h3 h4 h5 h6 h7 h8 z dz hz hdz ne => by
      refine ⟨H7, z, dz, lb, ch, wd, us, cs, ls, rows, rfl, (Ex.new hdz).trans (Ex.new (by rw [upd_ne ne.symm]; exact hz)), hz, upd_same, h1, h2, h3, h4, h5, h6, fun H8 e8 ip => ?_⟩
      rw [h7] at ip
      exact ⟨rfl, k H8 z ls rows (e.trans e8) (fresh_back e hz) ip h8⟩
    refine ⟨_, rfl, _, rfl, d0, _, rfl, g0, _, rfl, ?_⟩
    rw [kof0.2 p]
    cases h0 : FP.first (fireOf D ws sts bs 0) p with
    | none =>
      refine iteT ?_
      refine ⟨_, rfl, _, rfl, l, d0, D, kv0, _, rfl, ld6, A.ok, hd0, kof0, fun H7 o us7 e7 _ ho dl => ⟨by show 0 ≤ sizeLine; decide, fun c hc => ?_⟩⟩
      have eC := Ex.new (o := .lst []) hc
      refine fun z dz hz hdz ne => ?_
      exact made (wd := "never") (ls := lab D _) (rows := []) ((e16.trans e7).trans eC) (SqL.of (eC _ _ ho)) (dps_ex eC dl) (ll _) (SqL.of upd_same) .nil (by decide) (by unfold wordOf; rw [h0]) (.inl ⟨h0, rfl, rfl⟩) z dz hz hdz ne
    | some t0 =>
      refine iteF ?_
      refine ⟨_, rfl, _, rfl, d1, _, rfl, g1, _, rfl, ?_⟩
      rw [kof1.2 p]
      cases h1 : FP.first (fireOf D ws sts bs 1) p with
      | none =>
        refine iteF ?_
        refine ⟨_, rfl, _, rfl, l, d1, D, kv1, _, rfl, ld6, A.ok, hd1, kof1, fun H7 o us7 e7 _ ho dl => ?_⟩
        refine ⟨_, rfl, x, dx, _, rfl, e7 _ _ (e46' _ _ QA.ob), q_chain_to .., _, rfl, _, rfl, x, d0, p, D, ws, sts, bs, numsS 0 D, kv0, _, rfl, hx6.ex e7, A.ok, e7 _ _ hd0, kof0.ex e7, kwy0.ex e7, numsS_ok A.ok 0, (fun q t h => FP.first_in okF0 h), ⟨t0, h0⟩, fun H8 o8 cs rows r e8 _ ho8 dc bk z0 st l25 => ?_⟩
        refine fun z dz hz hdz ne => ?_
        exact made (wd := "maybe") (ls := lab D _) (rows := rows) ((e16.trans e7).trans e8) (SqL.of (e8 _ _ ho)) (dps_ex e8 dl) (ll _) (SqL.of ho8) dc (by omega) (by unfold wordOf; rw [h0, h1]) (.inr (.inl ⟨by rw [h0]; exact fun z => (by cases z), h1, rfl, r, bk, z0, st, l25⟩)) z dz hz hdz ne
      | some t1 =>
        refine iteT ?_
        refine ⟨by show 0 ≤ sizeLine; decide, fun c hc => ?_⟩
        have eC := Ex.new (o := .lst []) hc
        have mc : (upd H6 c (.lst [])) c = some (.lst []) := upd_same
        generalize upd H6 c (.lst []) = H7 at eC mc
        refine ⟨_, rfl, x, dx, _, rfl, eC _ _ (e46' _ _ QA.ob), q_chain_to .., _, rfl, _, rfl, x, d1, p, D, ws, sts, bs, numsS 1 D, kv1, _, rfl, hx6.ex eC, A.ok, eC _ _ hd1, kof1.ex eC, kwy1.ex eC, numsS_ok A.ok 1, (fun q t h => FP.first_in okF1 h), ⟨t1, h1⟩, fun H8 o8 cs rows r e8 _ ho8 dc bk z0 st l25 => ?_⟩
        refine fun z dz hz hdz ne => ?_
        exact made (wd := "surely") (ls := []) (rows := rows) ((e16.trans eC).trans e8) (SqL.of (e8 _ _ mc)) .nil (by decide) (SqL.of ho8) dc (by omega) (by unfold wordOf; rw [h0, h1]) (.inr (.inr ⟨by rw [h0]; exact fun z => (by cases z), by rw [h1]; exact fun z => (by cases z), rfl, r, bk, z0, st, l25⟩)) z dz hz hdz ne
end
end EV

set_option Elab.async false
set_option linter.all false
set_option maxRecDepth 100000
set_option maxHeartbeats 4000000
namespace EV
open PySem PySem.Spec PyProof.Rows L2 EvS Evl FD EnT
/-! ### checks of papers: what they ask -/
def HoldsP (st b : Str → Option Int) (p : Str) (m : Int) : Prop := FP.ahead (st p) m = true → ∃ u, b p = some u ∧ u ≤ m
def LinksP (D : LandD) (ws : List (Int × Str)) (bs : List (Str × Int)) (nums : List (List (Option Int))) (b : Str → Option Int) : Prop := ∀ (j : Nat) (k : Link) (row : List (Option Int)), D.ls[j]? = some k → nums[j]? = some row → ∀ u, b k.o = some u → ∀ t, FP.thr (wt D ws) row u = some t → HoldsP (FP.minOf bs) b k.t t
structure KeepP (D : LandD) (ws : List (Int × Str)) (sts bs : List (Str × Int)) (nums : List (List (Option Int))) (lb : List (Str × Int)) (p : Str) : Prop where
  nn : ∀ r ∈ lb, r.1 ∈ D.ps ∧ 0 ≤ r.2
  no : FP.minOf lb p = none
  st : ∀ r ∈ sts, HoldsP (FP.minOf bs) (FP.minOf lb) r.1 r.2
  ls : LinksP D ws bs nums (FP.minOf lb)
theorem minOf_in {p : Str} {u : Int} (lb : List (Str × Int)) : FP.minOf lb p = some u → ∃ r ∈ lb, r.1 = p ∧ r.2 = u := by
  have key : ∀ (lb : List (Str × Int)) (c : Option Int), lb.foldl (fun c r => if r.1 = p then FP.least c (some r.2) else c) c = some u → c = some u ∨ ∃ r ∈ lb, r.1 = p ∧ r.2 = u := fun lb => by
    induction lb with
    | nil => intro c h; exact .inl h
    | cons r lb ih =>
      intro c h
      rw [List.foldl_cons] at h
      rcases ih _ h with h | ⟨q, hq, h1⟩
      · by_cases e : r.1 = p
        · rw [if_pos e] at h
          cases c with
          | none => exact .inr ⟨r, List.mem_cons_self, e, Option.some.inj h⟩
          | some v =>
            have h : (if r.2 < v then some r.2 else some v) = some u := h
            split at h
            · exact .inr ⟨r, List.mem_cons_self, e, Option.some.inj h⟩
            · exact .inl h
        · rw [if_neg e] at h
          exact .inl h
      · exact .inr ⟨q, List.mem_cons_of_mem _ hq, h1⟩
  intro h
  rcases key lb none h with h | h
  · cases h
  · exact h
/-- what keeps off is a bound of the fire -/
theorem KeepP.bound {D : LandD} {ws : List (Int × Str)} {sts bs : List (Str × Int)} {nums : List (List (Option Int))} {lb : List (Str × Int)} {p : Str} (h : KeepP D ws sts bs nums lb p) {q : Str} {t : Int} (r : FP.Reach (fireN D ws sts bs nums) q t) : ∃ u, FP.minOf lb q = some u ∧ u ≤ t := by
  induction r with
  | start a c => exact h.st _ a c
  | @step l t t' _ hl ht ha ih =>
    obtain ⟨u, hu, le⟩ := ih
    obtain ⟨j, k, row, h1, h2, rfl⟩ := zip_mem.mp hl
    obtain ⟨t2, h3, le2⟩ := FP.thr_mono le ht
    obtain ⟨v, hv, le3⟩ := h.ls j k row h1 h2 u hu t2 h3 (FP.ahead_mono le2 ha)
    exact ⟨v, hv, Int.le_trans le3 le2⟩
theorem KeepP.never {D : LandD} {ws : List (Int × Str)} {sts bs : List (Str × Int)} {nums : List (List (Option Int))} {lb : List (Str × Int)} {p : Str} (h : KeepP D ws sts bs nums lb p) : FP.first (fireN D ws sts bs nums) p = none := by
  cases c : FP.first (fireN D ws sts bs nums) p with
  | none => rfl
  | some t =>
    obtain ⟨u, hu, _⟩ := h.bound (FP.first_some c).1
    rw [h.no] at hu
    cases hu
def sp__holds (K : PySem.W.Frag) (C CQ : Addr) : Sp := fun vs H Q _ => ∃ (x d : Addr) (p : Str) (m : Int) (D : LandD) (ws : List (Int × Str)) (sts bs : List (Str × Int)) (b : Str → Option Int), vs = [.ref x, .ref d, .str p, .int m] ∧ IsQ K C CQ H x D ws sts bs ∧ Tab H d b ∧ ∀ c : Bool, (c = true ↔ HoldsP (FP.minOf bs) b p m) → Q (.bl c) H
def sp__hold_starts (K : PySem.W.Frag) (C CQ : Addr) : Sp := fun vs H Q _ => ∃ (x d : Addr) (D : LandD) (ws : List (Int × Str)) (sts bs : List (Str × Int)) (b : Str → Option Int), vs = [.ref x, .ref d] ∧ IsQ K C CQ H x D ws sts bs ∧ sts.length ≤ 800 ∧ Tab H d b ∧ ∀ H' (c : Bool), Ex H H' → (c = true ↔ ∀ r ∈ sts, HoldsP (FP.minOf bs) b r.1 r.2) → Q (.bl c) H'
def sp__hold_links (K : PySem.W.Frag) (C CQ : Addr) : Sp := fun vs H Q _ => ∃ (x nt d : Addr) (D : LandD) (ws : List (Int × Str)) (sts bs : List (Str × Int)) (nums : List (List (Option Int))) (ns : List V) (b : Str → Option Int), vs = [.ref x, .ref nt, .ref d] ∧ IsQ K C CQ H x D ws sts bs ∧ LandOk D ∧ WOk D ws ∧ SqT K H nt ns ∧ DpAll K H ns (nums.map dRow) ∧ NumsOk D nums ∧ Tab H d b ∧ (∀ q u, b q = some u → 0 ≤ u) ∧ ∀ H' (c : Bool), Ex H H' → (c = true ↔ LinksP D ws bs nums b) → Q (.bl c) H'
def sp__keep_off (K : PySem.W.Frag) (C CQ : Addr) : Sp := fun vs H Q _ => ∃ (x nt l : Addr) (p : Str) (D : LandD) (ws : List (Int × Str)) (sts bs : List (Str × Int)) (nums : List (List (Option Int))) (ns us : List V) (lb : List (Str × Int)), vs = [.ref x, .ref nt, .ref l, .str p] ∧ IsQ K C CQ H x D ws sts bs ∧ LandOk D ∧ WOk D ws ∧ sts.length ≤ 800 ∧ SqT K H nt ns ∧ DpAll K H ns (nums.map dRow) ∧ NumsOk D nums ∧ SqL K H l us ∧ DpAll K H us (lb.map dPm) ∧ lb.length ≤ 1000 ∧
  ∀ H' (c : Bool), Ex H H' → (c = true ↔ KeepP D ws sts bs nums lb p) → Q (.bl c) H'
theorem all_snoc {α : Type} {p : α → Prop} {l : List α} {x : α} : (∀ y ∈ l ++ [x], p y) ↔ (∀ y ∈ l, p y) ∧ p x := ⟨fun h => ⟨fun y hy => h y (List.mem_append_left _ hy), h x (List.mem_append_right _ List.mem_cons_self)⟩, fun h y hy => (List.mem_append.mp hy).elim (h.1 y) fun q => by rw [List.mem_singleton.mp q]; exact h.2⟩
theorem all_id {cs : List Bool} : cs.all id = true ↔ ∀ c ∈ cs, c = true := List.all_eq_true
section
variable {P : Program} {w : World} {K : PySem.W.Frag} {mg : Str → Option Value} {base : Heap} {a : Ad}
theorem G__holds (T : Txt K mg a) : FnOk P w K mg base CX0 2 a.f__holds a.d__holds ["question", "bounds", "place", "minute"] (sp__holds K a.C a.C_Question) := by
  refine T.F__holds.ok sc__holds (fun vs H Q E h => ?_) (fun cdv A outer s H vs Q E hr h => ?_)
  · obtain ⟨x, d, p, m, D, ws, sts, bs, b, rfl, _⟩ := h
    rfl
  · obtain ⟨x, d, p, m, D, ws, sts, bs, b, rfl, hq, tb, k⟩ := h
    obtain ⟨dx, l, w, s, b', sp, stp, lv, us, ss, bb, acc, kl, QA⟩ := id hq
    obtain ⟨kvs, hk, lk, tk⟩ := tb
    refine ⟨_, (pss_cons (ps_if (pt_not (pt_val (pe_meth (pv 0) T.cl_Question T.m_Question_is_ahead (G_Question_is_ahead T) (hr.mono (by decide)) T.B_Question_is_ahead .nil pass0 (pa_cons (pv 3) (pa_cons (pv 2) pa_nil))))) (pss_one (ps_ret pe_bl)) pss_nil)
      (pss_one (ps_ret (pe_and (pe_cmp (pc_din (hu_of hr) (pv 2) (pv 1))) (pe_one (pe_cmpR op_le (pe_dget (hu_of hr) (pv 1) (pv 2) (fun _ _ => rfl)) (pv 3) (nomark _))))))), ?_⟩
    have g : DGet H d (.str p) (valV kvs (.inr p)) := DGet.k (k := Sum.inr p) hk
    rw [tk p] at g
    refine ⟨_, rfl, x, dx, _, rfl, QA.ob, q_is_ahead .., _, rfl, _, rfl, x, m, p, D, ws, sts, bs, rfl, hq, _, rfl, ?_⟩
    unfold HoldsP at k
    cases ha : FP.ahead (FP.minOf bs p) m with
    | false => exact iteT (k _ ⟨fun _ h => (by rw [ha] at h; cases h), fun _ => rfl⟩)
    | true =>
      refine iteF ?_
      refine ⟨_, rfl, _, rfl, d, _, rfl, g, _, rfl, ?_⟩
      cases hf : b p with
      | none => exact iteF (k _ ⟨(fun h => by cases h), fun h => by obtain ⟨u, hu, _⟩ := h ha; rw [hf] at hu; cases hu⟩)
      | some u =>
        rw [hf] at g
        exact iteT ⟨_, rfl, _, rfl, d, _, rfl, g, _, rfl, _, _, rfl, rfl, k _ ⟨fun h _ => ⟨u, hf, of_decide_eq_true h⟩, fun h => by obtain ⟨v, hv, le⟩ := h ha; rw [hf] at hv; cases hv; exact decide_eq_true le⟩⟩
theorem G__hold_starts (T : Txt K mg a) : FnOk P w K mg base CX0 3 a.f__hold_starts a.d__hold_starts ["question", "bounds"] (sp__hold_starts K a.C a.C_Question) := by
  refine T.F__hold_starts.ok sc__hold_starts (fun vs H Q E h => ?_) (fun cdv A outer s H vs Q E hr h => ?_)
  · obtain ⟨x, d, D, ws, sts, bs, b, rfl, _⟩ := h
    rfl
  · obtain ⟨x, d, D, ws, sts, bs, b, rfl, hq, ls, tb, k⟩ := h
    obtain ⟨dx, l, w, s, b', sp, stp, lv, us, ss, bb, acc, kl, QA⟩ := id hq
    have lss := dps_len QA.ds
    rw [List.length_map] at lss
    refine ⟨_, (pss_one (ps_ret (pe_callB (cr_all rfl) (by rfl) T.z_all (by decide +kernel) (pa_cons (pe_lc (own := [("place", 2), ("minute", 3)]) (g := gTup K 2 (gCons (gName 2) (gCons (gName 3) gNil))) (tt := tYes) rfl sc__hold_starts.nd (pi_list (pe_fld (pv 0) rfl)) (blkOk_by (N := ["question", "bounds", "place", "minute"]) (sc := defScope s__hold_starts) (by decide +kernel)) (fun _ _ _ _ _ => (pg_tup (by rfl) (pgs_cons (pg_name (i := 2) sc__hold_starts.nd rfl (Or.inl rfl)) (pgs_cons (pg_name (i := 3) sc__hold_starts.nd rfl (Or.inl rfl)) pgs_nil)))) (fun _ _ _ _ _ => pts_nil) (fun _ _ _ _ _ => (pe_call (G__holds T) (hr.mono (by decide)) (by rfl) T.g__holds T.k__holds T.B__holds .nil pass0 (pa_cons (pv 0) (pa_cons (pv 1) (pa_cons (pv 2) (pa_cons (pv 3) pa_nil))))))) pa_nil)))), ?_⟩
    refine ⟨_, rfl, x, a.C_Question, dx, _, _, rfl, QA.ob, T.cl_Question, T.na_Question_starts, q_starts .., s, rfl, ⟨_, QA.hs⟩, fun D0 hD => lcY_list (K := K) (a := s) (xs := ss) (fun i H' => Ex H H' ∧ ∃ cs : List Bool, H' D0 = some (.lst (cs.map V.bl)) ∧ cs.length = i ∧ ((∀ c ∈ cs, c = true) ↔ ∀ r ∈ sts.take i, HoldsP (FP.minOf bs) b r.1 r.2)) ⟨Ex.new hD, [], upd_same, rfl, ⟨(fun _ r hr => by cases hr), fun _ c hc => by cases hc⟩⟩ (fun i H' _ z => ex_l z.1 QA.hs) (fun i y H' hy z => ?_) (fun H1 z => ?_)⟩
    · obtain ⟨e, cs, hcs, lcs, iff⟩ := z
      have hi := (List.getElem?_eq_some_iff.mp hy).1
      obtain ⟨r, hrr, hmr, dp⟩ := pick (dps_ex e QA.ds) hy
      obtain ⟨t, rfl, st⟩ := pm_in dp
      refine ⟨t, _, rfl, st, rfl, _, _, rfl, _, _, rfl, rfl, rfl, _, rfl, _, rfl, _, rfl, _, rfl, x, d, r.1, r.2, D, ws, sts, bs, b, rfl, hq.ex e, tb.ex e, fun c hc => ⟨_, hcs, sz_lt (by rw [List.length_map]; omega), e.mut hD, cs ++ [c], ?_, by rw [List.length_append, lcs] <;> rfl, ?_⟩⟩
      · rw [upd_same, List.map_append]
        rfl
      · rw [take_one hrr, all_snoc, all_snoc, iff, hc]
    · obtain ⟨e, cs, hcs, lcs, iff⟩ := z
      rw [lss, List.take_length] at iff
      exact ⟨D0, cs, rfl, SqL.of hcs, k _ _ e (all_id.trans iff)⟩
theorem G__hold_links (T : Txt K mg a) : FnOk P w K mg base CX0 3 a.f__hold_links a.d__hold_links ["question", "numbers", "bounds"] (sp__hold_links K a.C a.C_Question) := by
  refine T.F__hold_links.ok sc__hold_links (fun vs H Q E h => ?_) (fun cdv A outer s H vs Q E hr h => ?_)
  · obtain ⟨x, nt, d, D, ws, sts, bs, nums, ns, b, rfl, _⟩ := h
    rfl
  · obtain ⟨x, nt, d, D, ws, sts, bs, nums, ns, b, rfl, hq, ok, wok, hn, dn, nok, tb, b0, k⟩ := h
    obtain ⟨dx, l, w, s, b', sp, stp, lv, us, ss, bb, acc, kl, QA⟩ := id hq
    obtain ⟨dxl, wi, pl, li, pa, rows, prs, L⟩ := id QA.ld
    have lr := dps_len L.ls
    rw [List.length_map] at lr
    have ln := dps_len dn
    rw [List.length_map] at ln
    have ll := nok.len
    refine ⟨_, (pss_cons (ps_for PassesOwn.never rfl (RZ.pi_zipA (by rfl) T.z_zip (pa_cons (pe_fld (pe_fld (pv 0) rfl) rfl) (pa_cons (pv 1) pa_nil))) (pg_tup (by rfl) (pgs_cons (pg_name (i := 3) sc__hold_links.nd rfl (Or.inl rfl)) (pgs_cons (pg_name (i := 4) sc__hold_links.nd rfl (Or.inl rfl)) pgs_nil))) (pss_one (ps_if (pt_cmp (pc_din (hu_of hr) (pe_ix ix_tup (pv 3) pe_int (fun _ _ => rfl)) (pv 2))) (pss_cons (ps_set (i := 5) sc__hold_links.nd rfl (Or.inl rfl) (pe_meth (pv 0) T.cl_Question T.m_Question_through (G_Question_through T) (hr.mono (by decide)) T.B_Question_through .nil pass0 (pa_cons (pv 4) (pa_cons (pe_dget (hu_of hr) (pv 2) (pe_ix ix_tup (pv 3) pe_int (fun _ _ => rfl)) (fun _ _ => rfl)) pa_nil))))
          (pss_one (ps_if (PW.pt (pw_and (pt_cmpR op_notN (pv 5) pe_non (nomark _)) (pw_and1 (pt_not (pt_val (pe_call (G__holds T) (hr.mono (by decide)) (by rfl) T.g__holds T.k__holds T.B__holds .nil pass0 (pa_cons (pv 0) (pa_cons (pv 2) (pa_cons (pe_ix ix_tup (pv 3) pe_int (fun _ _ => rfl)) (pa_cons (pv 5) pa_nil)))))))))) (pss_one (ps_ret pe_bl)) pss_nil))) pss_nil)))
      (pss_one (ps_ret pe_bl))), ?_⟩
    refine ⟨_, rfl, x, a.C_Question, dx, _, _, rfl, QA.ob, T.cl_Question, T.na_Question_land, q_land .., l, a.C, dxl, _, _, rfl, L.ob, T.cl, T.nL, fs_links .., _, rfl, li, nt, rows, ns, rfl, .inr ⟨L.li, hn, RZ.for_zipT (K := K) (a := li) (b := nt) (xs := rows) (ys := ns) (by omega) (fun i σ H' => ∃ v3 v4 v5, σ = [some (.ref x), some (.ref nt), some (.ref d), v3, v4, v5] ∧ Ex H H' ∧ ∀ (j : Nat) (k : Link) (row : List (Option Int)), j < i → D.ls[j]? = some k → nums[j]? = some row → ∀ u, b k.o = some u → ∀ t, FP.thr (wt D ws) row u = some t → HoldsP (FP.minOf bs) b k.t t) ⟨none, none, none, rfl, Ex.refl _, fun j _ _ h => absurd h (Nat.not_lt_zero _)⟩ (fun i σ H' z => by obtain ⟨_, _, _, _, e, _⟩ := z; exact ⟨ex_t e L.li, ex_t e hn⟩) (fun i x' y Tz σ H' hx hy z hT => ?_) (fun σ H' z => ?_)⟩⟩
    · obtain ⟨v3, v4, v5, rfl, e, up⟩ := z
      have eT := Ex.new (o := .tup [x', y]) hT
      have mT : (upd H' Tz (.tup [x', y])) Tz = some (.tup [x', y]) := upd_same
      have e1 := e.trans eT
      generalize upd H' Tz (.tup [x', y]) = H1 at e1 mT
      obtain ⟨q, hq', hm, dp⟩ := pick (dps_ex e1 L.ls) hx
      obtain ⟨t, u, vs, rfl, hT', hU, hts⟩ := link_in dp
      obtain ⟨row, hrow, hmr, dp2⟩ := pick (dps_ex e1 dn) hy
      obtain ⟨rr, rfl, hrr⟩ := row_in dp2
      obtain ⟨rl, rok⟩ := nok.row row hmr
      obtain ⟨kvs, hk, _, tk⟩ := tb.ex e1
      have g : DGet H1 d (.str q.o) (valV kvs (.inr q.o)) := DGet.k (k := Sum.inr q.o) hk
      rw [tk q.o] at g
      have next : (∀ u, b q.o = some u → ∀ t, FP.thr (wt D ws) row u = some t → HoldsP (FP.minOf bs) b q.t t) → ∀ (j : Nat) (k : Link) (row : List (Option Int)), j < i + 1 → D.ls[j]? = some k → nums[j]? = some row → ∀ u, b k.o = some u → ∀ t, FP.thr (wt D ws) row u = some t → HoldsP (FP.minOf bs) b k.t t := fun h j k' row' hj h1 h2 => by
        rcases Nat.lt_succ_iff_lt_or_eq.mp hj with hj | rfl
        · exact up j k' row' hj h1 h2
        · rw [hq'] at h1
          rw [hrow] at h2
          cases h1
          cases h2
          exact h
      refine ⟨Tz, _, rfl, st_of mT, rfl, _, _, rfl, _, _, rfl, rfl, ?_⟩
      refine ⟨_, rfl, t, _, _, _, rfl, rfl, hT', atI_nat (j := 1) rfl, _, rfl, d, _, rfl, g, _, rfl, ?_⟩
      cases hb : b q.o with
      | none => exact iteF ⟨_, _, _, rfl, e1, next fun u hu => by rw [hb] at hu; cases hu⟩
      | some u0 =>
        rw [hb] at g
        refine iteT ?_
        refine ⟨_, rfl, x, dx, _, rfl, e1 _ _ QA.ob, q_through .., _, rfl, _, rfl, _, rfl, t, _, _, _, rfl, rfl, hT', atI_nat (j := 1) rfl, d, _, rfl, g, x, rr, u0, D, ws, sts, bs, row, rfl, hq.ex e1, hrr, rl, rok, wok, b0 _ _ hb, ?_⟩
        refine ⟨_, rfl, ?_⟩
        cases hth : FP.thr (wt D ws) row u0 with
        | none => exact ⟨rfl, _, rfl, iteF ⟨_, _, _, rfl, e1, next fun u hu t ht => by rw [hb] at hu; cases hu; rw [hth] at ht; cases ht⟩⟩
        | some tp =>
          refine ⟨rfl, _, rfl, iteT ⟨_, rfl, _, rfl, _, rfl, t, _, _, _, rfl, rfl, hT', atI_nat (j := 2) rfl, _, rfl, x, d, q.t, tp, D, ws, sts, bs, b, rfl, hq.ex e1, tb.ex e1, fun c hc => ⟨_, rfl, ?_⟩⟩⟩
          cases c with
          | false => exact iteT (k _ false e1 ⟨(fun h => by cases h), fun h => absurd (hc.mpr (h i q row hq' hrow u0 hb tp hth)) (by decide)⟩)
          | true => exact iteF ⟨_, _, _, rfl, e1, next fun u hu t ht => by rw [hb] at hu; cases hu; rw [hth] at ht; cases ht; exact hc.mp rfl⟩
    · obtain ⟨v3, v4, v5, rfl, e, up⟩ := z
      exact k _ true e ⟨fun _ j k' row h1 h2 => up j k' row (by have := (List.getElem?_eq_some_iff.mp h1).1; omega) h1 h2, fun _ => rfl⟩
theorem inV_strs (ps : List Str) (z : Str) : inV (.str z) (ps.map V.str) = true ↔ z ∈ ps := by
  unfold inV
  rw [List.any_map, List.any_eq_true]
  constructor
  · rintro ⟨y, hy, h⟩
    have : eqV (.str y) (.str z) = true := h
    have e : y = z := by simpa [eqV] using this
    rw [← e]
    exact hy
  · intro h
    exact ⟨z, h, by show eqV (.str z) (.str z) = true; simp [eqV]⟩
theorem G__keep_off (T : Txt K mg a) : FnOk P w K mg base CX0 4 a.f__keep_off a.d__keep_off ["question", "numbers", "labels", "place"] (sp__keep_off K a.C a.C_Question) := by
  refine T.F__keep_off.ok sc__keep_off (fun vs H Q E h => ?_) (fun cdv A outer s H vs Q E hr h => ?_)
  · obtain ⟨x, nt, l, p, D, ws, sts, bs, nums, ns, us, lb, rfl, _⟩ := h
    rfl
  · obtain ⟨x, nt, l, p, D, ws, sts, bs, nums, ns, us, lb, rfl, hq, ok, wok, ls, hn, dn, nok, hl, dl, ll, k⟩ := h
    obtain ⟨dx, l', w, s, b', sp, stp, lv, us', ss, bb, acc, kl, QA⟩ := id hq
    have lu := dps_len dl
    rw [List.length_map] at lu
    refine ⟨_, (pss_cons (ps_if (pt_not (pt_val (pe_callB (cr_all rfl) (by rfl) T.z_all (by decide +kernel) (pa_cons (pe_lc (own := [("name", 5), ("minute", 6)]) (g := gTup K 2 (gCons (gName 5) (gCons (gName 6) gNil))) (tt := tYes) rfl sc__keep_off.nd (pi_list (pv 2)) (blkOk_by (N := ["question", "numbers", "labels", "place", "bounds", "name", "minute"]) (sc := defScope s__keep_off) (by decide +kernel)) (fun _ _ _ _ _ => (pg_tup (by rfl) (pgs_cons (pg_name (i := 5) sc__keep_off.nd rfl (Or.inl rfl)) (pgs_cons (pg_name (i := 6) sc__keep_off.nd rfl (Or.inl rfl)) pgs_nil)))) (fun _ _ _ _ _ => pts_nil) (fun _ _ _ _ _ => (pe_and (pe_cmpR (show OpR _ _ (rIn K false) from op_in_seq) (pv 5) (show PE _ _ (tFld K (tFld K (tVar 0) "land") "places") from pe_fld (show PE _ _ (tFld K (tVar 0) "land") from pe_fld (pv 0) rfl) rfl) (by rfl)) (pe_one (pe_cmpR op_ge (pv 6) pe_int (nomark _)))))) pa_nil)))) (pss_one (ps_ret pe_bl)) pss_nil)
      (pss_cons (ps_set (i := 4) sc__keep_off.nd rfl (Or.inl rfl) (pe_call (G_least_minutes T) (hr.mono (by decide)) (by rfl) T.g_least_minutes T.k_least_minutes T.B_least_minutes .nil pass0 (pa_cons (pv 2) pa_nil)))
      (pss_one (ps_ret (pe_and (pe_cmp (pc_dnotin (hu_of hr) (pv 3) (pv 4))) (pe_and (pe_call (G__hold_starts T) (hr.mono (by decide)) (by rfl) T.g__hold_starts T.k__hold_starts T.B__hold_starts .nil pass0 (pa_cons (pv 0) (pa_cons (pv 4) pa_nil))) (pe_one (pe_call (G__hold_links T) (hr.mono (by decide)) (by rfl) T.g__hold_links T.k__hold_links T.B__hold_links .nil pass0 (pa_cons (pv 0) (pa_cons (pv 1) (pa_cons (pv 4) pa_nil))))))))))), ?_⟩
    refine ⟨_, rfl, l, rfl, ⟨_, hl⟩, fun D0 hD => lcY_list (K := K) (a := l) (xs := us) (fun i H' => Ex H H' ∧ ∃ cs : List Bool, H' D0 = some (.lst (cs.map V.bl)) ∧ cs.length = i ∧ ((∀ c ∈ cs, c = true) ↔ ∀ r ∈ lb.take i, r.1 ∈ D.ps ∧ 0 ≤ r.2)) ⟨Ex.new hD, [], upd_same, rfl, ⟨(fun _ r hr => by cases hr), fun _ c hc => by cases hc⟩⟩ (fun i H' _ z => ex_l z.1 hl) (fun i y H' hy z => ?_) (fun H1 z => ?_)⟩
    · obtain ⟨e, cs, hcs, lcs, iff⟩ := z
      have hi := (List.getElem?_eq_some_iff.mp hy).1
      obtain ⟨r, hrr, hmr, dp⟩ := pick (dps_ex e dl) hy
      obtain ⟨t, rfl, st⟩ := pm_in dp
      obtain ⟨dxl, wi, pl, li, pa, rows, prs, L⟩ := id (QA.ld.ex e)
      have fin : ∀ c : Bool, (c = true ↔ r.1 ∈ D.ps ∧ 0 ≤ r.2) → ∃ acc, H' D0 = some (.lst acc) ∧ acc.length < sizeLine ∧ Ex H (upd H' D0 (.lst (acc ++ [.bl c]))) ∧ ∃ cs : List Bool, (upd H' D0 (.lst (acc ++ [.bl c]))) D0 = some (.lst (cs.map V.bl)) ∧ cs.length = i + 1 ∧ ((∀ c ∈ cs, c = true) ↔ ∀ r ∈ lb.take (i + 1), r.1 ∈ D.ps ∧ 0 ≤ r.2) := fun c hc => by
        refine ⟨_, hcs, sz_lt (by rw [List.length_map]; omega), e.mut hD, cs ++ [c], ?_, by rw [List.length_append, lcs] <;> rfl, ?_⟩
        · rw [upd_same, List.map_append]
          rfl
        · rw [take_one hrr, all_snoc, all_snoc, iff, hc]
      refine ⟨t, _, rfl, st, rfl, _, _, rfl, _, _, rfl, rfl, rfl, _, rfl, _, rfl, x, a.C_Question, dx, _, _, rfl, e _ _ QA.ob, T.cl_Question, T.na_Question_land, q_land .., l', a.C, dxl, _, _, rfl, L.ob, T.cl, T.nP, fs_places .., pl, _, rfl, .inr L.pl, rfl, flat_strs _, _, rfl, ?_⟩
      refine ite2 (fun h => ?_) (fun h => ?_)
      · have h := (inV_strs _ _).mp h
        exact ⟨_, rfl, _, _, rfl, rfl, fin _ ⟨fun q => ⟨h, of_decide_eq_true q⟩, fun q => decide_eq_true q.2⟩⟩
      · exact fin false ⟨(fun q => by cases q), fun q => absurd ((inV_strs _ _).mpr q.1) h⟩
    obtain ⟨e, cs, hcs, lcs, iff⟩ := z
    rw [lu, List.take_length] at iff
    refine ⟨D0, cs, rfl, SqL.of hcs, _, rfl, ?_⟩
    cases hall : cs.all id with
    | false => exact iteT (k _ false e ⟨(fun h => by cases h), fun h => by rw [all_id.mpr (iff.mpr h.nn)] at hall; cases hall⟩)
    | true =>
      have nn := iff.mp (all_id.mp hall)
      refine iteF ?_
      refine ⟨_, rfl, l, us, lb, rfl, ex_l e hl, dps_ex e dl, ll, fun d H2 e2 _ tb => ?_⟩
      have e12 := e.trans e2
      obtain ⟨kvs, hk, _, tk⟩ := id tb
      have g : DGet H2 d (.str p) (valV kvs (.inr p)) := DGet.k (k := Sum.inr p) hk
      rw [tk p] at g
      refine ⟨_, rfl, _, rfl, d, _, rfl, g, _, rfl, ?_⟩
      cases hm : FP.minOf lb p with
      | some u => exact iteF (k _ false e12 ⟨(fun h => by cases h), fun h => by rw [h.no] at hm; cases hm⟩)
      | none =>
        refine iteT ⟨_, rfl, _, rfl, x, d, D, ws, sts, bs, _, rfl, hq.ex e12, ls, tb, fun H3 c e3 hc => ⟨_, rfl, ?_⟩⟩
        cases c with
        | false => exact iteF (k _ false (e12.trans e3) ⟨(fun h => by cases h), fun h => absurd (hc.mpr h.st) (by decide)⟩)
        | true =>
          refine iteT ⟨_, rfl, _, rfl, _, rfl, x, nt, d, D, ws, sts, bs, nums, ns, _, rfl, hq.ex (e12.trans e3), ok, wok, ex_t (e12.trans e3) hn, dps_ex (e12.trans e3) dn, nok, tb.ex e3, fun q u h => ?_, fun H4 c2 e4 hc2 => k _ c2 ((e12.trans e3).trans e4) ⟨fun h => ⟨nn, hm, hc.mp rfl, hc2.mp h⟩, fun h => hc2.mpr h.ls⟩⟩
          obtain ⟨r, hr, _, rfl⟩ := minOf_in lb h
          exact (nn r hr).2
end
end EV

set_option Elab.async false
set_option linter.all false
set_option maxRecDepth 100000
set_option maxHeartbeats 4000000
namespace EV
open PySem PySem.Spec PyProof.Rows L2 EvS Evl FD EnT
/-! ### checks of chains -/
def BegP (sts bs : List (Str × Int)) (r : CRow) : Prop := r.2.1 = "" ∧ (r.1, r.2.2) ∈ sts ∧ FP.ahead (FP.minOf bs r.1) r.2.2 = true
def FollP (D : LandD) (ws : List (Int × Str)) (bs : List (Str × Int)) (nums : List (List (Option Int))) (b r : CRow) : Prop := Comes D ws nums r b ∧ FP.ahead (FP.minOf bs r.1) r.2.2 = true
structure ComeP (D : LandD) (ws : List (Int × Str)) (sts bs : List (Str × Int)) (nums : List (List (Option Int))) (rows : List CRow) (p : Str) : Prop where
  last : ∃ e, rows[rows.length - 1]? = some e ∧ e.1 = p
  nn : ∀ r ∈ rows, 0 ≤ r.2.2
  beg : ∃ h, rows[0]? = some h ∧ BegP sts bs h
  fol : ∀ (i : Nat) (b r : CRow), rows[i]? = some b → rows[i + 1]? = some r → FollP D ws bs nums b r
theorem ComeP.reach {D : LandD} {ws : List (Int × Str)} {sts bs : List (Str × Int)} {nums : List (List (Option Int))} {rows : List CRow} {p : Str} (h : ComeP D ws sts bs nums rows p) : ∀ (i : Nat) (r : CRow), rows[i]? = some r → FP.Reach (fireN D ws sts bs nums) r.1 r.2.2
  | 0, r, hr => by
    obtain ⟨h0, e0, _, h2, h3⟩ := h.beg
    rw [hr] at e0
    cases e0
    exact .start h2 h3
  | i + 1, r, hr => by
    have hi : i < rows.length := by have := (List.getElem?_eq_some_iff.mp hr).1; omega
    obtain ⟨⟨j, k, row, h1, h2, h3, h4, h5, h6⟩, ha⟩ := h.fol i _ r (List.getElem?_eq_getElem hi) hr
    have ih := h.reach i _ (List.getElem?_eq_getElem hi)
    rw [← h4] at ha ⊢
    refine .step (l := lkN k row) ?_ (zip_mem.mpr ⟨j, k, row, h1, h2, rfl⟩) h6 ha
    show FP.Reach _ k.o _
    rw [h5]
    exact ih
theorem Back.fwd {D : LandD} {ws : List (Int × Str)} {nums : List (List (Option Int))} {f : Str → Option Int} {p : Str} {l : List CRow} {r : CRow} (h : Back D ws nums f p l r) : l.reverse[0]? = some r ∧ (∃ e, l.reverse[l.reverse.length - 1]? = some e ∧ e.1 = p) ∧ (∀ x ∈ l.reverse, f x.1 = some x.2.2) ∧ ∀ (i : Nat) (b x : CRow), l.reverse[i]? = some b → l.reverse[i + 1]? = some x → Comes D ws nums x b := by
  induction h with
  | @one r h1 h2 => exact ⟨rfl, ⟨r, rfl, h1⟩, fun x hx => by rw [List.mem_singleton.mp hx]; exact h2, fun i b x _ hx => by simp at hx⟩
  | @step l r b h1 h2 h3 ih =>
    obtain ⟨i1, ⟨e, i2, ep⟩, i3, i4⟩ := ih
    rw [List.reverse_append]
    have lpos : 0 < l.reverse.length := (List.getElem?_eq_some_iff.mp i1).1
    refine ⟨rfl, ⟨e, ?_, ep⟩, fun x hx => ?_, fun i c x hc hx => ?_⟩
    · show (b :: l.reverse)[(b :: l.reverse).length - 1]? = some e
      rw [List.length_cons, Nat.add_sub_cancel, show l.reverse.length = (l.reverse.length - 1) + 1 by omega, List.getElem?_cons_succ]
      exact i2
    · rcases List.mem_cons.mp (show x ∈ b :: l.reverse from hx) with rfl | hx
      · exact h2
      · exact i3 x hx
    · have hc : (b :: l.reverse)[i]? = some c := hc
      have hx : (b :: l.reverse)[i + 1]? = some x := hx
      rw [List.getElem?_cons_succ] at hx
      cases i with
      | zero =>
        cases hc
        rw [i1] at hx
        cases hx
        exact h3
      | succ i =>
        rw [List.getElem?_cons_succ] at hc
        exact i4 i c x hc hx
/-- a paper's own chain comes to its place -/
theorem ChainOk.comes {D : LandD} {ws : List (Int × Str)} {sts bs : List (Str × Int)} {nums : List (List (Option Int))} {p : Str} {rows : List CRow} (okF : FP.Ok (fireN D ws sts bs nums) D.ps) (h : ChainOk D ws sts nums (FP.first (fireN D ws sts bs nums)) p rows) : ComeP D ws sts bs nums rows p := by
  obtain ⟨r, bk, z, st, _⟩ := h
  obtain ⟨h1, h2, h3, h4⟩ := bk.fwd
  rw [List.reverse_reverse] at h1 h2 h3 h4
  have ah : ∀ x ∈ rows, FP.ahead (FP.minOf bs x.1) x.2.2 = true := fun x hx => FP.reach_ahead (FP.first_some (h3 x hx)).1
  exact ⟨h2, fun x hx => (FP.first_in okF (h3 x hx)).2, ⟨r, h1, z, st, ah r (List.mem_of_getElem? h1)⟩, fun i b x hb hx => ⟨h4 i b x hb hx, ah x (List.mem_of_getElem? hx)⟩⟩
/-- the marks of a fire keep off the places that it spares -/
theorem lab_min {D : LandD} (nd : D.ps.Nodup) {f : Str → Option Int} (hf : ∀ q t, f q = some t → q ∈ D.ps) (p : Str) : FP.minOf (lab D f) p = f p := by
  have key : ∀ (ps : List Str) (c : Option Int), ps.Nodup → (ps.filterMap fun p => (f p).map fun t => (p, t)).foldl (fun c r => if r.1 = p then FP.least c (some r.2) else c) c = if p ∈ ps then FP.least c (f p) else c := fun ps => by
    induction ps with
    | nil => intro c _; rfl
    | cons q ps ih =>
      intro c nd
      rw [List.nodup_cons] at nd
      rw [List.filterMap_cons]
      by_cases e : q = p
      · subst e
        rw [if_pos List.mem_cons_self]
        cases hq : f q with
        | none =>
          have : ((ps.filterMap fun p => (f p).map fun t => (p, t)).foldl (fun c r => if r.1 = q then FP.least c (some r.2) else c) c) = c := by rw [ih c nd.2, if_neg nd.1]
          rw [least_none]
          exact this
        | some t =>
          show ((q, t) :: _).foldl _ c = _
          rw [List.foldl_cons, if_pos rfl, ih _ nd.2, if_neg nd.1]
      · have m : (p ∈ q :: ps) = (p ∈ ps) := by
          refine propext ⟨fun h => (List.mem_cons.mp h).elim (fun z => absurd z.symm e) id, List.mem_cons_of_mem _⟩
        cases hq : f q with
        | none =>
          simp only [m]
          exact ih c nd.2
        | some t =>
          show ((q, t) :: _).foldl _ c = _
          rw [List.foldl_cons, if_neg e, ih _ nd.2]
          simp only [m]
  unfold FP.minOf lab
  rw [key D.ps none nd]
  by_cases h : p ∈ D.ps
  · rw [if_pos h]
    cases f p <;> rfl
  · rw [if_neg h]
    cases c : f p with
    | none => rfl
    | some t => exact absurd (hf p t c) h
theorem lab_keeps {D : LandD} (ok : LandOk D) {ws : List (Int × Str)} {sts bs : List (Str × Int)} {nums : List (List (Option Int))} {p : Str} (okF : FP.Ok (fireN D ws sts bs nums) D.ps) (h : FP.first (fireN D ws sts bs nums) p = none) : KeepP D ws sts bs nums (lab D (FP.first (fireN D ws sts bs nums))) p := by
  have mn := lab_min ok.gp.2 (f := FP.first (fireN D ws sts bs nums)) (fun q t h => (FP.first_in okF h).1)
  refine ⟨fun r hr => ?_, by rw [mn]; exact h, fun r hr ha => ?_, fun j k row h1 h2 u hu t ht ha => ?_⟩
  · unfold lab at hr
    obtain ⟨q, hq, e⟩ := List.mem_filterMap.mp hr
    obtain ⟨t, ht, rfl⟩ := Option.map_eq_some_iff.mp e
    exact ⟨hq, (FP.first_in okF ht).2⟩
  · rw [mn]
    exact FP.first_le okF (.start hr ha)
  · rw [mn] at hu ⊢
    exact FP.first_le okF (.step (l := lkN k row) (FP.first_some hu).1 (zip_mem.mpr ⟨j, k, row, h1, h2, rfl⟩) ht ha)
def sp__is_beginning (K : PySem.W.Frag) (C CQ : Addr) : Sp := fun vs H Q _ => ∃ (x t : Addr) (r : CRow) (D : LandD) (ws : List (Int × Str)) (sts bs : List (Str × Int)), vs = [.ref x, .ref t] ∧ IsQ K C CQ H x D ws sts bs ∧ LandOk D ∧ PmIn D sts ∧ Dp K H (.ref t) (dCh r) ∧ PyData.strOk r.1 = true ∧ ∀ H' (c : Bool), Ex H H' → (c = true ↔ BegP sts bs r) → Q (.bl c) H'
def sp__follows (K : PySem.W.Frag) (C CQ : Addr) : Sp := fun vs H Q _ => ∃ (x nt tb t : Addr) (b r : CRow) (D : LandD) (ws : List (Int × Str)) (sts bs : List (Str × Int)) (nums : List (List (Option Int))) (ns : List V), vs = [.ref x, .ref nt, .ref tb, .ref t] ∧ IsQ K C CQ H x D ws sts bs ∧ LandOk D ∧ WOk D ws ∧ SqT K H nt ns ∧ DpAll K H ns (nums.map dRow) ∧ NumsOk D nums ∧ Dp K H (.ref tb) (dCh b) ∧ Dp K H (.ref t) (dCh r) ∧ PyData.strOk b.1 = true ∧ PyData.strOk r.1 = true ∧ 0 ≤ b.2.2 ∧ ∀ H' (c : Bool), Ex H H' → (c = true ↔ FollP D ws bs nums b r) → Q (.bl c) H'
def sp__comes_to (K : PySem.W.Frag) (C CQ : Addr) : Sp := fun vs H Q _ => ∃ (x nt l : Addr) (p : Str) (D : LandD) (ws : List (Int × Str)) (sts bs : List (Str × Int)) (nums : List (List (Option Int))) (ns cs : List V) (rows : List CRow), vs = [.ref x, .ref nt, .ref l, .str p] ∧ IsQ K C CQ H x D ws sts bs ∧ LandOk D ∧ WOk D ws ∧ PmIn D sts ∧ SqT K H nt ns ∧ DpAll K H ns (nums.map dRow) ∧ NumsOk D nums ∧ SqL K H l cs ∧ DpAll K H cs (rows.map dCh) ∧ rows.length ≤ 1000 ∧ (∀ r ∈ rows, PyData.strOk r.1 = true) ∧ ∀ H' (c : Bool), Ex H H' → (c = true ↔ ComeP D ws sts bs nums rows p) → Q (.bl c) H'
theorem nm_of {K : PySem.W.Frag} {H : Hp} {v : V} {z : Str} (h : Dp K H v (dNm z)) : NmV z v := by
  unfold dNm at h
  by_cases c : z = ""
  · rw [if_pos c] at h
    cases h
    exact .inl ⟨c, rfl⟩
  · rw [if_neg c] at h
    cases h
    exact .inr ⟨c, rfl⟩
theorem eqv_pm (a b : Str × Int) : PyData.eqv (dPm a) (dPm b) = decide (a = b) := by
  obtain ⟨a, m⟩ := a
  obtain ⟨b, n⟩ := b
  unfold dPm
  simp only [PyData.eqv, PyData.eqvAll, Bool.and_true]
  by_cases h1 : a = b
  · by_cases h2 : m = n
    · subst h1; subst h2; simp
    · simp [h1, h2]
  · simp [h1]
theorem sh_pmS {r : Str × Int} (h : PyData.strOk r.1 = true) : Sh 2 (dPm r) := sh_tup (n := 1) fun x hx => by
  rcases List.mem_cons.mp hx with rfl | hx
  · exact ⟨by simp only [PyData.canLay0]; exact h, by simp only [PyData.depth]; omega⟩
  · rw [List.mem_singleton.mp hx]
    exact sh_int _ _
theorem sh_pmsQ {D : LandD} (ok : LandOk D) {rs : List (Str × Int)} (h : PmIn D rs) : SeqAt.shaped (.list (rs.map dPm)) = true := sh_shaped (sh_lst (n := 2) fun d hd => by
  obtain ⟨r, hr, rfl⟩ := List.mem_map.mp hd
  exact sh_pmS (name_strOk (ok.gp.1 _ (h r hr)))) (by decide)
section
variable {P : Program} {w : World} {K : PySem.W.Frag} {mg : Str → Option Value} {base : Heap} {a : Ad}
theorem G__is_beginning (T : Txt K mg a) : FnOk P w K mg base CX0 2 a.f__is_beginning a.d__is_beginning ["question", "row"] (sp__is_beginning K a.C a.C_Question) := by
  refine T.F__is_beginning.ok sc__is_beginning (fun vs H Q E h => ?_) (fun cdv A outer s H vs Q E hr h => ?_)
  · obtain ⟨x, t, r, D, ws, sts, bs, rfl, _⟩ := h
    rfl
  · obtain ⟨x, t, r, D, ws, sts, bs, rfl, hq, ok, pm, dt, so, k⟩ := h
    obtain ⟨dx, l, w, s, b', sp, stp, lv, us, ss, bb, acc, kl, QA⟩ := id hq
    obtain ⟨t', nm, e, st, dn⟩ := ch_in dt
    cases e
    refine ⟨_, (pss_cons (ps_asg (pv 1) (pg_tup (by rfl) (pgs_cons (pg_name (i := 2) sc__is_beginning.nd rfl (Or.inl rfl)) (pgs_cons (pg_name (i := 3) sc__is_beginning.nd rfl (Or.inl rfl)) (pgs_cons (pg_name (i := 4) sc__is_beginning.nd rfl (Or.inl rfl)) pgs_nil)))))
      (pss_one (ps_ret (pe_and (pe_cmpR op_isN (pv 3) pe_non (nomark _)) (pe_and (pe_cmpR (op_inD (EvS.r65 hr)) (pe_tup (pa_cons (pv 2) (pa_cons (pv 4) pa_nil))) (pe_fld (pv 0) rfl) (by rfl)) (pe_one (pe_meth (pv 0) T.cl_Question T.m_Question_is_ahead (G_Question_is_ahead T) (hr.mono (by decide)) T.B_Question_is_ahead .nil pass0 (pa_cons (pv 4) (pa_cons (pv 2) pa_nil))))))))), ?_⟩
    refine ⟨_, rfl, t, _, rfl, st, rfl, _, _, rfl, _, _, rfl, _, _, rfl, rfl, ?_⟩
    have cases1 := nm_of dn
    refine ⟨_, rfl, rfl, _, rfl, ?_⟩
    rcases cases1 with ⟨hz, rfl⟩ | ⟨hz, rfl⟩
    · refine iteT ?_
      refine ⟨_, rfl, _, rfl, by show 2 ≤ sizeLine; decide, fun u hu => ?_⟩
      have eT := Ex.new (o := .tup [.str r.1, .int r.2.2]) hu
      have mt : (upd H u (.tup [.str r.1, .int r.2.2])) u = some (.tup [.str r.1, .int r.2.2]) := upd_same
      generalize upd H u (.tup [.str r.1, .int r.2.2]) = H1 at eT mt
      refine ⟨_, rfl, x, a.C_Question, dx, _, _, rfl, eT _ _ QA.ob, T.cl_Question, T.na_Question_starts, q_starts .., dPm (r.1, r.2.2), _, .tup (st_of mt) (.cons (.str _) (.cons (.int _) .nil)), .lst (ex_l eT QA.hs) (dps_ex eT QA.ds), sh_shaped (sh_pmS so) (by decide), sh_pmsQ ok pm, _, rfl, ?_⟩
      have mem : ((sts.map dPm).any fun z => PyData.eqv z (dPm (r.1, r.2.2))) = true ↔ (r.1, r.2.2) ∈ sts := by
        rw [List.any_map, List.any_eq_true]
        constructor
        · rintro ⟨y, hy, h⟩
          have h : PyData.eqv (dPm y) (dPm (r.1, r.2.2)) = true := h
          rw [eqv_pm] at h
          rw [← of_decide_eq_true h]
          exact hy
        · intro h
          exact ⟨_, h, by show PyData.eqv (dPm _) (dPm _) = true; rw [eqv_pm]; exact decide_eq_true rfl⟩
      refine ite2 (fun h => ?_) (fun h => k _ false eT ⟨(fun h => by cases h), fun q => absurd (mem.mpr q.2.1) h⟩)
      exact ⟨_, rfl, x, dx, _, rfl, eT _ _ QA.ob, q_is_ahead .., _, rfl, _, rfl, x, r.2.2, r.1, D, ws, sts, bs, rfl, hq.ex eT, k _ _ eT ⟨fun q => ⟨hz, mem.mp h, q⟩, fun q => q.2.2⟩⟩
    · exact iteF (k _ false (Ex.refl _) ⟨(fun h => by cases h), fun q => absurd q.1 hz⟩)
end
end EV

set_option Elab.async false
set_option linter.all false
set_option maxRecDepth 100000
set_option maxHeartbeats 4000000
namespace EV
open PySem PySem.Spec PyProof.Rows L2 EvS Evl FD EnT
theorem inV_non (ps : List Str) : inV .non (ps.map V.str) = false := by
  unfold inV
  rw [List.any_map, List.any_eq_false]
  intro y _ h
  cases h
theorem str_one {l : List Str} (nd : l.Nodup) {i j : Nat} {z : Str} (hi : l[i]? = some z) (hj : l[j]? = some z) : i = j :=
  (List.getElem?_inj (List.getElem?_eq_some_iff.mp hi).1 nd).mp (by rw [hi, hj])
section
variable {P : Program} {w : World} {K : PySem.W.Frag} {mg : Str → Option Value} {base : Heap} {a : Ad}
theorem G__follows (T : Txt K mg a) : FnOk P w K mg base CX0 3 a.f__follows a.d__follows ["question", "numbers", "before", "row"] (sp__follows K a.C a.C_Question) := by
  refine T.F__follows.ok sc__follows (fun vs H Q E h => ?_) (fun cdv A outer s H vs Q E hr h => ?_)
  · obtain ⟨x, nt, tb, t, b, r, D, ws, sts, bs, nums, ns, rfl, _⟩ := h
    rfl
  · obtain ⟨x, nt, tb, t, b, r, D, ws, sts, bs, nums, ns, rfl, hq, ok, wok, hn, dn, nok, dtb, dt, sob, sor, b0, k⟩ := h
    obtain ⟨dx, l, w, s, b', sp, stp, lv, us, ss, bb, acc, kl, QA⟩ := id hq
    obtain ⟨dxl, wi, pl, li, pa, rows, prs, L⟩ := id QA.ld
    obtain ⟨_, nm, e, st, dnm⟩ := ch_in dt
    cases e
    obtain ⟨_, nmb, e, stb, _⟩ := ch_in dtb
    cases e
    have lr := dps_len L.ls
    rw [List.length_map] at lr
    have l60 := ok.l60
    have nl := nok.len
    refine ⟨_, (pss_cons (ps_asg (pv 3) (pg_tup (by rfl) (pgs_cons (pg_name (i := 4) sc__follows.nd rfl (Or.inl rfl)) (pgs_cons (pg_name (i := 5) sc__follows.nd rfl (Or.inl rfl)) (pgs_cons (pg_name (i := 6) sc__follows.nd rfl (Or.inl rfl)) pgs_nil)))))
      (pss_cons (ps_set (i := 7) sc__follows.nd rfl (Or.inl rfl) (pe_prop (pe_fld (pv 0) rfl) T.cl T.p_link_names (G_link_names T) (hr.mono (by decide)) T.B_link_names .nil pass0 rfl))
      (pss_cons (ps_if (pt_cmpR op_notIn_seq (pv 5) (pv 7) (by rfl)) (pss_one (ps_ret pe_bl)) pss_nil)
      (pss_cons (ps_set (i := 8) sc__follows.nd rfl (Or.inl rfl) (TupX.pe_bmT PySem.F.plainAttrs_tuple PySem.F.slot_tuple_index PySem.F.type_tuple_index mt_tup_index (pv 7) (pa_cons (pv 5) pa_nil)))
      (pss_cons (ps_if (pt_cmpR (op_neD hr.units) (pe_slice sl_tup (pe_ix ix_tup (pe_fld (pe_fld (pv 0) rfl) rfl) (pv 8) (fun _ _ => rfl)) (po_some pe_int) (po_some pe_int)) (pe_tup (pa_cons (pe_ix ix_tup (pv 2) pe_int (fun _ _ => rfl)) (pa_cons (pv 4) pa_nil))) (nomark _)) (pss_one (ps_ret pe_bl)) pss_nil)
      (pss_one (ps_ret (pe_and (pe_cmpR op_eq (pe_meth (pv 0) T.cl_Question T.m_Question_through (G_Question_through T) (hr.mono (by decide)) T.B_Question_through .nil pass0 (pa_cons (pe_ix ix_tup (pv 1) (pv 8) (fun _ _ => rfl)) (pa_cons (pe_ix ix_tup (pv 2) pe_int (fun _ _ => rfl)) pa_nil))) (pv 6) (nomark _)) (pe_one (pe_meth (pv 0) T.cl_Question T.m_Question_is_ahead (G_Question_is_ahead T) (hr.mono (by decide)) T.B_Question_is_ahead .nil pass0 (pa_cons (pv 6) (pa_cons (pv 4) pa_nil)))))))))))), ?_⟩
    refine ⟨_, rfl, t, _, rfl, st, rfl, _, _, rfl, _, _, rfl, _, _, rfl, rfl, ?_⟩
    refine ⟨_, rfl, x, a.C_Question, dx, _, _, rfl, QA.ob, T.cl_Question, T.na_Question_land, q_land .., l, dxl, _, rfl, L.ob, l, dxl, _, li, rows, D.ls, rfl, L.ob, fs_links .., L.li, L.ls, by omega, fun H1 tn e1 _ htn => ?_⟩
    rcases nm_of dnm with ⟨hz, rfl⟩ | ⟨hz, rfl⟩
    · have no : ¬ FollP D ws bs nums b r := fun ⟨⟨j, k0, row, h1, _, h3, _⟩, _⟩ => by
        have := (name_len (ok.gl.1 k0.n (List.mem_map.mpr ⟨k0, List.mem_of_getElem? h1, rfl⟩))).1
        rw [← h3, hz] at this
        exact absurd this (by decide)
      refine ⟨_, rfl, _, rfl, tn, _, rfl, .inr htn.sq, rfl, flat_strs _, _, rfl, ?_⟩
      rw [inV_non]
      exact iteT (k _ false e1 ⟨(fun h => by cases h), fun h => absurd h no⟩)
    refine ⟨_, rfl, _, rfl, tn, _, rfl, .inr htn.sq, rfl, flat_strs _, _, rfl, ?_⟩
    refine ite2 (fun h => ?_) (fun h => ?_)
    · refine k _ false e1 ⟨(fun h => by cases h), fun ⟨⟨j, k0, row, h1, _, h3, _⟩, _⟩ => ?_⟩
      rw [(inV_strs _ _).mpr (by rw [h3]; exact List.mem_map.mpr ⟨k0, List.mem_of_getElem? h1, rfl⟩)] at h
      exact absurd h (by decide)
    have mem : r.2.1 ∈ D.ls.map (·.n) := (inV_strs _ _).mp (by
      cases c : inV (.str r.2.1) ((D.ls.map (·.n)).map V.str) with
      | true => rfl
      | false => exact absurd (by rw [c]; rfl) h)
    obtain ⟨j, hj⟩ := List.getElem?_of_mem mem
    have hk := hj
    rw [List.getElem?_map] at hk
    obtain ⟨k0, hk0, ek⟩ := Option.map_eq_some_iff.mp hk
    have hjl := (List.getElem?_eq_some_iff.mp hk0).1
    obtain ⟨row, hrow⟩ : ∃ row, nums[j]? = some row := ⟨_, List.getElem?_eq_getElem (by omega)⟩
    obtain ⟨rl, rok⟩ := nok.row row (List.mem_of_getElem? hrow)
    have uniq : ∀ {j' : Nat} {k' : Link}, D.ls[j']? = some k' → r.2.1 = k'.n → j' = j ∧ k' = k0 := fun {j' k'} h1 h2 => by
      have e : j' = j := str_one ok.gl.2 (z := r.2.1) (by rw [List.getElem?_map, h1, h2]; rfl) hj
      subst e
      rw [hk0] at h1
      exact ⟨rfl, (Option.some.inj h1).symm⟩
    refine ⟨_, rfl, tn, _, rfl, htn, _, rfl, tn, _, _, j, rfl, rfl, htn.sq, hj, fun m hm q => ?_, ?_⟩
    · have := str_one ok.gl.2 q hj
      omega
    obtain ⟨y, hy, dp⟩ := pick_i (dps_ex e1 L.ls) hk0
    obtain ⟨tl, u, vs, rfl, hT, _, _⟩ := link_in dp
    refine ⟨_, rfl, x, a.C_Question, dx, _, _, rfl, e1 _ _ QA.ob, T.cl_Question, T.na_Question_land, q_land .., l, a.C, dxl, _, _, rfl, e1 _ _ L.ob, T.cl, T.nL, fs_links .., _, rfl, li, _, _, _, rfl, rfl, ex_t e1 L.li, atI_nat hy, ?_⟩
    refine ⟨_, rfl, _, rfl, tl, _, rfl, hT, (fun h => absurd (show HT.sIx 4 0 (some 1) = 0 from h.1) (by decide)), fun p1 hp1 => ?_⟩
    rw [show cutV [V.str k0.n, .str k0.o, .str k0.t, .ref u] (some 1) (some 3) = [V.str k0.o, .str k0.t] from rfl]
    have e2 := Ex.new (o := .tup [.str k0.o, .str k0.t]) hp1
    have m1 : (upd H1 p1 (.tup [.str k0.o, .str k0.t])) p1 = some (.tup [.str k0.o, .str k0.t]) := upd_same
    generalize upd H1 p1 (.tup [.str k0.o, .str k0.t]) = H2 at e2 m1
    have e12 := e1.trans e2
    refine ⟨_, rfl, tb, _, _, _, rfl, rfl, ex_t e12 stb, atI_nat (j := 0) rfl, _, rfl, by show 2 ≤ sizeLine; decide, fun u2 hu2 => ?_⟩
    have e3 := Ex.new (o := .tup [.str b.1, .str r.1]) hu2
    have m2 : (upd H2 u2 (.tup [.str b.1, .str r.1])) u2 = some (.tup [.str b.1, .str r.1]) := upd_same
    have m1 := e3 _ _ m1
    generalize upd H2 u2 (.tup [.str b.1, .str r.1]) = H3 at e3 m2 m1
    have e13 := e12.trans e3
    have lk0 := ok.lk k0 (List.mem_of_getElem? hk0)
    have sh2 : ∀ {y z : Str}, PyData.strOk y = true → PyData.strOk z = true → SeqAt.shaped (dPair y z) = true := fun {y z} h1 h2 => sh_shaped (sh_tup (n := 1) fun d hd => by
      rcases List.mem_cons.mp hd with rfl | hd
      · exact ⟨by simp only [PyData.canLay0]; exact h1, by simp only [PyData.depth]; omega⟩
      · rw [List.mem_singleton.mp hd]
        exact ⟨by simp only [PyData.canLay0]; exact h2, by simp only [PyData.depth]; omega⟩) (by decide)
    refine ⟨dPair k0.o k0.t, dPair b.1 r.1, .tup (st_of m1) (.cons (.str _) (.cons (.str _) .nil)), .tup (st_of m2) (.cons (.str _) (.cons (.str _) .nil)), sh2 (name_strOk (ok.gp.1 _ lk0.o)) (name_strOk (ok.gp.1 _ lk0.t)), sh2 sob sor, _, rfl, ?_⟩
    rw [eqv_pair]
    refine ite2 (fun h => ?_) (fun h => ?_)
    · refine k _ false e13 ⟨(fun h => by cases h), fun ⟨⟨j', k', row', h1, _, h3, h4, h5, _⟩, _⟩ => ?_⟩
      obtain ⟨rfl, rfl⟩ := uniq h1 h3
      rw [h4, h5, beq_self_eq_true, beq_self_eq_true] at h
      exact absurd h (by decide)
    have ends : k0.o = b.1 ∧ k0.t = r.1 := by
      cases c : (k0.o == b.1 && k0.t == r.1) with
      | true =>
        rw [Bool.and_eq_true] at c
        exact ⟨eq_of_beq c.1, eq_of_beq c.2⟩
      | false => exact absurd (by rw [c]; rfl) h
    obtain ⟨rv, hrv, drv⟩ := pick_i (dps_ex e13 dn) hrow
    obtain ⟨rr, rfl, srr⟩ := row_in drv
    refine ⟨_, rfl, x, dx, _, rfl, e13 _ _ QA.ob, q_through .., _, rfl, _, rfl, nt, _, _, _, rfl, rfl, ex_t e13 hn, atI_nat hrv, _, rfl, tb, _, _, _, rfl, rfl, ex_t e13 stb, atI_nat (j := 2) rfl, x, rr, b.2.2, D, ws, sts, bs, row, rfl, hq.ex e13, srr, rl, rok, wok, b0, _, rfl, ?_, _, rfl, ?_⟩
    · cases FP.thr (wt D ws) row b.2.2 <;> rfl
    refine ite2 (fun h => ?_) (fun hth => ?_)
    · have h := of_decide_eq_true h
      have th : FP.thr (wt D ws) row b.2.2 = some r.2.2 := by
        cases c : FP.thr (wt D ws) row b.2.2 with
        | none => rw [c] at h; cases h
        | some v => rw [c] at h; exact congrArg some (V.int.inj h)
      refine ⟨_, rfl, x, dx, _, rfl, e13 _ _ QA.ob, q_is_ahead .., _, rfl, _, rfl, x, r.2.2, r.1, D, ws, sts, bs, rfl, hq.ex e13, k _ _ e13 ⟨fun q => ⟨⟨j, k0, row, hk0, hrow, ek.symm, ends.2, ends.1, th⟩, q⟩, fun q => q.2⟩⟩
    · refine k _ false e13 ⟨(fun h => by cases h), fun ⟨⟨j', k', row', h1, h2, h3, h4, h5, h6⟩, _⟩ => ?_⟩
      obtain ⟨rfl, rfl⟩ := uniq h1 h3
      rw [hrow] at h2
      cases h2
      exact absurd (decide_eq_true (by rw [h6]; rfl)) hth
end
end EV

set_option Elab.async false
set_option linter.all false
set_option maxRecDepth 100000
set_option maxHeartbeats 4000000
namespace EV
open PySem PySem.Spec PyProof.Rows L2 EvS Evl FD EnT
theorem at_last {xs : List V} {v : V} (h : xs[xs.length - 1]? = some v) : atI xs (-1) = some v := by
  have := (List.getElem?_eq_some_iff.mp h).1
  unfold atI ixN
  rw [if_neg (by decide), if_pos (by omega)]
  show xs[(-1 + (xs.length : Int)).toNat]? = _
  rw [show (-1 + (xs.length : Int)).toNat = xs.length - 1 by omega, h]
theorem any_id {cs : List Bool} : cs.any id = false ↔ ∀ c ∈ cs, c = false := by
  rw [List.any_eq_false]
  exact ⟨fun h c hc => by have := h c hc; cases c <;> simp_all, fun h c hc => by rw [h c hc]; decide⟩
def CheckP (D : LandD) (ws : List (Int × Str)) (sts bs : List (Str × Int)) (p wd : Str) (lb : List (Str × Int)) (rows : List CRow) : Prop :=
  (wd = "never" ∧ rows = [] ∧ KeepP D ws sts bs (numsS 0 D) lb p) ∨ (wd = "surely" ∧ lb = [] ∧ ComeP D ws sts bs (numsS 1 D) rows p) ∨ (wd = "maybe" ∧ KeepP D ws sts bs (numsS 1 D) lb p ∧ ComeP D ws sts bs (numsS 0 D) rows p)
def sp_check_paper (K : PySem.W.Frag) (C CP : Addr) : Sp := fun vs H Q _ => ∃ (l w s b told : Addr) (p : Str) (D : LandD) (ws : List (Int × Str)) (sts bs : List (Str × Int)) (us ss bb : List V) (wd : Str) (lb : List (Str × Int)) (rows : List CRow), vs = [.ref l, .ref w, .ref s, .ref b, .str p, .ref told] ∧ AskAt K C H l w s b D ws sts bs us ss bb ∧ p ∈ D.ps ∧ IsPaper K CP H told wd lb rows ∧ lb.length ≤ 1000 ∧ rows.length ≤ 1000 ∧ (∀ r ∈ rows, PyData.strOk r.1 = true) ∧
  ∀ H' (c : Bool), Ex H H' → (c = true ↔ CheckP D ws sts bs p wd lb rows) → Q (.bl c) H'
section
variable {P : Program} {w : World} {K : PySem.W.Frag} {mg : Str → Option Value} {base : Heap} {a : Ad}
theorem G__comes_to (T : Txt K mg a) : FnOk P w K mg base CX0 4 a.f__comes_to a.d__comes_to ["question", "numbers", "chain", "place"] (sp__comes_to K a.C a.C_Question) := by
  refine T.F__comes_to.ok sc__comes_to (fun vs H Q E h => ?_) (fun cdv A outer s H vs Q E hr h => ?_)
  · obtain ⟨x, nt, l, p, D, ws, sts, bs, nums, ns, cs, rows, rfl, _⟩ := h
    rfl
  · obtain ⟨x, nt, l, p, D, ws, sts, bs, nums, ns, cs, rows, rfl, hq, ok, wok, pm, hn, dn, nok, hl, dl, ll, so, k⟩ := h
    have lcs := dps_len dl
    rw [List.length_map] at lcs
    refine ⟨_, (pss_cons (ps_if (PW.pt (pw_or (pt_cmpR op_eq (pe_callB call_len_seq (by rfl) T.z_len PySem.boot_len (pa_cons (pv 2) pa_nil)) pe_int (nomark _)) (pw_or1 (pt_cmpR op_ne (pe_ix ix_tup (pe_ix ix_list (pv 2) (pe_un un_neg pe_int) (fun _ _ => rfl)) pe_int (fun _ _ => rfl)) (pv 3) (nomark _))))) (pss_one (ps_ret pe_bl)) pss_nil)
      (pss_cons (ps_if (PW.pt (pw_or (pt_val (pe_callB (cr_any rfl) (by rfl) T.z_any (by decide +kernel) (pa_cons (pe_lc (own := [("_", 4), ("_", 4), ("minute", 5)]) (g := gTup K 3 (gCons (gName 4) (gCons (gName 4) (gCons (gName 5) gNil)))) (tt := tYes) rfl sc__comes_to.nd (pi_list (pv 2)) (blkOk_by (N := ["question", "numbers", "chain", "place", "_", "minute", "before", "row"]) (sc := defScope s__comes_to) (by decide +kernel)) (fun _ _ _ _ _ => (pg_tup (by rfl) (pgs_cons (pg_name (i := 4) sc__comes_to.nd rfl (Or.inl rfl)) (pgs_cons (pg_name (i := 4) sc__comes_to.nd rfl (Or.inl rfl)) (pgs_cons (pg_name (i := 5) sc__comes_to.nd rfl (Or.inl rfl)) pgs_nil))))) (fun _ _ _ _ _ => pts_nil) (fun _ _ _ _ _ => (pe_cmpR op_lt (pv 5) pe_int (nomark _)))) pa_nil))) (pw_or1 (pt_not (pt_val (pe_call (G__is_beginning T) (hr.mono (by decide)) (by rfl) T.g__is_beginning T.k__is_beginning T.B__is_beginning .nil pass0 (pa_cons (pv 0) (pa_cons (pe_ix ix_list (pv 2) pe_int (fun _ _ => rfl)) pa_nil)))))))) (pss_one (ps_ret pe_bl)) pss_nil)
      (pss_one (ps_ret (pe_callB (cr_all rfl) (by rfl) T.z_all (by decide +kernel) (pa_cons (pe_lc (own := [("before", 6), ("row", 7)]) (g := gTup K 2 (gCons (gName 6) (gCons (gName 7) gNil))) (tt := tYes) rfl sc__comes_to.nd (pi_zip (by rfl) T.z_zip (pa_cons (pv 2) (pa_cons (pe_slice sl_list (pv 2) (po_some pe_int) po_none) pa_nil))) (blkOk_by (N := ["question", "numbers", "chain", "place", "_", "minute", "before", "row"]) (sc := defScope s__comes_to) (by decide +kernel)) (fun _ _ _ _ _ => (pg_tup (by rfl) (pgs_cons (pg_name (i := 6) sc__comes_to.nd rfl (Or.inl rfl)) (pgs_cons (pg_name (i := 7) sc__comes_to.nd rfl (Or.inl rfl)) pgs_nil)))) (fun _ _ _ _ _ => pts_nil) (fun _ _ _ _ _ => (pe_call (G__follows T) (hr.mono (by decide)) (by rfl) T.g__follows T.k__follows T.B__follows .nil pass0 (pa_cons (pv 0) (pa_cons (pv 1) (pa_cons (pv 6) (pa_cons (pv 7) pa_nil))))))) pa_nil)))))), ?_⟩
    refine ⟨_, rfl, l, _, rfl, .inl hl, rfl, _, rfl, ?_⟩
    have len0 : rows.length = 0 → ¬ ComeP D ws sts bs nums rows p := fun z h => by
      obtain ⟨h0, e, _⟩ := h.beg
      have := (List.getElem?_eq_some_iff.mp e).1
      omega
    refine ite2 (fun h => k _ false (Ex.refl _) ⟨(fun h => by cases h), fun q => absurd q (len0 (by have := V.int.inj (of_decide_eq_true h); omega))⟩) (fun h => ?_)
    have pos : 0 < rows.length := by
      rcases Nat.eq_zero_or_pos rows.length with z | z
      · exact absurd (decide_eq_true (show V.int ((cs.length : Nat) : Int) = V.int 0 by rw [lcs, z]; rfl)) h
      · exact z
    obtain ⟨rl, hrl⟩ : ∃ r, rows[rows.length - 1]? = some r := ⟨_, List.getElem?_eq_getElem (by omega)⟩
    obtain ⟨vl, hvl, dpl⟩ := pick_i dl hrl
    rw [← lcs] at hvl
    obtain ⟨tl, nml, rfl, stl, _⟩ := ch_in dpl
    refine ⟨_, rfl, _, rfl, l, _, _, _, rfl, rfl, hl, at_last hvl, tl, _, _, _, rfl, rfl, stl, atI_nat (j := 0) rfl, _, rfl, rfl, _, rfl, ?_⟩
    have lastp : ComeP D ws sts bs nums rows p → rl.1 = p := fun q => by
      obtain ⟨e, h1, h2⟩ := q.last
      rw [hrl] at h1
      cases h1
      exact h2
    refine ite2 (fun h => k _ false (Ex.refl _) ⟨(fun h => by cases h), fun q => by rw [lastp q, decide_eq_true rfl] at h; exact absurd h (by decide)⟩) (fun h => ?_)
    have ep : rl.1 = p := by
      by_cases c : V.str rl.1 = V.str p
      · exact V.str.inj c
      · exact absurd (by rw [decide_eq_false c]; rfl) h
    clear len0
    -- minutes below 0
    refine ⟨_, rfl, l, rfl, ⟨_, hl⟩, fun D0 hD => lcY_list (K := K) (a := l) (xs := cs) (fun i H' => Ex H H' ∧ ∃ bl : List Bool, H' D0 = some (.lst (bl.map V.bl)) ∧ bl.length = i ∧ ((∀ c ∈ bl, c = false) ↔ ∀ r ∈ rows.take i, 0 ≤ r.2.2)) ⟨Ex.new hD, [], upd_same, rfl, ⟨(fun _ r hr => by cases hr), fun _ c hc => by cases hc⟩⟩ (fun i H' _ z => ex_l z.1 hl) (fun i y H' hy z => ?_) (fun H1 z => ?_)⟩
    · obtain ⟨e, bl, hbl, lbl, iff⟩ := z
      have hi := (List.getElem?_eq_some_iff.mp hy).1
      obtain ⟨r, hrr, hmr, dp⟩ := pick (dps_ex e dl) hy
      obtain ⟨t, nm, rfl, st, _⟩ := ch_in dp
      refine ⟨t, _, rfl, st, rfl, _, _, rfl, _, _, rfl, _, _, rfl, rfl, rfl, _, rfl, _, _, rfl, rfl, _, hbl, sz_lt (by rw [List.length_map]; omega), e.mut hD, bl ++ [decide (r.2.2 < 0)], ?_, by rw [List.length_append, lbl] <;> rfl, ?_⟩
      · rw [upd_same, List.map_append]
        rfl
      · rw [take_one hrr, all_snoc, all_snoc, iff, decide_eq_false_iff_not]
        exact ⟨fun h => ⟨h.1, by omega⟩, fun h => ⟨h.1, by omega⟩⟩
    obtain ⟨e1, bl, hbl, lbl, iff⟩ := z
    rw [lcs, List.take_length] at iff
    refine ⟨D0, bl, rfl, SqL.of hbl, _, rfl, ?_⟩
    refine ite2 (fun h => k _ false e1 ⟨(fun h => by cases h), fun q => by rw [any_id.mpr (iff.mpr q.nn)] at h; cases h⟩) (fun h => ?_)
    have nn : ∀ r ∈ rows, 0 ≤ r.2.2 := iff.mp (any_id.mp (by
      cases c : bl.any id with
      | true => exact absurd c h
      | false => rfl))
    -- the beginning
    obtain ⟨r0, hr0⟩ : ∃ r, rows[0]? = some r := ⟨_, List.getElem?_eq_getElem pos⟩
    obtain ⟨v0, hv0, dp0⟩ := pick_i dl hr0
    have dp0' := dp0
    obtain ⟨t0, nm0, rfl, st0, _⟩ := ch_in dp0'
    refine ⟨_, rfl, _, rfl, l, _, _, _, rfl, rfl, ex_l e1 hl, atI_nat (j := 0) hv0, x, t0, r0, D, ws, sts, bs, rfl, hq.ex e1, ok, pm, dp_ex e1 dp0, so r0 (List.mem_of_getElem? hr0), fun H2 c e2 hc => ⟨_, rfl, ?_⟩⟩
    have e12 := e1.trans e2
    cases c with
    | false => exact iteT (k _ false e12 ⟨(fun h => by cases h), fun q => by obtain ⟨h0, g1, g2⟩ := q.beg; rw [hr0] at g1; cases g1; exact absurd (hc.mpr g2) (by decide)⟩)
    | true =>
      refine iteF ?_
      have beg := hc.mp rfl
      -- one row after another
      refine ⟨_, rfl, _, rfl, _, rfl, l, _, rfl, ex_l e12 hl, fun q hq1 => ?_⟩
      rw [show (1 : Int) = ((1 : Nat) : Int) from rfl, cut_from]
      have e3 := Ex.new (o := .lst (cs.drop 1)) hq1
      have mq : (upd H2 q (.lst (cs.drop 1))) q = some (.lst (cs.drop 1)) := upd_same
      generalize upd H2 q (.lst (cs.drop 1)) = H3 at e3 mq
      have e13 := e12.trans e3
      refine ⟨l, q, _, _, rfl, ex_l e13 hl, SqL.of mq, fun B hB => lc_it (walk_zip (n := cs.length - 1) (by rw [List.length_drop]; omega)) (fun i H' => Ex H3 H' ∧ ∃ bl : List Bool, H' B = some (.lst (bl.map V.bl)) ∧ bl.length = i ∧ ((∀ c ∈ bl, c = true) ↔ ∀ (j : Nat) (b r : CRow), j < i → rows[j]? = some b → rows[j + 1]? = some r → FollP D ws bs nums b r)) ⟨Ex.new hB, [], upd_same, rfl, ⟨(fun _ j b r h => absurd h (Nat.not_lt_zero _)), fun _ c hc => by cases hc⟩⟩ (fun i H' _ z => ⟨ex_l (e13.trans z.1) hl, SqL.of (z.1 _ _ mq)⟩) (fun i y H' H'' hi z yy => ?_) (fun H4 z => ?_)⟩
      · obtain ⟨e, bl, hbl, lbl, iff⟩ := z
        obtain ⟨T0, u, v, rfl, ht, rfl, h1, h2⟩ := yy
        have h1 : cs[i]? = some u := h1
        have h2 : (cs.drop 1)[i]? = some v := h2
        rw [List.getElem?_drop, Nat.add_comm] at h2
        obtain ⟨rb, hrb, hmb, db⟩ := pick dl h1
        obtain ⟨rr, hrr, hmr, dr⟩ := pick dl h2
        have db' := db
        have dr' := dr
        obtain ⟨tb, _, rfl, _, _⟩ := ch_in db'
        obtain ⟨tr, _, rfl, _, _⟩ := ch_in dr'
        have eT := Ex.new (o := .tup [.ref tb, .ref tr]) ht
        have e5 := (e13.trans e).trans eT
        have hblT := eT _ _ hbl
        refine ⟨T0, _, rfl, st_of upd_same, rfl, _, _, rfl, _, _, rfl, rfl, rfl, _, rfl, _, rfl, _, rfl, _, rfl, x, nt, tb, tr, rb, rr, D, ws, sts, bs, nums, ns, rfl, hq.ex e5, ok, wok, ex_t e5 hn, dps_ex e5 dn, nok, dp_ex e5 db, dp_ex e5 dr, so rb hmb, so rr hmr, nn rb hmb, fun H5 c ec hc => ⟨_, ec _ _ hblT, sz_lt (by rw [List.length_map]; omega), ((e.trans eT).trans ec).mut hB, bl ++ [c], ?_, by rw [List.length_append, lbl] <;> rfl, ?_⟩⟩
        · rw [upd_same, List.map_append]
          rfl
        · rw [all_snoc, iff, hc]
          constructor
          · rintro ⟨g1, g2⟩ j b r hj hb hr
            rcases Nat.lt_succ_iff_lt_or_eq.mp hj with hj | rfl
            · exact g1 j b r hj hb hr
            · rw [hrb] at hb
              rw [hrr] at hr
              cases hb
              cases hr
              exact g2
          · exact fun g => ⟨fun j b r hj => g j b r (by omega), g i rb rr (by omega) hrb hrr⟩
      · obtain ⟨e, bl, hbl, lbl, iff⟩ := z
        refine ⟨B, bl, rfl, SqL.of hbl, k _ _ (e13.trans e) (all_id.trans (iff.trans ⟨fun g => ⟨⟨rl, hrl, ep⟩, nn, ⟨r0, hr0, beg⟩, fun j b r hb hr => g j b r (by have := (List.getElem?_eq_some_iff.mp hr).1; omega) hb hr⟩, fun g j b r _ hb hr => g.fol j b r hb hr⟩))⟩
end
end EV

set_option Elab.async false
set_option linter.all false
set_option maxRecDepth 100000
set_option maxHeartbeats 4000000
namespace EV
open PySem PySem.Spec PyProof.Rows L2 EvS Evl FD EnT
section
variable {P : Program} {w : World} {K : PySem.W.Frag} {mg : Str → Option Value} {base : Heap} {a : Ad}
theorem G_check_paper (T : Txt K mg a) : FnOk P w K mg base CX0 6 a.f_check_paper a.d_check_paper ["land", "weather", "starts", "breaks", "place", "told"] (sp_check_paper K a.C a.C_Paper) := by
  refine T.F_check_paper.ok sc_check_paper (fun vs H Q E h => ?_) (fun cdv A outer s H vs Q E hr h => ?_)
  · obtain ⟨l, w, s, b, told, p, D, ws, sts, bs, us, ss, bb, wd, lb, rows, rfl, _⟩ := h
    rfl
  · obtain ⟨l, w, s, b, told, p, D, ws, sts, bs, us, ss, bb, wd, lb, rows, rfl, A, hp, ip, llb, lrows, so, k⟩ := h
    obtain ⟨dp, lbA, ch, lus, cus, hob, hlb, dlb, hch, dch⟩ := id ip
    have lcus := dps_len dch
    rw [List.length_map] at lcus
    have llus := dps_len dlb
    rw [List.length_map] at llus
    refine ⟨_, (pss_cons (ps_set (i := 6) sc_check_paper.nd rfl (Or.inl rfl) (pe_call (G_ask T) (hr.mono (by decide)) (by rfl) T.g_ask T.k_ask T.B_ask .nil pass0 (pa_cons (pv 0) (pa_cons (pv 1) (pa_cons (pv 2) (pa_cons (pv 3) (pa_cons (pe_lst (pa_cons (pv 4) pa_nil)) pa_nil)))))))
      (pss_cons (ps_set (i := 7) sc_check_paper.nd rfl (Or.inl rfl) (pe_call (G_least_numbers T) (hr.mono (by decide)) (by rfl) T.g_least_numbers T.k_least_numbers T.B_least_numbers .nil pass0 (pa_cons (pv 0) pa_nil)))
      (pss_cons (ps_set (i := 8) sc_check_paper.nd rfl (Or.inl rfl) (pe_call (G_most_numbers T) (hr.mono (by decide)) (by rfl) T.g_most_numbers T.k_most_numbers T.B_most_numbers .nil pass0 (pa_cons (pv 0) pa_nil)))
      (pss_cons (ps_if (pt_cmpR op_eq (pe_fld (pv 5) rfl) (pe_gS rfl T.c_NEVER) (nomark _)) (pss_one (ps_ret (pe_and (pe_cmpR op_eq (pe_callB call_len_seq (by rfl) T.z_len PySem.boot_len (pa_cons (pe_fld (pv 5) rfl) pa_nil)) pe_int (nomark _)) (pe_one (pe_call (G__keep_off T) (hr.mono (by decide)) (by rfl) T.g__keep_off T.k__keep_off T.B__keep_off .nil pass0 (pa_cons (pv 6) (pa_cons (pv 7) (pa_cons (pe_fld (pv 5) rfl) (pa_cons (pv 4) pa_nil))))))))) pss_nil)
      (pss_cons (ps_if (pt_cmpR op_eq (pe_fld (pv 5) rfl) (pe_gS rfl T.c_SURELY) (nomark _)) (pss_one (ps_ret (pe_and (pe_cmpR op_eq (pe_callB call_len_seq (by rfl) T.z_len PySem.boot_len (pa_cons (pe_fld (pv 5) rfl) pa_nil)) pe_int (nomark _)) (pe_one (pe_call (G__comes_to T) (hr.mono (by decide)) (by rfl) T.g__comes_to T.k__comes_to T.B__comes_to .nil pass0 (pa_cons (pv 6) (pa_cons (pv 8) (pa_cons (pe_fld (pv 5) rfl) (pa_cons (pv 4) pa_nil))))))))) pss_nil)
      (pss_cons (ps_if (pt_cmpR op_eq (pe_fld (pv 5) rfl) (pe_gS rfl T.c_MAYBE) (nomark _)) (pss_one (ps_ret (pe_and (pe_call (G__keep_off T) (hr.mono (by decide)) (by rfl) T.g__keep_off T.k__keep_off T.B__keep_off .nil pass0 (pa_cons (pv 6) (pa_cons (pv 8) (pa_cons (pe_fld (pv 5) rfl) (pa_cons (pv 4) pa_nil))))) (pe_one (pe_call (G__comes_to T) (hr.mono (by decide)) (by rfl) T.g__comes_to T.k__comes_to T.B__comes_to .nil pass0 (pa_cons (pv 6) (pa_cons (pv 7) (pa_cons (pe_fld (pv 5) rfl) (pa_cons (pv 4) pa_nil))))))))) pss_nil)
      (pss_one (ps_ret pe_bl)))))))), ?_⟩
    refine ⟨_, rfl, _, rfl, _, rfl, _, rfl, _, rfl, by show 1 ≤ sizeLine; decide, fun o ho => ?_⟩
    have e1 := Ex.new (o := .lst [.str p]) ho
    have A1 := A.ex e1
    refine ⟨l, w, s, b, o, D, ws, us, sts, bs, ss, bb, [p], rfl, A1.ld, A1.ok, A1.hw, A1.dw, A1.wok, A1.hs, A1.ds, Nat.le_trans A1.ls (by decide), A1.sok.pm, A1.hb, A1.db, Nat.le_trans A1.lb (by decide), A1.bok, .inl (SqL.of upd_same), (fun q hq => by rw [List.mem_singleton.mp hq]; exact hp), fun H2 x e2 hx => ?_⟩
    have e12 := e1.trans e2
    refine ⟨_, rfl, l, D, rfl, A.ld.ex e12, A.ok, fun H3 n0 ns0 e3 _ hn0 dn0 => ?_⟩
    refine ⟨_, rfl, l, D, rfl, A.ld.ex (e12.trans e3), A.ok, fun H4 n1 ns1 e4 _ hn1 dn1 => ?_⟩
    have e14 := (e12.trans e3).trans e4
    have hx4 := hx.ex (e3.trans e4)
    have hn0 := ex_t e4 hn0
    have dn0 := dps_ex e4 dn0
    have no0 := numsS_ok A.ok 0
    have no1 := numsS_ok A.ok 1
    have ob4 := e14 _ _ hob
    have hlb4 := ex_l e14 hlb
    have dlb4 := dps_ex e14 dlb
    have hch4 := ex_l e14 hch
    have dch4 := dps_ex e14 dch
    have rows0 : ((cus.length : Nat) : Int) = 0 ↔ rows = [] := by
      rw [lcus, ← List.length_eq_zero_iff]
      omega
    have lb0 : ((lus.length : Nat) : Int) = 0 ↔ lb = [] := by
      rw [llus, ← List.length_eq_zero_iff]
      omega
    have zI : ∀ {i : Int}, decide (V.int i = V.int 0) = true ↔ i = 0 := fun {i} => ⟨fun h => V.int.inj (of_decide_eq_true h), fun h => decide_eq_true (by rw [h])⟩
    -- never
    refine ⟨_, rfl, told, a.C_Paper, dp, _, _, rfl, ob4, T.cl_Paper, T.na_Paper_word, p_word .., rfl, _, rfl, ?_⟩
    refine ite2 (fun hw => ?_) (fun hw => ?_)
    · have ew : wd = "never" := V.str.inj (of_decide_eq_true hw)
      have only : ∀ {c : Bool}, (c = true ↔ rows = [] ∧ KeepP D ws sts bs (numsS 0 D) lb p) → (c = true ↔ CheckP D ws sts bs p wd lb rows) := fun {c} hc => by
        rw [hc, ew]
        exact ⟨fun h => .inl ⟨rfl, h⟩, fun h => by
          rcases h with h | h | h
          · exact h.2
          · exact absurd h.1 (by decide)
          · exact absurd h.1 (by decide)⟩
      refine ⟨_, rfl, told, a.C_Paper, dp, _, _, rfl, ob4, T.cl_Paper, T.na_Paper_chain, p_chain .., ch, _, rfl, .inl hch4, rfl, _, rfl, ?_⟩
      refine ite2 (fun h0 => ?_) (fun h0 => k _ false e14 (only ⟨(fun h => by cases h), fun q => absurd (zI.mpr (rows0.mpr q.1)) h0⟩))
      have r0 := rows0.mp (zI.mp h0)
      refine ⟨_, rfl, _, rfl, _, rfl, told, a.C_Paper, dp, _, _, rfl, ob4, T.cl_Paper, T.na_Paper_labels, p_labels .., _, rfl, x, n0, lbA, p, D, ws, sts, bs, numsS 0 D, ns0, lus, lb, rfl, hx4, A.ok, A.wok, A.ls, hn0, dn0, no0, hlb4, dlb4, llb, fun H5 c e5 hc => k _ c (e14.trans e5) (only ⟨fun h => ⟨r0, hc.mp h⟩, fun h => hc.mpr h.2⟩)⟩
    have nw : wd ≠ "never" := fun z => hw (decide_eq_true (by rw [z]))
    -- surely
    refine ⟨_, rfl, told, a.C_Paper, dp, _, _, rfl, ob4, T.cl_Paper, T.na_Paper_word, p_word .., rfl, _, rfl, ?_⟩
    refine ite2 (fun hw => ?_) (fun hw => ?_)
    · have ew : wd = "surely" := V.str.inj (of_decide_eq_true hw)
      have only : ∀ {c : Bool}, (c = true ↔ lb = [] ∧ ComeP D ws sts bs (numsS 1 D) rows p) → (c = true ↔ CheckP D ws sts bs p wd lb rows) := fun {c} hc => by
        rw [hc, ew]
        exact ⟨fun h => .inr (.inl ⟨rfl, h⟩), fun h => by
          rcases h with h | h | h
          · exact absurd h.1 (by decide)
          · exact h.2
          · exact absurd h.1 (by decide)⟩
      refine ⟨_, rfl, told, a.C_Paper, dp, _, _, rfl, ob4, T.cl_Paper, T.na_Paper_labels, p_labels .., lbA, _, rfl, .inl hlb4, rfl, _, rfl, ?_⟩
      refine ite2 (fun h0 => ?_) (fun h0 => k _ false e14 (only ⟨(fun h => by cases h), fun q => absurd (zI.mpr (lb0.mpr q.1)) h0⟩))
      have r0 := lb0.mp (zI.mp h0)
      refine ⟨_, rfl, _, rfl, _, rfl, told, a.C_Paper, dp, _, _, rfl, ob4, T.cl_Paper, T.na_Paper_chain, p_chain .., _, rfl, x, n1, ch, p, D, ws, sts, bs, numsS 1 D, ns1, cus, rows, rfl, hx4, A.ok, A.wok, A.sok.pm, hn1, dn1, no1, hch4, dch4, lrows, so, fun H5 c e5 hc => k _ c (e14.trans e5) (only ⟨fun h => ⟨r0, hc.mp h⟩, fun h => hc.mpr h.2⟩)⟩
    have nw2 : wd ≠ "surely" := fun z => hw (decide_eq_true (by rw [z]))
    -- maybe
    refine ⟨_, rfl, told, a.C_Paper, dp, _, _, rfl, ob4, T.cl_Paper, T.na_Paper_word, p_word .., rfl, _, rfl, ?_⟩
    refine ite2 (fun hw => ?_) (fun hw => ?_)
    · have ew : wd = "maybe" := V.str.inj (of_decide_eq_true hw)
      have only : ∀ {c : Bool}, (c = true ↔ KeepP D ws sts bs (numsS 1 D) lb p ∧ ComeP D ws sts bs (numsS 0 D) rows p) → (c = true ↔ CheckP D ws sts bs p wd lb rows) := fun {c} hc => by
        rw [hc, ew]
        exact ⟨fun h => .inr (.inr ⟨rfl, h⟩), fun h => by
          rcases h with h | h | h
          · exact absurd h.1 (by decide)
          · exact absurd h.1 (by decide)
          · exact h.2⟩
      refine ⟨_, rfl, _, rfl, _, rfl, told, a.C_Paper, dp, _, _, rfl, ob4, T.cl_Paper, T.na_Paper_labels, p_labels .., _, rfl, x, n1, lbA, p, D, ws, sts, bs, numsS 1 D, ns1, lus, lb, rfl, hx4, A.ok, A.wok, A.ls, hn1, dn1, no1, hlb4, dlb4, llb, fun H5 c e5 hc => ⟨_, rfl, ?_⟩⟩
      cases c with
      | false => exact iteF (k _ false (e14.trans e5) (only ⟨(fun h => by cases h), fun q => hc.mpr q.1⟩))
      | true =>
        refine iteT ?_
        refine ⟨_, rfl, _, rfl, _, rfl, told, a.C_Paper, dp, _, _, rfl, e5 _ _ ob4, T.cl_Paper, T.na_Paper_chain, p_chain .., _, rfl, x, n0, ch, p, D, ws, sts, bs, numsS 0 D, ns0, cus, rows, rfl, hx4.ex e5, A.ok, A.wok, A.sok.pm, ex_t e5 hn0, dps_ex e5 dn0, no0, ex_l e5 hch4, dps_ex e5 dch4, lrows, so, fun H6 c e6 hc2 => k _ c ((e14.trans e5).trans e6) (only ⟨fun h => ⟨hc.mp rfl, hc2.mp h⟩, fun h => hc2.mpr h.2⟩)⟩
    have nw3 : wd ≠ "maybe" := fun z => hw (decide_eq_true (by rw [z]))
    exact k _ false e14 ⟨(fun h => by cases h), fun h => by
      rcases h with h | h | h
      · exact absurd h.1 nw
      · exact absurd h.1 nw2
      · exact absurd h.1 nw3⟩
end
end EV

set_option Elab.async false
set_option linter.all false
set_option maxRecDepth 100000
set_option maxHeartbeats 8000000
namespace EV
open PySem PySem.Spec PyProof.Rows L2 EvS Evl FD EnT
def sp__law_ends (K : PySem.W.Frag) : Sp := fun vs H Q _ => ∃ (br : Addr) (ys : List V) (bs : List (Str × Int)), vs = [.ref br] ∧ SqL K H br ys ∧ DpAll K H ys (bs.map dPm) ∧ bs.length ≤ 1000 ∧ ∀ H' d, Ex H H' → H d = none → Tab H' d (FP.minOf bs) → Q (.ref d) H'
def sp__law_ahead (K : PySem.W.Frag) : Sp := fun vs H Q _ => ∃ (d : Addr) (p : Str) (m : Int) (b : Str → Option Int), vs = [.ref d, .str p, .int m] ∧ Tab H d b ∧ Q (.bl (FP.ahead (b p) m)) H
def sp__law_is_chain (K : PySem.W.Frag) : Sp := fun vs H Q _ => ∃ (q w s br l : Addr) (sd : Nat) (p : Str) (D : LandD) (wi pl li pa : Addr) (lrows prs us ss ys cs : List V) (ws : List (Int × Str)) (sts bs : List (Str × Int)) (rows : List CRow), vs = [.ref q, .ref w, .ref s, .ref br, .int sd, .ref l, .str p] ∧ Parts2 K H q D wi pl li pa lrows prs ∧ LandOk D ∧ sd < 2 ∧ SqL K H w us ∧ DpAll K H us (ws.map dWr) ∧ WOk D ws ∧ SqL K H s ss ∧ DpAll K H ss (sts.map dPm) ∧ StOk D sts ∧ SqL K H br ys ∧ DpAll K H ys (bs.map dPm) ∧ bs.length ≤ 1000 ∧ SqL K H l cs ∧ DpAll K H cs (rows.map dCh) ∧ rows.length ≤ 1000 ∧ (∀ r ∈ rows, PyData.strOk r.1 = true) ∧
  ∀ H' (c : Bool), Ex H H' → (c = true ↔ ComeP D ws sts bs (numsS sd D) rows p) → Q (.bl c) H'
section
variable {P : Program} {w : World} {K : PySem.W.Frag} {mg : Str → Option Value} {base : Heap} {a : Ad}
theorem G__law_ahead (T : Txt K mg a) : FnOk P w K mg base CX0 1 a.f__law_ahead a.d__law_ahead ["ends", "place", "minute"] (sp__law_ahead K) := by
  refine T.F__law_ahead.ok sc__law_ahead (fun vs H Q E h => ?_) (fun cdv A outer s H vs Q E hr h => ?_)
  · obtain ⟨d, p, m, b, rfl, _⟩ := h
    rfl
  · obtain ⟨d, p, m, b, rfl, tb, k⟩ := h
    obtain ⟨kvs, hk, lk, tk⟩ := tb
    refine ⟨_, (pss_one (ps_ret (pe_or (pe_cmp (pc_dnotin (hu_of hr) (pv 1) (pv 0))) (pe_one (pe_cmpR op_lt (pv 2) (pe_dget (hu_of hr) (pv 0) (pv 1) (fun _ _ => rfl)) (nomark _)))))), ?_⟩
    have g : DGet H d (.str p) (valV kvs (.inr p)) := DGet.k (k := Sum.inr p) hk
    rw [tk p] at g
    refine ⟨_, rfl, _, rfl, d, _, rfl, g, _, rfl, ?_⟩
    cases hf : b p with
    | none =>
      rw [hf] at k
      exact iteT k
    | some u =>
      rw [hf] at k g
      exact iteF ⟨_, rfl, _, rfl, _, rfl, d, _, rfl, g, _, _, rfl, rfl, k⟩
theorem G__law_ends (T : Txt K mg a) : FnOk P w K mg base CX0 1 a.f__law_ends a.d__law_ends ["breaks"] (sp__law_ends K) := by
  refine T.F__law_ends.ok sc__law_ends (fun vs H Q E h => ?_) (fun cdv A outer s H vs Q E hr h => ?_)
  · obtain ⟨br, ys, bs, rfl, _⟩ := h
    rfl
  · obtain ⟨br, ys, bs, rfl, hbr, dbr, lb1, k⟩ := h
    have ly := dps_len dbr
    rw [List.length_map] at ly
    refine ⟨_, (pss_cons (ps_set (i := 1) sc__law_ends.nd rfl (Or.inl rfl) pe_dnewK)
      (pss_cons (ps_for PassesOwn.never rfl (pi_list (pv 0)) (pg_tup (by rfl) (pgs_cons (pg_name (i := 2) sc__law_ends.nd rfl (Or.inl rfl)) (pgs_cons (pg_name (i := 3) sc__law_ends.nd rfl (Or.inl rfl)) pgs_nil))) (pss_one (ps_dput (hu_of hr) (pv 1) (pv 2) (pe_callB (call_min2 rfl) (by rfl) T.z_min (by decide +kernel) (pa_cons (pv 3) (pa_cons (pe_dget2 (hu_of hr) (pv 1) (pv 2) (pv 3) ⟨by rfl, by rfl, by rfl, by rfl⟩) pa_nil))) rfl)))
      (pss_one (ps_ret (pv 1))))), ?_⟩
    refine fun e he => ?_
    have x1 := Ex.new (o := .dK []) he
    refine ⟨_, rfl, br, rfl, ⟨_, ex_l x1 hbr⟩, for_list (K := K) (a := br) (xs := ys) (fun i σ H' => ∃ (v6 v7 : Option V) (kvs : List (Key × V)), σ = [some (.ref br), some (.ref e), v6, v7] ∧ Ex H H' ∧ H' e = some (.dK kvs) ∧ TabK kvs (FP.minOf (bs.take i)) ∧ kvs.length ≤ i) ⟨none, none, [], rfl, x1, upd_same, .nil, Nat.le_refl _⟩ (fun i σ H' _ z => by obtain ⟨v6, v7, kvs, rfl, ex, _⟩ := z; exact ex_l ex hbr) (fun i y σ H' hy z => ?_) (fun σ H2 z => ?_)⟩
    · obtain ⟨v6, v7, kvs, rfl, ex, hk, tb, lk⟩ := z
      have hi := (List.getElem?_eq_some_iff.mp hy).1
      obtain ⟨r, hrr, hm, dp⟩ := pick (dps_ex ex dbr) hy
      obtain ⟨t, rfl, ht⟩ := pm_in dp
      have nx : ∀ q, FP.minOf (bs.take (i + 1)) q = upd1 (FP.minOf (bs.take i)) r.1 (if (FP.minOf (bs.take i) r.1).getD r.2 < r.2 then (FP.minOf (bs.take i) r.1).getD r.2 else r.2) q := fun q => by
        rw [take_one hrr, FP.minOf_more]
        unfold upd1
        by_cases c : r.1 = q
        · rw [if_pos c, if_pos c.symm, ← c, least_min]
        · rw [if_neg c, if_neg fun z => c z.symm]
      have gd : (valV kvs (.inr r.1)).getD (.int r.2) = V.int ((FP.minOf (bs.take i) r.1).getD r.2) := by
        rw [tb r.1]
        cases FP.minOf (bs.take i) r.1 <;> rfl
      refine ⟨t, _, rfl, ht, rfl, _, _, rfl, _, _, rfl, rfl, ?_⟩
      refine ⟨_, rfl, _, rfl, e, rfl, .inl ⟨kvs, .inl hk⟩, _, rfl, _, rfl, _, DGet.k (k := Sum.inr r.1) hk, ?_⟩
      rw [gd]
      refine ⟨_, _, rfl, _, rfl, _, rfl, e, _, rfl, DPut.k (k := Sum.inr r.1) hk (sz_lt (by omega)), some (.str r.1), some (.int r.2), _, rfl, ex.mut he, upd_same, ?_, ?_⟩
      · exact (tb.put r.1 _).same fun q => (nx q).symm
      · have := length_putK kvs (Sum.inr r.1) (V.int (if (FP.minOf (bs.take i) r.1).getD r.2 < r.2 then (FP.minOf (bs.take i) r.1).getD r.2 else r.2))
        omega
    obtain ⟨v6, v7, kE, rfl, x2, hE, tE, lE⟩ := z
    rw [ly, List.take_length] at tE
    exact ⟨_, rfl, k H2 e x2 he ⟨kE, hE, by omega, tE⟩⟩
theorem G__law_is_chain (T : Txt K mg a) : FnOk P w K mg base CX0 3 a.f__law_is_chain a.d__law_is_chain ["parts", "weather", "starts", "breaks", "side", "chain", "place"] (sp__law_is_chain K) := by
  refine T.F__law_is_chain.ok sc__law_is_chain (fun vs H Q E h => ?_) (fun cdv A outer s H vs Q E hr h => ?_)
  · obtain ⟨q, w, s, br, l, sd, p, D, wi, pl, li, pa, lrows, prs, us, ss, ys, cs, ws, sts, bs, rows, rfl, _⟩ := h
    rfl
  · obtain ⟨q, w, s, br, l, sd, p, D, wi, pl, li, pa, lrows, prs, us, ss, ys, cs, ws, sts, bs, rows, rfl, PT, ok, sd2, hw, dw, wok, hs, ds, sok, hbr, dbr, lbs, hl, dl, ll, so, k⟩ := h
    have lcs := dps_len dl
    rw [List.length_map] at lcs
    have llr := dps_len PT.ls
    rw [List.length_map] at llr
    have l60 := ok.l60
    refine ⟨_, (pss_cons (ps_set (i := 7) sc__law_is_chain.nd rfl (Or.inl rfl) (pe_call (G__law_ends T) (hr.mono (by decide)) (by rfl) T.g__law_ends T.k__law_ends T.B__law_ends .nil pass0 (pa_cons (pv 3) pa_nil)))
      (pss_cons (ps_if (PW.pt (pw_or (pt_cmpR op_eq (pe_callB call_len_seq (by rfl) T.z_len PySem.boot_len (pa_cons (pv 5) pa_nil)) pe_int (nomark _)) (pw_or (pt_cmpR op_notN (pe_ix ix_tup (pe_ix ix_list (pv 5) pe_int (fun _ _ => rfl)) pe_int (fun _ _ => rfl)) pe_non (nomark _)) (pw_or1 (pt_cmpR op_ne (pe_ix ix_tup (pe_ix ix_list (pv 5) (pe_op op_sub (pe_callB call_len_seq (by rfl) T.z_len PySem.boot_len (pa_cons (pv 5) pa_nil)) pe_int) (fun _ _ => rfl)) pe_int (fun _ _ => rfl)) (pv 6) (nomark _)))))) (pss_one (ps_ret pe_bl)) pss_nil)
      (pss_cons (ps_if (PW.pt (pw_or (pt_cmpR (op_notInD (EvS.r65 hr)) (pe_tup (pa_cons (pe_ix ix_tup (pe_ix ix_list (pv 5) pe_int (fun _ _ => rfl)) pe_int (fun _ _ => rfl)) (pa_cons (pe_ix ix_tup (pe_ix ix_list (pv 5) pe_int (fun _ _ => rfl)) pe_int (fun _ _ => rfl)) pa_nil))) (pv 2) (by rfl)) (pw_or1 (pt_not (pt_val (pe_call (G__law_ahead T) (hr.mono (by decide)) (by rfl) T.g__law_ahead T.k__law_ahead T.B__law_ahead .nil pass0 (pa_cons (pv 7) (pa_cons (pe_ix ix_tup (pe_ix ix_list (pv 5) pe_int (fun _ _ => rfl)) pe_int (fun _ _ => rfl)) (pa_cons (pe_ix ix_tup (pe_ix ix_list (pv 5) pe_int (fun _ _ => rfl)) pe_int (fun _ _ => rfl)) pa_nil))))))))) (pss_one (ps_ret pe_bl)) pss_nil)
      (pss_cons (ps_for PassesOwn.never rfl (pi_range2 (by rfl) T.z_range (pa_cons pe_int (pa_cons (pe_callB call_len_seq (by rfl) T.z_len PySem.boot_len (pa_cons (pv 5) pa_nil)) pa_nil))) (pg_name (i := 8) sc__law_is_chain.nd rfl (Or.inr rfl)) (pss_cons (ps_setLc (i := 9) (own := [("link", 10)]) (g := gName 10) rfl sc__law_is_chain.nd rfl rfl (sw_true rfl rfl rfl (by decide +kernel)) (pi_tup (pe_ix ix_list (pv 0) pe_int (fun _ _ => rfl))) (blkOk_by (N := ["parts", "weather", "starts", "breaks", "side", "chain", "place", "ends", "k", "links", "link"]) (sc := defScope s__law_is_chain) (by decide +kernel)) (fun _ _ _ _ _ => pg_name (i := 10) sc__law_is_chain.nd rfl (Or.inl rfl)) (fun _ _ _ _ _ => pts_one (pt_cmpR op_eq (pe_ix (show IxR _ (rIxT K) from ix_tup) (pv 10) pe_int (fun _ _ => rfl)) (pe_ix (show IxR _ (rIxT K) from ix_tup) (pe_ix (show IxR _ (rIxL K) from ix_list) (pv 5) (pv 8) (fun _ _ => rfl)) pe_int (fun _ _ => rfl)) (nomark _))) (fun _ _ _ _ _ => (pv 10)))
        (pss_cons (ps_if (PW.pt (pw_or (pt_cmpR op_eq (pe_callB call_len_seq (by rfl) T.z_len PySem.boot_len (pa_cons (pv 9) pa_nil)) pe_int (nomark _)) (pw_or (pt_cmpR op_ne (pe_ix ix_tup (pe_ix ix_list (pv 9) pe_int (fun _ _ => rfl)) pe_int (fun _ _ => rfl)) (pe_ix ix_tup (pe_ix ix_list (pv 5) (pe_op op_sub (pv 8) pe_int) (fun _ _ => rfl)) pe_int (fun _ _ => rfl)) (nomark _)) (pw_or1 (pt_cmpR op_ne (pe_ix ix_tup (pe_ix ix_list (pv 9) pe_int (fun _ _ => rfl)) pe_int (fun _ _ => rfl)) (pe_ix ix_tup (pe_ix ix_list (pv 5) (pv 8) (fun _ _ => rfl)) pe_int (fun _ _ => rfl)) (nomark _)))))) (pss_one (ps_ret pe_bl)) pss_nil)
        (pss_cons (ps_if (pt_cmpR op_ne (pe_call (G__law_caught T) (hr.mono (by decide)) (by rfl) T.g__law_caught T.k__law_caught T.B__law_caught .nil pass0 (pa_cons (pv 0) (pa_cons (pv 1) (pa_cons (pe_ix ix_list (pv 9) pe_int (fun _ _ => rfl)) (pa_cons (pe_ix ix_tup (pe_ix ix_list (pv 5) (pe_op op_sub (pv 8) pe_int) (fun _ _ => rfl)) pe_int (fun _ _ => rfl)) (pa_cons (pv 4) pa_nil)))))) (pe_ix ix_tup (pe_ix ix_list (pv 5) (pv 8) (fun _ _ => rfl)) pe_int (fun _ _ => rfl)) (nomark _)) (pss_one (ps_ret pe_bl)) pss_nil)
        (pss_one (ps_if (pt_not (pt_val (pe_call (G__law_ahead T) (hr.mono (by decide)) (by rfl) T.g__law_ahead T.k__law_ahead T.B__law_ahead .nil pass0 (pa_cons (pv 7) (pa_cons (pe_ix ix_tup (pe_ix ix_list (pv 5) (pv 8) (fun _ _ => rfl)) pe_int (fun _ _ => rfl)) (pa_cons (pe_ix ix_tup (pe_ix ix_list (pv 5) (pv 8) (fun _ _ => rfl)) pe_int (fun _ _ => rfl)) pa_nil)))))) (pss_one (ps_ret pe_bl)) pss_nil))))))
      (pss_one (ps_ret pe_bl)))))), ?_⟩
    refine ⟨_, rfl, br, ys, bs, rfl, hbr, dbr, lbs, fun H1 d e1 _ tb => ?_⟩
    have hl1 := ex_l e1 hl
    refine ⟨_, rfl, l, _, rfl, .inl hl1, rfl, _, rfl, ?_⟩
    refine ite2 (fun h => k _ false e1 ⟨(fun h => by cases h), fun g => by
      obtain ⟨h0, e, _⟩ := g.beg
      have := (List.getElem?_eq_some_iff.mp e).1
      have := V.int.inj (of_decide_eq_true h)
      omega⟩) (fun h => ?_)
    have pos : 0 < rows.length := by
      rcases Nat.eq_zero_or_pos rows.length with z | z
      · exact absurd (decide_eq_true (show V.int ((cs.length : Nat) : Int) = V.int 0 by rw [lcs, z]; rfl)) h
      · exact z
    obtain ⟨r0, hr0⟩ : ∃ r, rows[0]? = some r := ⟨_, List.getElem?_eq_getElem pos⟩
    obtain ⟨v0, hv0, dp0⟩ := pick_i dl hr0
    obtain ⟨t0, nm0, rfl, st0, dn0⟩ := ch_in dp0
    have st0 := ex_t e1 st0
    have begp : ComeP D ws sts bs (numsS sd D) rows p → BegP sts bs r0 := fun g => by
      obtain ⟨h0, e, g2⟩ := g.beg
      rw [hr0] at e
      cases e
      exact g2
    refine ⟨_, rfl, l, _, _, _, rfl, rfl, hl1, atI_nat (j := 0) hv0, t0, _, _, _, rfl, rfl, st0, atI_nat (j := 1) rfl, rfl, _, rfl, ?_⟩
    rcases nm_of dn0 with ⟨hz, rfl⟩ | ⟨hz, rfl⟩
    rotate_left
    · exact iteT (k _ false e1 ⟨(fun h => by cases h), fun g => absurd (begp g).1 hz⟩)
    refine iteF ?_
    obtain ⟨rl, hrl⟩ : ∃ r, rows[rows.length - 1]? = some r := ⟨_, List.getElem?_eq_getElem (by omega)⟩
    obtain ⟨vl, hvl, dpl⟩ := pick_i dl hrl
    obtain ⟨tl, nml, rfl, stl, _⟩ := ch_in dpl
    have hvl' : atI cs (((cs.length : Nat) : Int) - 1) = some (.ref tl) := by
      rw [show ((cs.length : Nat) : Int) - 1 = ((rows.length - 1 : Nat) : Int) by omega]
      exact atI_nat hvl
    refine ⟨_, rfl, _, rfl, l, _, rfl, .inl hl1, _, _, rfl, rfl, l, _, _, _, rfl, rfl, hl1, hvl', tl, _, _, _, rfl, rfl, ex_t e1 stl, atI_nat (j := 0) rfl, _, rfl, rfl, _, rfl, ?_⟩
    have lastp : ComeP D ws sts bs (numsS sd D) rows p → rl.1 = p := fun q => by
      obtain ⟨e, h1, h2⟩ := q.last
      rw [hrl] at h1
      cases h1
      exact h2
    refine ite2 (fun h => k _ false e1 ⟨(fun h => by cases h), fun q => by rw [lastp q, decide_eq_true rfl] at h; exact absurd h (by decide)⟩) (fun h => ?_)
    have ep : rl.1 = p := by
      by_cases c : V.str rl.1 = V.str p
      · exact V.str.inj c
      · exact absurd (by rw [decide_eq_false c]; rfl) h
    -- the beginning
    refine ⟨_, rfl, l, _, _, _, rfl, rfl, hl1, atI_nat (j := 0) hv0, t0, _, _, _, rfl, rfl, st0, atI_nat (j := 0) rfl, _, rfl, l, _, _, _, rfl, rfl, hl1, atI_nat (j := 0) hv0, t0, _, _, _, rfl, rfl, st0, atI_nat (j := 2) rfl, by show 2 ≤ sizeLine; decide, fun u hu => ?_⟩
    have eT := Ex.new (o := .tup [.str r0.1, .int r0.2.2]) hu
    have mt : (upd H1 u (.tup [.str r0.1, .int r0.2.2])) u = some (.tup [.str r0.1, .int r0.2.2]) := upd_same
    generalize upd H1 u (.tup [.str r0.1, .int r0.2.2]) = H2 at eT mt
    have e2 := e1.trans eT
    have hl2 := ex_l e2 hl
    have st0 := ex_t eT st0
    have tb2 := tb.ex eT
    have mem : ((sts.map dPm).any fun z => PyData.eqv z (dPm (r0.1, r0.2.2))) = true ↔ (r0.1, r0.2.2) ∈ sts := by
      rw [List.any_map, List.any_eq_true]
      constructor
      · rintro ⟨y, hy, h⟩
        have h : PyData.eqv (dPm y) (dPm (r0.1, r0.2.2)) = true := h
        rw [eqv_pm] at h
        rw [← of_decide_eq_true h]
        exact hy
      · intro h
        exact ⟨_, h, by show PyData.eqv (dPm _) (dPm _) = true; rw [eqv_pm]; exact decide_eq_true rfl⟩
    refine ⟨_, rfl, dPm (r0.1, r0.2.2), _, .tup (st_of mt) (.cons (.str _) (.cons (.int _) .nil)), .lst (ex_l e2 hs) (dps_ex e2 ds), sh_shaped (sh_pmS (so r0 (List.mem_of_getElem? hr0))) (by decide), sh_pmsQ ok sok.pm, _, rfl, ?_⟩
    cases hin : ((sts.map dPm).any fun z => PyData.eqv z (dPm (r0.1, r0.2.2))) with
    | false => exact iteT (k _ false e2 ⟨(fun h => by cases h), fun g => by rw [mem.mpr (begp g).2.1] at hin; cases hin⟩)
    | true =>
    refine iteF ?_
    refine ⟨_, rfl, _, rfl, l, _, _, _, rfl, rfl, hl2, atI_nat (j := 0) hv0, t0, _, _, _, rfl, rfl, st0, atI_nat (j := 0) rfl, _, rfl, l, _, _, _, rfl, rfl, hl2, atI_nat (j := 0) hv0, t0, _, _, _, rfl, rfl, st0, atI_nat (j := 2) rfl, d, r0.1, r0.2.2, _, rfl, tb2, _, rfl, ?_⟩
    cases ha : FP.ahead (FP.minOf bs r0.1) r0.2.2 with
    | false => exact iteT (k _ false e2 ⟨(fun h => by cases h), fun g => by rw [(begp g).2.2] at ha; cases ha⟩)
    | true =>
    refine iteF ?_
    have beg : BegP sts bs r0 := ⟨hz, mem.mp hin, ha⟩
    -- row by row
    have numS : ∀ {j : Nat} {k1 : Link}, D.ls[j]? = some k1 → (numsS sd D)[j]? = some (lkS sd k1).row := fun {j k1} h => by
      unfold numsS
      rw [List.getElem?_map, h]
      rfl
    refine ⟨_, rfl, l, _, rfl, .inl hl2, 1, _, rfl, ⟨by decide, by decide, by omega, by omega⟩, ?_⟩
    rw [show (((cs.length : Nat) : Int) - 1).toNat = rows.length - 1 by omega]
    refine for_range (lo := 1) (n := rows.length - 1) (fun i σ H' => ∃ v8 v9, σ = [some (.ref q), some (.ref w), some (.ref s), some (.ref br), some (.int sd), some (.ref l), some (.str p), some (.ref d), v8, v9, none] ∧ Ex H2 H' ∧ ∀ (j : Nat) (b r : CRow), j < i → rows[j]? = some b → rows[j + 1]? = some r → FollP D ws bs (numsS sd D) b r) ⟨_, _, rfl, Ex.refl _, fun j b r h => absurd h (Nat.not_lt_zero _)⟩ (fun i σ H' hi z => ?_) (fun σ H' z => ?_)
    · obtain ⟨v8, v9, rfl, e, up⟩ := z
      obtain ⟨rb, hrb⟩ : ∃ r, rows[i]? = some r := ⟨_, List.getElem?_eq_getElem (by omega)⟩
      obtain ⟨rr, hrr⟩ : ∃ r, rows[i + 1]? = some r := ⟨_, List.getElem?_eq_getElem (by omega)⟩
      have fol : ComeP D ws sts bs (numsS sd D) rows p → FollP D ws bs (numsS sd D) rb rr := fun g => g.fol i rb rr hrb hrr
      obtain ⟨vb, hvb, dpb⟩ := pick_i dl hrb
      obtain ⟨vr, hvr, dpr⟩ := pick_i dl hrr
      obtain ⟨xb, nmb, rfl, stb, _⟩ := ch_in dpb
      obtain ⟨xr, nmr, rfl, str, dnr⟩ := ch_in dpr
      have e0 := e2.trans e
      have PT' := PT.ex e0
      have atk : atI cs (1 + (i : Int)) = some (.ref xr) := by
        rw [show 1 + (i : Int) = ((i + 1 : Nat) : Int) by omega]
        exact atI_nat hvr
      have atb : atI cs (1 + (i : Int) - 1) = some (.ref xb) := by
        rw [show 1 + (i : Int) - 1 = (i : Int) by omega]
        exact atI_nat hvb
      have scn : ∀ z : Str, scal (.str z) nmr = true := fun z => by
        rcases nm_of dnr with ⟨_, rfl⟩ | ⟨_, rfl⟩ <;> rfl
      -- the links of that name
      have comesK : FollP D ws bs (numsS sd D) rb rr → ∃ k1 ∈ D.ls, V.str k1.n = nmr ∧ k1.t = rr.1 ∧ k1.o = rb.1 ∧ FP.thr (wt D ws) (lkS sd k1).row rb.2.2 = some rr.2.2 := fun ⟨⟨j, k1, row, h1, h2, h3, h4, h5, h6⟩, _⟩ => by
        have km := List.mem_of_getElem? h1
        rw [numS h1] at h2
        cases h2
        refine ⟨k1, km, ?_, h4, h5, h6⟩
        rcases nm_of dnr with ⟨hz, _⟩ | ⟨_, rfl⟩
        · exfalso
          have := (name_len (ok.gl.1 k1.n (List.mem_map.mpr ⟨k1, km, rfl⟩))).1
          rw [← h3, hz] at this
          exact absurd this (by decide)
        · rw [h3]
      refine ⟨_, rfl, q, _, _, _, rfl, rfl, PT'.ob, atI_nat (j := 2) rfl, li, rfl, ⟨_, PT'.li⟩, fun D0 hD => lc_tup (K := K) (a := li) (xs := lrows) (fun i' H3 => Ex H' H3 ∧ ∃ acc, H3 D0 = some (.lst acc) ∧ acc.length ≤ i' ∧ DpAll K H' acc (((D.ls.take i').filter fun k1 => decide (V.str k1.n = nmr)).map dLink)) ⟨Ex.new hD, [], upd_same, Nat.le_refl _, .nil⟩ (fun i' H3 _ z => ex_t z.1 PT'.li) (fun i' y H3 hy z => ?_) (fun H3 z => ?_)⟩
      · obtain ⟨e3, acc, ha, la, da⟩ := z
        have hi' := (List.getElem?_eq_some_iff.mp hy).1
        obtain ⟨k1, hk1, hm1, dp⟩ := pick PT'.ls hy
        have dp' := dp
        obtain ⟨t, u, vs, rfl, hT, _, _⟩ := link_in dp'
        have nx : ((D.ls.take (i' + 1)).filter fun k1 => decide (V.str k1.n = nmr)) = ((D.ls.take i').filter fun k1 => decide (V.str k1.n = nmr)) ++ if decide (V.str k1.n = nmr) = true then [k1] else [] := by
          rw [take_one hk1, List.filter_append]
          congr 1
          rw [List.filter_cons]
          by_cases c : decide (V.str k1.n = nmr) = true
          · rw [if_pos c, if_pos c]; rfl
          · rw [if_neg c, if_neg c]; rfl
        refine ⟨rfl, _, rfl, t, _, _, _, rfl, rfl, ex_t e3 hT, atI_nat (j := 0) rfl, _, rfl, _, rfl, l, _, _, _, rfl, rfl, ex_l (e0.trans e3) hl, atk, xr, _, _, _, rfl, rfl, ex_t (e0.trans e3) str, atI_nat (j := 1) rfl, scn _, _, rfl, ?_⟩
        refine ite2 (fun h => ?_) (fun h => ?_)
        · rw [if_pos h] at nx
          refine ⟨_, rfl, acc, ha, sz_lt (by omega), e3.mut hD, acc ++ [.ref t], upd_same, by rw [List.length_append]; show acc.length + 1 ≤ i' + 1; omega, ?_⟩
          rw [nx, List.map_append]
          exact dps_app da (dps_one dp)
        · rw [if_neg h, List.append_nil] at nx
          exact ⟨e3, acc, ha, by omega, by rw [nx]; exact da⟩
      obtain ⟨e3, acc, ha, la, da⟩ := z
      rw [llr, List.take_length] at da
      have e03 := e0.trans e3
      have e23 := e.trans e3
      have hl3 := ex_l e03 hl
      have stb3 := ex_t e03 stb
      have str3 := ex_t e03 str
      refine ⟨_, rfl, D0, _, rfl, .inl (SqL.of ha), rfl, _, rfl, ?_⟩
      cases hF : D.ls.filter fun k1 => decide (V.str k1.n = nmr) with
      | nil =>
        rw [hF] at da
        cases da
        refine ite2 (fun _ => k _ false e03 ⟨(fun h => by cases h), fun g => ?_⟩) (fun h => absurd (decide_eq_true rfl) h)
        obtain ⟨k1, km, en, _⟩ := comesK (fol g)
        have : k1 ∈ D.ls.filter fun k1 => decide (V.str k1.n = nmr) := List.mem_filter.mpr ⟨km, decide_eq_true en⟩
        rw [hF] at this
        cases this
      | cons k0 tk =>
        rw [hF] at da
        have m0 : k0 ∈ D.ls.filter fun k1 => decide (V.str k1.n = nmr) := by rw [hF]; exact List.mem_cons_self
        obtain ⟨k0m, k0n⟩ := List.mem_filter.mp m0
        have k0n := of_decide_eq_true k0n
        obtain ⟨j0, hj0⟩ := List.getElem?_of_mem k0m
        have lk0 := ok.lk k0 k0m
        have en : rr.2.1 = k0.n := by
          rcases nm_of dnr with ⟨_, rfl⟩ | ⟨_, rfl⟩
          · cases k0n
          · exact (V.str.inj k0n).symm
        have uniq : FollP D ws bs (numsS sd D) rb rr → k0.t = rr.1 ∧ k0.o = rb.1 ∧ FP.thr (wt D ws) (lkS sd k0).row rb.2.2 = some rr.2.2 := fun g => by
          obtain ⟨k1, km, e1n, g1, g2, g3⟩ := comesK g
          have : k1 = k0 := link_uniq ok.gl.2 km k0m (V.str.inj (e1n.trans k0n.symm))
          rw [← this]
          exact ⟨g1, g2, g3⟩
        cases da with
        | @cons a0 atl _ _ hd0 _ =>
          obtain ⟨xk, u, vs, rfl, hTk, _, _⟩ := link_in hd0
          have hTk := ex_t e3 hTk
          have hA := SqL.of (K := K) ha
          refine ite2 (fun h => absurd (V.int.inj (of_decide_eq_true h)) (by simp only [List.length_cons]; omega)) (fun _ => ?_)
          refine ⟨_, rfl, D0, _, _, _, rfl, rfl, hA, atI_nat (j := 0) rfl, xk, _, _, _, rfl, rfl, hTk, atI_nat (j := 1) rfl, _, rfl, _, rfl, _, _, rfl, rfl, l, _, _, _, rfl, rfl, hl3, atb, xb, _, _, _, rfl, rfl, stb3, atI_nat (j := 0) rfl, rfl, _, rfl, ?_⟩
          refine ite2 (fun h => k _ false e03 ⟨(fun h => by cases h), fun g => by rw [(uniq (fol g)).2.1, decide_eq_true rfl] at h; exact absurd h (by decide)⟩) (fun h => ?_)
          have eo : k0.o = rb.1 := by
            by_cases c : V.str k0.o = V.str rb.1
            · exact V.str.inj c
            · exact absurd (by rw [decide_eq_false c]; rfl) h
          refine ⟨_, rfl, D0, _, _, _, rfl, rfl, hA, atI_nat (j := 0) rfl, xk, _, _, _, rfl, rfl, hTk, atI_nat (j := 2) rfl, _, rfl, _, rfl, l, _, _, _, rfl, rfl, hl3, atk, xr, _, _, _, rfl, rfl, str3, atI_nat (j := 0) rfl, rfl, _, rfl, ?_⟩
          refine ite2 (fun h => k _ false e03 ⟨(fun h => by cases h), fun g => by rw [(uniq (fol g)).1, decide_eq_true rfl] at h; exact absurd h (by decide)⟩) (fun h => ?_)
          have et : k0.t = rr.1 := by
            by_cases c : V.str k0.t = V.str rr.1
            · exact V.str.inj c
            · exact absurd (by rw [decide_eq_false c]; rfl) h
          -- caught
          refine ⟨_, rfl, _, rfl, _, rfl, D0, _, _, _, rfl, rfl, hA, atI_nat (j := 0) rfl, _, rfl, _, rfl, _, _, rfl, rfl, l, _, _, _, rfl, rfl, hl3, atb, xb, _, _, _, rfl, rfl, stb3, atI_nat (j := 2) rfl, _, rfl, q, w, xk, rb.2.2, sd, D, wi, pl, li, pa, lrows, prs, us, ws, k0, rfl, PT.ex e03, ex_l e03 hw, dps_ex e03 dw, wok, dp_ex e3 hd0, lk0.len, sd2, fun H4 e4 => ?_⟩
          have e04 := e03.trans e4
          have e24 := e23.trans e4
          refine ⟨_, rfl, _, rfl, l, _, _, _, rfl, rfl, ex_l e4 hl3, atk, xr, _, _, _, rfl, rfl, ex_t e4 str3, atI_nat (j := 2) rfl, ?_, _, rfl, ?_⟩
          · cases FP.thr (wt D ws) (lkS sd k0).row rb.2.2 <;> rfl
          refine ite2 (fun h => k _ false e04 ⟨(fun h => by cases h), fun g => by rw [(uniq (fol g)).2.2] at h; exact absurd h (by rw [show vInt (some rr.2.2) = V.int rr.2.2 from rfl, decide_eq_true rfl]; decide)⟩) (fun h => ?_)
          have eh : FP.thr (wt D ws) (lkS sd k0).row rb.2.2 = some rr.2.2 := by
            by_cases c : vInt (FP.thr (wt D ws) (lkS sd k0).row rb.2.2) = V.int rr.2.2
            · cases c2 : FP.thr (wt D ws) (lkS sd k0).row rb.2.2 with
              | none => rw [c2] at c; cases c
              | some v => rw [c2] at c; exact congrArg some (V.int.inj c)
            · exact absurd (by rw [decide_eq_false c]; rfl) h
          -- ahead
          refine ⟨_, rfl, _, rfl, _, rfl, l, _, _, _, rfl, rfl, ex_l e4 hl3, atk, xr, _, _, _, rfl, rfl, ex_t e4 str3, atI_nat (j := 0) rfl, _, rfl, _, rfl, l, _, _, _, rfl, rfl, ex_l e4 hl3, atk, xr, _, _, _, rfl, rfl, ex_t e4 str3, atI_nat (j := 2) rfl, d, rr.1, rr.2.2, _, rfl, tb2.ex e24, _, rfl, ?_⟩
          cases hah : FP.ahead (FP.minOf bs rr.1) rr.2.2 with
          | false => exact iteT (k _ false e04 ⟨(fun h => by cases h), fun g => by rw [(fol g).2] at hah; cases hah⟩)
          | true =>
            refine iteF ⟨_, _, rfl, e24, fun j b r hj hb hr => ?_⟩
            rcases Nat.lt_succ_iff_lt_or_eq.mp hj with hj | rfl
            · exact up j b r hj hb hr
            · rw [hrb] at hb
              rw [hrr] at hr
              cases hb
              cases hr
              exact ⟨⟨j0, k0, _, hj0, numS hj0, en, et, eo, eh⟩, hah⟩
    · obtain ⟨v8, v9, rfl, e, up⟩ := z
      have upA : ∀ (j : Nat) (b r : CRow), rows[j]? = some b → rows[j + 1]? = some r → FollP D ws bs (numsS sd D) b r := fun j b r hb hr => up j b r (by have := (List.getElem?_eq_some_iff.mp hr).1; omega) hb hr
      have nnI : ∀ (j : Nat) (r : CRow), rows[j]? = some r → 0 ≤ r.2.2 := fun j => by
        induction j with
        | zero =>
          intro r hr
          rw [hr0] at hr
          cases hr
          exact (sok _ beg.2.1).2
        | succ j ih =>
          intro r hr
          have hj : j < rows.length := by have := (List.getElem?_eq_some_iff.mp hr).1; omega
          have g := ih _ (List.getElem?_eq_getElem hj)
          have := (upA j _ r (List.getElem?_eq_getElem hj) hr).1.lt (numsS_ok ok sd)
          omega
      exact k _ true (e2.trans e) ⟨fun _ => ⟨⟨rl, hrl, ep⟩, fun r hr => by obtain ⟨j, hj⟩ := List.getElem?_of_mem hr; exact nnI j r hj, ⟨r0, hr0, beg⟩, upA⟩, fun _ => rfl⟩
end
end EV

set_option Elab.async false
set_option linter.all false
set_option maxRecDepth 100000
set_option maxHeartbeats 8000000
namespace EV
open PySem PySem.Spec PyProof.Rows L2 EvS Evl FD EnT
structure BoundP (D : LandD) (ws : List (Int × Str)) (sts bs : List (Str × Int)) (nums : List (List (Option Int))) (lb : List (Str × Int)) : Prop where
  nn : ∀ r ∈ lb, r.1 ∈ D.ps ∧ 0 ≤ r.2
  st : ∀ r ∈ sts, HoldsP (FP.minOf bs) (FP.minOf lb) r.1 r.2
  ls : LinksP D ws bs nums (FP.minOf lb)
def sp__law_bounds (K : PySem.W.Frag) : Sp := fun vs H Q _ => ∃ (q w s br l : Addr) (sd : Nat) (D : LandD) (wi pl li pa : Addr) (lrows prs us ss ys vl : List V) (ws : List (Int × Str)) (sts bs lb : List (Str × Int)), vs = [.ref q, .ref w, .ref s, .ref br, .int sd, .ref l] ∧ Parts2 K H q D wi pl li pa lrows prs ∧ LandOk D ∧ sd < 2 ∧ SqL K H w us ∧ DpAll K H us (ws.map dWr) ∧ WOk D ws ∧ SqL K H s ss ∧ DpAll K H ss (sts.map dPm) ∧ SqL K H br ys ∧ DpAll K H ys (bs.map dPm) ∧ bs.length ≤ 1000 ∧ SqL K H l vl ∧ DpAll K H vl (lb.map dPm) ∧ lb.length ≤ 1000 ∧
  ∀ H' (c : Bool), Ex H H' → (c = true ↔ BoundP D ws sts bs (numsS sd D) lb) → Q (.bl c) H'
section
variable {P : Program} {w : World} {K : PySem.W.Frag} {mg : Str → Option Value} {base : Heap} {a : Ad}
theorem G__law_bounds (T : Txt K mg a) : FnOk P w K mg base CX0 3 a.f__law_bounds a.d__law_bounds ["parts", "weather", "starts", "breaks", "side", "labels"] (sp__law_bounds K) := by
  refine T.F__law_bounds.ok sc__law_bounds (fun vs H Q E h => ?_) (fun cdv A outer s H vs Q E hr h => ?_)
  · obtain ⟨q, w, s, br, l, sd, D, wi, pl, li, pa, lrows, prs, us, ss, ys, vl, ws, sts, bs, lb, rfl, _⟩ := h
    rfl
  · obtain ⟨q, w, s, br, l, sd, D, wi, pl, li, pa, lrows, prs, us, ss, ys, vl, ws, sts, bs, lb, rfl, PT, ok, sd2, hw, dw, wok, hs, ds, hbr, dbr, lbs, hl, dl, ll, k⟩ := h
    have lvl := dps_len dl
    rw [List.length_map] at lvl
    have lss := dps_len ds
    rw [List.length_map] at lss
    have llr := dps_len PT.ls
    rw [List.length_map] at llr
    have numS : ∀ {j : Nat} {k1 : Link}, D.ls[j]? = some k1 → (numsS sd D)[j]? = some (lkS sd k1).row := fun {j k1} h => by
      unfold numsS
      rw [List.getElem?_map, h]
      rfl
    refine ⟨_, (pss_cons (ps_set (i := 6) sc__law_bounds.nd rfl (Or.inl rfl) (pe_call (G__law_ends T) (hr.mono (by decide)) (by rfl) T.g__law_ends T.k__law_ends T.B__law_ends .nil pass0 (pa_cons (pv 3) pa_nil)))
      (pss_cons (ps_set (i := 7) sc__law_bounds.nd rfl (Or.inl rfl) pe_dnewK)
      (pss_cons (ps_for PassesOwn.never rfl (pi_list (pv 5)) (pg_tup (by rfl) (pgs_cons (pg_name (i := 8) sc__law_bounds.nd rfl (Or.inl rfl)) (pgs_cons (pg_name (i := 9) sc__law_bounds.nd rfl (Or.inl rfl)) pgs_nil))) (pss_cons (ps_if (PW.pt (pw_or (pt_cmpR op_notIn_seq (pv 8) (pe_ix ix_list (pv 0) pe_int (fun _ _ => rfl)) (by rfl)) (pw_or1 (pt_cmpR op_lt (pv 9) pe_int (nomark _))))) (pss_one (ps_ret pe_bl)) pss_nil)
        (pss_one (ps_dput (hu_of hr) (pv 7) (pv 8) (pe_callB (call_min2 rfl) (by rfl) T.z_min (by decide +kernel) (pa_cons (pv 9) (pa_cons (pe_dget2 (hu_of hr) (pv 7) (pv 8) (pv 9) ⟨by rfl, by rfl, by rfl, by rfl⟩) pa_nil))) rfl))))
      (pss_cons (ps_for PassesOwn.never rfl (pi_list (pv 2)) (pg_tup (by rfl) (pgs_cons (pg_name (i := 8) sc__law_bounds.nd rfl (Or.inl rfl)) (pgs_cons (pg_name (i := 9) sc__law_bounds.nd rfl (Or.inl rfl)) pgs_nil))) (pss_one (ps_if (PW.pt (pw_and (pt_val (pe_call (G__law_ahead T) (hr.mono (by decide)) (by rfl) T.g__law_ahead T.k__law_ahead T.B__law_ahead .nil pass0 (pa_cons (pv 6) (pa_cons (pv 8) (pa_cons (pv 9) pa_nil))))) (pw_and1 (pt_cmpR op_gt (pe_dget2 (hu_of hr) (pv 7) (pv 8) (pe_op op_add (pv 9) pe_int) ⟨by rfl, by rfl, by rfl, by rfl⟩) (pv 9) (nomark _))))) (pss_one (ps_ret pe_bl)) pss_nil)))
      (pss_cons (ps_for PassesOwn.never rfl (pi_tup (pe_ix ix_list (pv 0) pe_int (fun _ _ => rfl))) (pg_name (i := 10) sc__law_bounds.nd rfl (Or.inl rfl)) (pss_one (ps_if (pt_cmp (pc_din (hu_of hr) (pe_ix ix_tup (pv 10) pe_int (fun _ _ => rfl)) (pv 7))) (pss_cons (ps_set (i := 11) sc__law_bounds.nd rfl (Or.inl rfl) (pe_call (G__law_caught T) (hr.mono (by decide)) (by rfl) T.g__law_caught T.k__law_caught T.B__law_caught .nil pass0 (pa_cons (pv 0) (pa_cons (pv 1) (pa_cons (pv 10) (pa_cons (pe_dget (hu_of hr) (pv 7) (pe_ix ix_tup (pv 10) pe_int (fun _ _ => rfl)) (fun _ _ => rfl)) (pa_cons (pv 4) pa_nil)))))))
          (pss_one (ps_if (PW.pt (pw_and (pt_cmpR op_notN (pv 11) pe_non (nomark _)) (pw_and (pt_val (pe_call (G__law_ahead T) (hr.mono (by decide)) (by rfl) T.g__law_ahead T.k__law_ahead T.B__law_ahead .nil pass0 (pa_cons (pv 6) (pa_cons (pe_ix ix_tup (pv 10) pe_int (fun _ _ => rfl)) (pa_cons (pv 11) pa_nil))))) (pw_and1 (pt_cmpR op_gt (pe_dget2 (hu_of hr) (pv 7) (pe_ix ix_tup (pv 10) pe_int (fun _ _ => rfl)) (pe_op op_add (pv 11) pe_int) ⟨by rfl, by rfl, by rfl, by rfl⟩) (pv 11) (nomark _)))))) (pss_one (ps_ret pe_bl)) pss_nil))) pss_nil)))
      (pss_one (ps_ret pe_bl))))))), ?_⟩
    refine ⟨_, rfl, br, ys, bs, rfl, hbr, dbr, lbs, fun H1 d e1 _ tb => ?_⟩
    refine fun e he => ?_
    have x1 := Ex.new (o := .dK []) he
    -- the labels
    refine ⟨_, rfl, l, rfl, ⟨_, ex_l (e1.trans x1) hl⟩, for_list (K := K) (a := l) (xs := vl) (fun i σ H' => ∃ (v8 v9 : Option V) (kvs : List (Key × V)), σ = [some (.ref q), some (.ref w), some (.ref s), some (.ref br), some (.int sd), some (.ref l), some (.ref d), some (.ref e), v8, v9, none, none] ∧ Ex H1 H' ∧ H' e = some (.dK kvs) ∧ TabK kvs (FP.minOf (lb.take i)) ∧ kvs.length ≤ i ∧ ∀ r ∈ lb.take i, r.1 ∈ D.ps ∧ 0 ≤ r.2) ⟨none, none, [], rfl, x1, upd_same, .nil, Nat.le_refl _, fun r hr => by cases hr⟩ (fun i σ H' _ z => by obtain ⟨_, _, _, _, ex, _⟩ := z; exact ex_l (e1.trans ex) hl) (fun i y σ H' hy z => ?_) (fun σ H2 z => ?_)⟩
    · obtain ⟨v8, v9, kvs, rfl, ex, hk, tbk, lk, nn⟩ := z
      have e0 := e1.trans ex
      have hi := (List.getElem?_eq_some_iff.mp hy).1
      obtain ⟨r, hrr, hm, dp⟩ := pick (dps_ex e0 dl) hy
      obtain ⟨t, rfl, ht⟩ := pm_in dp
      have PT' := PT.ex e0
      have nx : ∀ q, FP.minOf (lb.take (i + 1)) q = upd1 (FP.minOf (lb.take i)) r.1 (if (FP.minOf (lb.take i) r.1).getD r.2 < r.2 then (FP.minOf (lb.take i) r.1).getD r.2 else r.2) q := fun q => by
        rw [take_one hrr, FP.minOf_more]
        unfold upd1
        by_cases c : r.1 = q
        · rw [if_pos c, if_pos c.symm, ← c, least_min]
        · rw [if_neg c, if_neg fun z => c z.symm]
      have gd : (valV kvs (.inr r.1)).getD (.int r.2) = V.int ((FP.minOf (lb.take i) r.1).getD r.2) := by
        rw [tbk r.1]
        cases FP.minOf (lb.take i) r.1 <;> rfl
      refine ⟨t, _, rfl, ht, rfl, _, _, rfl, _, _, rfl, rfl, ?_⟩
      refine ⟨_, rfl, _, rfl, q, _, _, _, rfl, rfl, PT'.ob, atI_nat (j := 1) rfl, pl, _, rfl, .inr PT'.pl, rfl, flat_strs _, _, rfl, ?_⟩
      refine ite2 (fun h => k _ false e0 ⟨(fun h => by cases h), fun g => ?_⟩) (fun h => ?_)
      · rw [(inV_strs _ _).mpr (g.nn r hm).1] at h
        exact absurd h (by decide)
      have rin : r.1 ∈ D.ps := (inV_strs _ _).mp (by
        cases c : inV (.str r.1) (D.ps.map V.str) with
        | true => rfl
        | false => exact absurd (by rw [c]; rfl) h)
      refine ⟨_, rfl, _, _, rfl, rfl, _, rfl, ?_⟩
      refine ite2 (fun h => k _ false e0 ⟨(fun h => by cases h), fun g => absurd (g.nn r hm).2 (by have := of_decide_eq_true h; omega)⟩) (fun h => ?_)
      have r0 : 0 ≤ r.2 := by
        rcases Int.lt_or_le r.2 0 with c | c
        · exact absurd (decide_eq_true c) h
        · exact c
      refine ⟨_, rfl, _, rfl, e, rfl, .inl ⟨kvs, .inl hk⟩, _, rfl, _, rfl, _, DGet.k (k := Sum.inr r.1) hk, ?_⟩
      rw [gd]
      refine ⟨_, _, rfl, _, rfl, _, rfl, e, _, rfl, DPut.k (k := Sum.inr r.1) hk (sz_lt (by omega)), some (.str r.1), some (.int r.2), _, rfl, ex.mut he, upd_same, ?_, ?_, fun r' hr' => ?_⟩
      · exact (tbk.put r.1 _).same fun q => (nx q).symm
      · have := length_putK kvs (Sum.inr r.1) (V.int (if (FP.minOf (lb.take i) r.1).getD r.2 < r.2 then (FP.minOf (lb.take i) r.1).getD r.2 else r.2))
        omega
      · rw [take_one hrr] at hr'
        rcases List.mem_append.mp hr' with h | h
        · exact nn r' h
        · rw [List.mem_singleton.mp h]
          exact ⟨rin, r0⟩
    obtain ⟨v8, v9, kE, rfl, x2, hE, tE, lE, nn⟩ := z
    rw [lvl, List.take_length] at tE nn
    have tabE : ∀ {H' : Hp}, Ex H2 H' → ∀ z, DGet H' e (.str z) ((FP.minOf lb z).map V.int) := fun {H'} ee z => by
      have g : DGet H' e (.str z) (valV kE (.inr z)) := DGet.k (k := Sum.inr z) (ee _ _ hE)
      rwa [tE z] at g
    have e02 := e1.trans x2
    -- the starts
    refine ⟨_, rfl, s, rfl, ⟨_, ex_l e02 hs⟩, for_list (K := K) (a := s) (xs := ss) (fun i σ H' => ∃ (v8 v9 : Option V), σ = [some (.ref q), some (.ref w), some (.ref s), some (.ref br), some (.int sd), some (.ref l), some (.ref d), some (.ref e), v8, v9, none, none] ∧ Ex H2 H' ∧ ∀ r ∈ sts.take i, HoldsP (FP.minOf bs) (FP.minOf lb) r.1 r.2) ⟨_, _, rfl, Ex.refl _, fun r hr => by cases hr⟩ (fun i σ H' _ z => by obtain ⟨_, _, _, ex, _⟩ := z; exact ex_l (e02.trans ex) hs) (fun i y σ H' hy z => ?_) (fun σ H3 z => ?_)⟩
    · obtain ⟨v8, v9, rfl, ex, hh⟩ := z
      have e0 := e02.trans ex
      obtain ⟨r, hrr, hm, dp⟩ := pick (dps_ex e0 ds) hy
      obtain ⟨t, rfl, ht⟩ := pm_in dp
      have next : HoldsP (FP.minOf bs) (FP.minOf lb) r.1 r.2 → ∀ r' ∈ sts.take (i + 1), HoldsP (FP.minOf bs) (FP.minOf lb) r'.1 r'.2 := fun h => by
        rw [take_one hrr]
        exact all_snoc.mpr ⟨hh, h⟩
      refine ⟨t, _, rfl, ht, rfl, _, _, rfl, _, _, rfl, rfl, ?_⟩
      refine ⟨_, rfl, _, rfl, _, rfl, d, r.1, r.2, _, rfl, tb.ex (x2.trans ex), _, rfl, ?_⟩
      cases ha : FP.ahead (FP.minOf bs r.1) r.2 with
      | false => exact iteF ⟨_, _, rfl, ex, next fun h => by rw [ha] at h; cases h⟩
      | true =>
        have g := tabE ex r.1
        refine iteT ⟨_, rfl, e, rfl, .inl ⟨kE, .inl (ex _ _ hE)⟩, _, rfl, _, rfl, _, _, rfl, rfl, _, g, ?_⟩
        cases hf : FP.minOf lb r.1 with
        | none =>
          refine ⟨_, rfl, _, _, rfl, rfl, _, rfl, ?_⟩
          exact ite2 (fun _ => k _ false e0 ⟨(fun h => by cases h), fun g => by obtain ⟨u, hu, _⟩ := g.st r hm ha; rw [hf] at hu; cases hu⟩) (fun h => absurd (decide_eq_true (show r.2 + 1 > r.2 by omega)) h)
        | some u =>
          refine ⟨_, rfl, _, _, rfl, rfl, _, rfl, ?_⟩
          refine ite2 (fun h => k _ false e0 ⟨(fun h => by cases h), fun g => ?_⟩) (fun h => ⟨_, _, rfl, ex, next fun _ => ⟨u, hf, ?_⟩⟩)
          · obtain ⟨u', hu, le⟩ := g.st r hm ha
            rw [hf] at hu
            cases hu
            exact absurd (of_decide_eq_true h) (by omega)
          · rcases Int.lt_or_le r.2 u with c | c
            · exact absurd (decide_eq_true (show u > r.2 from c)) h
            · exact c
    obtain ⟨v8, v9, rfl, x3, hst⟩ := z
    rw [lss, List.take_length] at hst
    have e03 := e02.trans x3
    have PT3 := PT.ex e03
    -- the links
    refine ⟨_, rfl, q, _, _, _, rfl, rfl, PT3.ob, atI_nat (j := 2) rfl, li, rfl, ⟨_, PT3.li⟩, for_tup (K := K) (a := li) (xs := lrows) (fun i σ H' => ∃ (v10 v11 : Option V), σ = [some (.ref q), some (.ref w), some (.ref s), some (.ref br), some (.int sd), some (.ref l), some (.ref d), some (.ref e), v8, v9, v10, v11] ∧ Ex H3 H' ∧ ∀ (j : Nat) (k1 : Link), j < i → D.ls[j]? = some k1 → ∀ u, FP.minOf lb k1.o = some u → ∀ t, FP.thr (wt D ws) (lkS sd k1).row u = some t → HoldsP (FP.minOf bs) (FP.minOf lb) k1.t t) ⟨_, _, rfl, Ex.refl _, fun j k1 h => absurd h (Nat.not_lt_zero _)⟩ (fun i σ H' _ z => by obtain ⟨_, _, _, ex, _⟩ := z; exact ex_t ex PT3.li) (fun i y σ H' hy z => ?_) (fun σ H4 z => ?_)⟩
    · obtain ⟨v10, v11, rfl, ex, up⟩ := z
      have e0 := e03.trans ex
      have x0 := x3.trans ex
      obtain ⟨k1, hk1, hm1, dp⟩ := pick (PT.ex e0).ls hy
      have dp' := dp
      obtain ⟨t, u, vs, rfl, hT, _, _⟩ := link_in dp'
      have lk1 := ok.lk k1 hm1
      have next : (∀ u, FP.minOf lb k1.o = some u → ∀ t, FP.thr (wt D ws) (lkS sd k1).row u = some t → HoldsP (FP.minOf bs) (FP.minOf lb) k1.t t) → ∀ (j : Nat) (k2 : Link), j < i + 1 → D.ls[j]? = some k2 → ∀ u, FP.minOf lb k2.o = some u → ∀ t, FP.thr (wt D ws) (lkS sd k2).row u = some t → HoldsP (FP.minOf bs) (FP.minOf lb) k2.t t := fun h j k2 hj h1 => by
        rcases Nat.lt_succ_iff_lt_or_eq.mp hj with hj | rfl
        · exact up j k2 hj h1
        · rw [hk1] at h1
          cases h1
          exact h
      have g := tabE x0 k1.o
      refine ⟨_, rfl, t, _, _, _, rfl, rfl, hT, atI_nat (j := 1) rfl, _, rfl, e, _, rfl, g, _, rfl, ?_⟩
      cases hb : FP.minOf lb k1.o with
      | none => exact iteF ⟨_, _, rfl, ex, next fun u hu => by rw [hb] at hu; cases hu⟩
      | some u0 =>
        rw [hb] at g
        refine iteT ?_
        refine ⟨_, rfl, _, rfl, _, rfl, _, rfl, _, rfl, t, _, _, _, rfl, rfl, hT, atI_nat (j := 1) rfl, e, _, rfl, g, _, rfl, q, w, t, u0, sd, D, wi, pl, li, pa, lrows, prs, us, ws, k1, rfl, PT.ex e0, ex_l e0 hw, dps_ex e0 dw, wok, dp, lk1.len, sd2, fun H5 e5 => ?_⟩
        have e05 := e0.trans e5
        have hT5 := ex_t e5 hT
        refine ⟨_, rfl, ?_⟩
        cases hth : FP.thr (wt D ws) (lkS sd k1).row u0 with
        | none => exact ⟨rfl, _, rfl, iteF ⟨_, _, rfl, ex.trans e5, next fun u hu t ht => by rw [hb] at hu; cases hu; rw [hth] at ht; cases ht⟩⟩
        | some tp =>
          refine ⟨rfl, _, rfl, iteT ⟨_, rfl, _, rfl, t, _, _, _, rfl, rfl, hT5, atI_nat (j := 2) rfl, _, rfl, d, k1.t, tp, _, rfl, tb.ex ((x2.trans x0).trans e5), _, rfl, ?_⟩⟩
          have one : BoundP D ws sts bs (numsS sd D) lb → HoldsP (FP.minOf bs) (FP.minOf lb) k1.t tp := fun g => g.ls i k1 _ hk1 (numS hk1) u0 hb tp hth
          cases ha : FP.ahead (FP.minOf bs k1.t) tp with
          | false => exact iteF ⟨_, _, rfl, ex.trans e5, next fun u hu t ht h => by rw [hb] at hu; cases hu; rw [hth] at ht; cases ht; rw [ha] at h; cases h⟩
          | true =>
            have g2 := tabE (x0.trans e5) k1.t
            refine iteT ⟨_, rfl, e, rfl, .inl ⟨kE, .inl ((x0.trans e5) _ _ hE)⟩, _, rfl, t, _, _, _, rfl, rfl, hT5, atI_nat (j := 2) rfl, _, rfl, _, _, rfl, rfl, _, g2, ?_⟩
            cases hf : FP.minOf lb k1.t with
            | none =>
              refine ⟨_, rfl, _, _, rfl, rfl, _, rfl, ?_⟩
              exact ite2 (fun _ => k _ false e05 ⟨(fun h => by cases h), fun g => by obtain ⟨u, hu, _⟩ := one g ha; rw [hf] at hu; cases hu⟩) (fun h => absurd (decide_eq_true (show tp + 1 > tp by omega)) h)
            | some u2 =>
              refine ⟨_, rfl, _, _, rfl, rfl, _, rfl, ?_⟩
              refine ite2 (fun h => k _ false e05 ⟨(fun h => by cases h), fun g => ?_⟩) (fun h => ⟨_, _, rfl, ex.trans e5, next fun u hu t ht _ => ?_⟩)
              · obtain ⟨u', hu, le⟩ := one g ha
                rw [hf] at hu
                cases hu
                exact absurd (of_decide_eq_true h) (by omega)
              · rw [hb] at hu
                cases hu
                rw [hth] at ht
                cases ht
                refine ⟨u2, hf, ?_⟩
                rcases Int.lt_or_le tp u2 with c | c
                · exact absurd (decide_eq_true (show u2 > tp from c)) h
                · exact c
    obtain ⟨v10, v11, rfl, x4, up⟩ := z
    exact k _ true (e03.trans x4) ⟨fun _ => ⟨nn, hst, fun j k1 row h1 h2 u hu t ht => by
      rw [numS h1] at h2
      cases h2
      exact up j k1 (by have := (List.getElem?_eq_some_iff.mp h1).1; omega) h1 u hu t ht⟩, fun _ => rfl⟩
end
end EV

set_option Elab.async false
set_option linter.all false
set_option maxRecDepth 100000
set_option maxHeartbeats 8000000
namespace EV
open PySem PySem.Spec PyProof.Rows L2 EvS Evl FD EnT
theorem eqv_nil (xs : List PyData) : PyData.eqv (.list xs) (.list []) = true ↔ xs = [] := by
  cases xs with
  | nil => simp [PyData.eqv, PyData.eqvAll]
  | cons x xs => simp [PyData.eqv, PyData.eqvAll]
theorem sh_nil : SeqAt.shaped (.list []) = true := sh_shaped (sh_lst (n := 1) fun d hd => by cases hd) (by decide)
theorem minOf_no {p : Str} (lb : List (Str × Int)) : FP.minOf lb p = none ↔ p ∉ lb.map (·.1) := by
  constructor
  · intro h hm
    have key : ∀ (lb : List (Str × Int)) (c : Option Int), lb.foldl (fun c r => if r.1 = p then FP.least c (some r.2) else c) c = none → c = none ∧ ∀ r ∈ lb, r.1 ≠ p := fun lb => by
      induction lb with
      | nil => intro c h; exact ⟨h, fun r hr => by cases hr⟩
      | cons r lb ih =>
        intro c h
        rw [List.foldl_cons] at h
        obtain ⟨h1, h2⟩ := ih _ h
        by_cases e : r.1 = p
        · rw [if_pos e] at h1
          cases c with
          | none => cases h1
          | some v =>
            have h1 : (if r.2 < v then some r.2 else some v) = none := h1
            split at h1 <;> cases h1
        · rw [if_neg e] at h1
          exact ⟨h1, fun q hq => (List.mem_cons.mp hq).elim (fun z => by rw [z]; exact e) (h2 q)⟩
    obtain ⟨r, hr, e⟩ := List.mem_map.mp hm
    exact (key lb none h).2 r hr e
  · intro h
    cases c : FP.minOf lb p with
    | none => rfl
    | some u =>
      obtain ⟨r, hr, e, _⟩ := minOf_in lb c
      exact absurd (List.mem_map.mpr ⟨r, hr, e⟩) h
theorem keep_iff {D : LandD} {ws : List (Int × Str)} {sts bs : List (Str × Int)} {nums : List (List (Option Int))} {lb : List (Str × Int)} {p : Str} : KeepP D ws sts bs nums lb p ↔ p ∉ lb.map (·.1) ∧ BoundP D ws sts bs nums lb := ⟨fun h => ⟨(minOf_no lb).mp h.no, h.nn, h.st, h.ls⟩, fun h => ⟨h.2.nn, (minOf_no lb).mpr h.1, h.2.st, h.2.ls⟩⟩
theorem sh_pmsS {rs : List (Str × Int)} (h : ∀ r ∈ rs, PyData.strOk r.1 = true) : SeqAt.shaped (.list (rs.map dPm)) = true := sh_shaped (sh_lst (n := 2) fun d hd => by
  obtain ⟨r, hr, rfl⟩ := List.mem_map.mp hd
  exact sh_pmS (h r hr)) (by decide)
theorem sh_chs {rs : List CRow} (h : ∀ r ∈ rs, PyData.strOk r.1 = true ∧ PyData.strOk r.2.1 = true) : SeqAt.shaped (.list (rs.map dCh)) = true := sh_shaped (sh_lst (n := 2) fun d hd => by
  obtain ⟨r, hr, rfl⟩ := List.mem_map.mp hd
  have sS : ∀ {z : Str}, PyData.strOk z = true → Sh 1 (.str z) := fun {z} h => ⟨by simp only [PyData.canLay0]; exact h, by simp only [PyData.depth]; omega⟩
  refine sh_tup (n := 1) fun x hx => ?_
  rcases List.mem_cons.mp hx with rfl | hx
  · exact sS (h r hr).1
  · rcases List.mem_cons.mp hx with rfl | hx
    · unfold dNm
      split
      · exact ⟨by simp only [PyData.canLay0], by simp only [PyData.depth]; omega⟩
      · exact sS (h r hr).2
    · rw [List.mem_singleton.mp hx]
      exact sh_int _ _) (by decide)
def sp__law_is_right (K : PySem.W.Frag) : Sp := fun vs H Q _ => ∃ (q w s br t l c : Addr) (p wd : Str) (D : LandD) (wi pl li pa : Addr) (lrows prs us ss ys vl cs : List V) (ws : List (Int × Str)) (sts bs lb : List (Str × Int)) (rows : List CRow), vs = [.ref q, .ref w, .ref s, .ref br, .str p, .ref t] ∧ SqT K H t [.str wd, .ref l, .ref c] ∧ Parts2 K H q D wi pl li pa lrows prs ∧ LandOk D ∧ SqL K H w us ∧ DpAll K H us (ws.map dWr) ∧ WOk D ws ∧ SqL K H s ss ∧ DpAll K H ss (sts.map dPm) ∧ StOk D sts ∧ SqL K H br ys ∧ DpAll K H ys (bs.map dPm) ∧ bs.length ≤ 1000 ∧ SqL K H l vl ∧ DpAll K H vl (lb.map dPm) ∧ lb.length ≤ 1000 ∧ (∀ r ∈ lb, PyData.strOk r.1 = true) ∧ SqL K H c cs ∧ DpAll K H cs (rows.map dCh) ∧ rows.length ≤ 1000 ∧ (∀ r ∈ rows, PyData.strOk r.1 = true ∧ PyData.strOk r.2.1 = true) ∧
  ∀ H' (b : Bool), Ex H H' → (b = true ↔ CheckP D ws sts bs p wd lb rows) → Q (.bl b) H'
section
variable {P : Program} {w : World} {K : PySem.W.Frag} {mg : Str → Option Value} {base : Heap} {a : Ad}
theorem G__law_is_right (T : Txt K mg a) : FnOk P w K mg base CX0 4 a.f__law_is_right a.d__law_is_right ["parts", "weather", "starts", "breaks", "place", "told"] (sp__law_is_right K) := by
  refine T.F__law_is_right.ok sc__law_is_right (fun vs H Q E h => ?_) (fun cdv A outer s H vs Q E hr h => ?_)
  · obtain ⟨q, w, s, br, t, l, c, p, wd, D, wi, pl, li, pa, lrows, prs, us, ss, ys, vl, cs, ws, sts, bs, lb, rows, rfl, _⟩ := h
    rfl
  · obtain ⟨q, w, s, br, t, l, c, p, wd, D, wi, pl, li, pa, lrows, prs, us, ss, ys, vl, cs, ws, sts, bs, lb, rows, rfl, ht, PT, ok, hw, dw, wok, hs, ds, sok, hbr, dbr, lbs, hl, dl, ll, sol, hc, dc, lc, soc, k⟩ := h
    have lvl := dps_len dl
    rw [List.length_map] at lvl
    have lcs := dps_len dc
    rw [List.length_map] at lcs
    have wS : ∀ {y : Str}, decide (V.str wd = V.str y) = true ↔ wd = y := fun {y} => ⟨fun h => V.str.inj (of_decide_eq_true h), fun h => decide_eq_true (by rw [h])⟩
    refine ⟨_, (pss_cons (ps_asg (pv 5) (pg_tup (by rfl) (pgs_cons (pg_name (i := 6) sc__law_is_right.nd rfl (Or.inl rfl)) (pgs_cons (pg_name (i := 7) sc__law_is_right.nd rfl (Or.inl rfl)) (pgs_cons (pg_name (i := 8) sc__law_is_right.nd rfl (Or.inl rfl)) pgs_nil)))))
      (pss_cons (ps_if (pt_cmpR op_eq (pv 6) pe_str (nomark _)) (pss_one (ps_ret (pe_and (pe_cmpR (op_eqD hr.units) (pv 7) (pe_lst pa_nil) (nomark _)) (pe_one (pe_call (G__law_is_chain T) (hr.mono (by decide)) (by rfl) T.g__law_is_chain T.k__law_is_chain T.B__law_is_chain .nil pass0 (pa_cons (pv 0) (pa_cons (pv 1) (pa_cons (pv 2) (pa_cons (pv 3) (pa_cons pe_int (pa_cons (pv 8) (pa_cons (pv 4) pa_nil)))))))))))) pss_nil)
      (pss_cons (ps_if (PW.pt (pw_or (pt_cmpR op_notIn_seq (pv 6) (pe_lst (pa_cons pe_str (pa_cons pe_str pa_nil))) (by rfl)) (pw_or1 (pt_cmpR op_in_seq (pv 4) (pe_lc (own := [("row", 9)]) (g := gName 9) (tt := tYes) rfl sc__law_is_right.nd (pi_list (pv 7)) (blkOk_by (N := ["parts", "weather", "starts", "breaks", "place", "told", "word", "labels", "chain", "row"]) (sc := defScope s__law_is_right) (by decide +kernel)) (fun _ _ _ _ _ => pg_name (i := 9) sc__law_is_right.nd rfl (Or.inl rfl)) (fun _ _ _ _ _ => pts_nil) (fun _ _ _ _ _ => (pe_ix (show IxR _ (rIxT K) from ix_tup) (pv 9) pe_int (fun _ _ => rfl)))) (by rfl))))) (pss_one (ps_ret pe_bl)) pss_nil)
      (pss_cons (ps_if (pt_not (pt_val (pe_call (G__law_bounds T) (hr.mono (by decide)) (by rfl) T.g__law_bounds T.k__law_bounds T.B__law_bounds .nil pass0 (pa_cons (pv 0) (pa_cons (pv 1) (pa_cons (pv 2) (pa_cons (pv 3) (pa_cons (pe_callTy call_int1 (by rfl) T.z_int (by decide +kernel) (pa_cons (pe_cmpR op_eq (pv 6) pe_str (nomark _)) pa_nil)) (pa_cons (pv 7) pa_nil))))))))) (pss_one (ps_ret pe_bl)) pss_nil)
      (pss_cons (ps_if (pt_cmpR op_eq (pv 6) pe_str (nomark _)) (pss_one (ps_ret (pe_cmpR (op_eqD hr.units) (pv 8) (pe_lst pa_nil) (nomark _)))) pss_nil)
      (pss_one (ps_ret (pe_call (G__law_is_chain T) (hr.mono (by decide)) (by rfl) T.g__law_is_chain T.k__law_is_chain T.B__law_is_chain .nil pass0 (pa_cons (pv 0) (pa_cons (pv 1) (pa_cons (pv 2) (pa_cons (pv 3) (pa_cons pe_int (pa_cons (pv 8) (pa_cons (pv 4) pa_nil))))))))))))))), ?_⟩
    refine ⟨_, rfl, t, _, rfl, ht, rfl, _, _, rfl, _, _, rfl, _, _, rfl, rfl, ?_⟩
    -- surely
    refine ⟨_, rfl, rfl, _, rfl, ite2 (fun hS => ?_) (fun hS => ?_)⟩
    · have ew := wS.mp hS
      have only : ∀ {b : Bool}, (b = true ↔ lb = [] ∧ ComeP D ws sts bs (numsS 1 D) rows p) → (b = true ↔ CheckP D ws sts bs p wd lb rows) := fun {b} h => by
        rw [h, ew]
        exact ⟨fun h => .inr (.inl ⟨rfl, h⟩), fun h => by
          rcases h with h | h | h
          · exact absurd h.1 (by decide)
          · exact h.2
          · exact absurd h.1 (by decide)⟩
      refine ⟨_, rfl, by show 0 ≤ sizeLine; decide, fun L hL => ⟨_, _, .lst (ex_l (Ex.new hL) hl) (dps_ex (Ex.new hL) dl), .lst (SqL.of upd_same) .nil, sh_pmsS sol, sh_nil, _, rfl, ?_⟩⟩
      have e1 := Ex.new (o := .lst []) hL
      generalize upd H L (.lst []) = H1 at e1
      refine ite2 (fun h => ?_) (fun h => k _ false e1 (only ⟨(fun h => by cases h), fun g => absurd ((eqv_nil _).mpr (by rw [g.1]; rfl)) h⟩))
      have el : lb = [] := List.map_eq_nil_iff.mp ((eqv_nil _).mp h)
      refine ⟨_, rfl, _, rfl, _, rfl, _, rfl, _, rfl, _, rfl, q, w, s, br, c, 1, p, D, wi, pl, li, pa, lrows, prs, us, ss, ys, cs, ws, sts, bs, rows, rfl, PT.ex e1, ok, by decide, ex_l e1 hw, dps_ex e1 dw, wok, ex_l e1 hs, dps_ex e1 ds, sok, ex_l e1 hbr, dps_ex e1 dbr, lbs, ex_l e1 hc, dps_ex e1 dc, lc, (fun r hr => (soc r hr).1), fun H2 b e2 hb => k _ b (e1.trans e2) (only ⟨fun h => ⟨el, hb.mp h⟩, fun h => hb.mpr h.2⟩)⟩
    have nS : wd ≠ "surely" := fun z => hS (wS.mpr z)
    -- which word
    refine ⟨_, rfl, by show 2 ≤ sizeLine; decide, fun wl hwl => ⟨wl, _, rfl, .inl (SqL.of upd_same), rfl, rfl, _, rfl, ?_⟩⟩
    have e1 := Ex.new (o := .lst [.str "never", .str "maybe"]) hwl
    generalize upd H wl (.lst [.str "never", .str "maybe"]) = H1 at e1
    have win := inV_strs ["never", "maybe"] wd
    refine ite2 (fun h => k _ false e1 ⟨(fun h => by cases h), fun g => ?_⟩) (fun h => ?_)
    · have h : (!inV (V.str wd) ((["never", "maybe"] : List Str).map V.str)) = true := h
      rcases g with g | g | g
      · rw [win.mpr (by rw [g.1]; exact List.mem_cons_self)] at h
        cases h
      · exact absurd g.1 nS
      · rw [win.mpr (by rw [g.1]; exact List.mem_cons_of_mem _ List.mem_cons_self)] at h
        cases h
    have wm : wd = "never" ∨ wd = "maybe" := by
      have h : ¬ (!inV (V.str wd) ((["never", "maybe"] : List Str).map V.str)) = true := h
      have : wd ∈ (["never", "maybe"] : List Str) := win.mp (by
        cases c : inV (V.str wd) ((["never", "maybe"] : List Str).map V.str) with
        | true => rfl
        | false => exact absurd (by rw [c]; rfl) h)
      rcases List.mem_cons.mp this with h | h
      · exact .inl h
      · exact .inr (List.mem_singleton.mp h)
    have nq : ∀ {y1 y2 : Str}, y1 ≠ y2 → decide (V.str y1 = V.str y2) = false := fun {y1 y2} h => decide_eq_false fun e => h (V.str.inj e)
    have kp : CheckP D ws sts bs p wd lb rows → p ∉ lb.map (·.1) := fun g => by
      rcases g with g | g | g
      · exact (keep_iff.mp g.2.2).1
      · exact absurd g.1 nS
      · exact (keep_iff.mp g.2.1).1
    -- the place among the labels
    have hl1 := ex_l e1 hl
    refine ⟨_, rfl, _, rfl, l, rfl, ⟨_, hl1⟩, fun D0 hD => lcY_list (K := K) (a := l) (xs := vl) (fun i H' => Ex H1 H' ∧ H' D0 = some (.lst (((lb.take i).map (·.1)).map V.str))) ⟨Ex.new hD, upd_same⟩ (fun i H' _ z => ex_l z.1 hl1) (fun i y H' hy z => ?_) (fun H2 z => ?_)⟩
    · have hi := (List.getElem?_eq_some_iff.mp hy).1
      obtain ⟨r, hrr, hm, dp⟩ := pick (dps_ex (e1.trans z.1) dl) hy
      obtain ⟨t1, rfl, st⟩ := pm_in dp
      refine ⟨rfl, _, rfl, t1, _, _, _, rfl, rfl, st, atI_nat (j := 0) rfl, _, z.2, sz_lt (by simp only [List.length_map, List.length_take]; omega), z.1.mut hD, ?_⟩
      rw [upd_same, take_one hrr, List.map_append, List.map_append]
      rfl
    obtain ⟨e2, hm⟩ := z
    rw [lvl, List.take_length] at hm
    have e12 := e1.trans e2
    refine ⟨D0, _, rfl, .inl (SqL.of hm), rfl, flat_strs _, _, rfl, ?_⟩
    refine ite2 (fun h => k _ false e12 ⟨(fun h => by cases h), fun g => absurd ((inV_strs _ _).mp h) (kp g)⟩) (fun h => ?_)
    have pno : p ∉ lb.map (·.1) := fun z => h ((inV_strs _ _).mpr z)
    -- the bounds
    obtain ⟨sd, hsd, sd2, ck⟩ : ∃ sd : Nat, (if decide (V.str wd = V.str "maybe") = true then (1 : Int) else 0) = (sd : Int) ∧ sd < 2 ∧ (CheckP D ws sts bs p wd lb rows → BoundP D ws sts bs (numsS sd D) lb) ∧ ((wd = "never" ∧ sd = 0) ∨ (wd = "maybe" ∧ sd = 1)) := by
      rcases wm with rfl | rfl
      · refine ⟨0, by rw [nq (by decide)]; rfl, by decide, fun g => ?_, .inl ⟨rfl, rfl⟩⟩
        rcases g with g | g | g
        · exact (keep_iff.mp g.2.2).2
        · exact absurd g.1 (by decide)
        · exact absurd g.1 (by decide)
      · refine ⟨1, by rw [decide_eq_true rfl]; rfl, by decide, fun g => ?_, .inr ⟨rfl, rfl⟩⟩
        rcases g with g | g | g
        · exact absurd g.1 (by decide)
        · exact absurd g.1 (by decide)
        · exact (keep_iff.mp g.2.1).2
    obtain ⟨ck, wcs⟩ := ck
    refine ⟨_, rfl, _, rfl, _, rfl, _, rfl, _, rfl, rfl, .inr ⟨_, rfl, ?_⟩⟩
    rw [hsd]
    refine ⟨_, rfl, q, w, s, br, l, sd, D, wi, pl, li, pa, lrows, prs, us, ss, ys, vl, ws, sts, bs, lb, rfl, PT.ex e12, ok, sd2, ex_l e12 hw, dps_ex e12 dw, wok, ex_l e12 hs, dps_ex e12 ds, ex_l e12 hbr, dps_ex e12 dbr, lbs, ex_l e12 hl, dps_ex e12 dl, ll, fun H3 b e3 hb => ⟨_, rfl, ?_⟩⟩
    have e13 := e12.trans e3
    cases b with
    | false => exact iteT (k _ false e13 ⟨(fun h => by cases h), fun g => absurd (hb.mpr (ck g)) (by decide)⟩)
    | true =>
      have bnd := hb.mp rfl
      refine iteF ?_
      refine ⟨_, rfl, rfl, _, rfl, ?_⟩
      rcases wcs with ⟨rfl, rfl⟩ | ⟨rfl, rfl⟩
      · rw [decide_eq_true rfl]
        refine iteT ⟨_, rfl, by show 0 ≤ sizeLine; decide, fun L hL => ⟨_, _, .lst (ex_l (e13.trans (Ex.new hL)) hc) (dps_ex (e13.trans (Ex.new hL)) dc), .lst (SqL.of upd_same) .nil, sh_chs soc, sh_nil, ?_⟩⟩
        refine k _ _ (e13.trans (Ex.new hL)) ⟨fun h => .inl ⟨rfl, List.map_eq_nil_iff.mp ((eqv_nil _).mp h), keep_iff.mpr ⟨pno, bnd⟩⟩, fun g => ?_⟩
        rcases g with g | g | g
        · exact (eqv_nil _).mpr (by rw [g.2.1]; rfl)
        · exact absurd g.1 (by decide)
        · exact absurd g.1 (by decide)
      · rw [nq (by decide)]
        refine iteF ⟨_, rfl, _, rfl, _, rfl, _, rfl, _, rfl, _, rfl, q, w, s, br, c, 0, p, D, wi, pl, li, pa, lrows, prs, us, ss, ys, cs, ws, sts, bs, rows, rfl, PT.ex e13, ok, by decide, ex_l e13 hw, dps_ex e13 dw, wok, ex_l e13 hs, dps_ex e13 ds, sok, ex_l e13 hbr, dps_ex e13 dbr, lbs, ex_l e13 hc, dps_ex e13 dc, lc, (fun r hr => (soc r hr).1), fun H4 b e4 hb2 => k _ b (e13.trans e4) ⟨fun h => .inr (.inr ⟨rfl, keep_iff.mpr ⟨pno, bnd⟩, hb2.mp h⟩), fun g => ?_⟩⟩
        rcases g with g | g | g
        · exact absurd g.1 (by decide)
        · exact absurd g.1 (by decide)
        · exact hb2.mpr g.2.2
end
end EV

set_option Elab.async false
set_option linter.all false
set_option maxRecDepth 100000
set_option maxHeartbeats 8000000
namespace EV
open PySem PySem.Spec PyProof.Rows L2 EvS Evl FD EnT
/-! ### papers that are spoilt -/
theorem frozen_pms (lb : List (Str × Int)) : frozenAll (lb.map dPm) = true := frozenAll_of fun d hd => by
  obtain ⟨r, _, rfl⟩ := List.mem_map.mp hd
  simp [dPm, frozen, frozenAll]
theorem frozen_nm (z : Str) : frozen (dNm z) = true := by
  unfold dNm
  split <;> simp [frozen]
theorem frozen_chs (rows : List CRow) : frozenAll (rows.map dCh) = true := frozenAll_of fun d hd => by
  obtain ⟨r, _, rfl⟩ := List.mem_map.mp hd
  simp [dCh, frozen, frozenAll, frozen_nm]
structure SpS (K : PySem.W.Frag) (H H' : Hp) (L C : Addr) (lb : List (Str × Int)) (rows : List CRow) (n : Nat) : Prop where
  ex : Ex H H'
  ne : L ≠ C
  hl : H L = none
  hc : H C = none
  ls : ∃ us, H' L = some (.lst us) ∧ DpAll K H' us (lb.map dPm)
  cs : ∃ cs, H' C = some (.lst cs) ∧ DpAll K H' cs (rows.map dCh)
  ll : lb.length ≤ 100 + n
  lc : rows.length ≤ 100 + n
  sl : ∀ r ∈ lb, PyData.strOk r.1 = true
  sc : ∀ r ∈ rows, PyData.strOk r.1 = true ∧ PyData.strOk r.2.1 = true
theorem SpS.up {K : PySem.W.Frag} {H H' : Hp} {L C : Addr} {lb : List (Str × Int)} {rows : List CRow} {n : Nat} (h : SpS K H H' L C lb rows n) : SpS K H H' L C lb rows (n + 1) := ⟨h.ex, h.ne, h.hl, h.hc, h.ls, h.cs, by have := h.ll; omega, by have := h.lc; omega, h.sl, h.sc⟩
theorem SpS.exx {K : PySem.W.Frag} {H H' H'' : Hp} {L C : Addr} {lb : List (Str × Int)} {rows : List CRow} {n : Nat} (h : SpS K H H' L C lb rows n) (e : Ex H' H'') : SpS K H H'' L C lb rows n := by
  obtain ⟨us, hus, dus⟩ := h.ls
  obtain ⟨cs, hcs, dcs⟩ := h.cs
  exact ⟨h.ex.trans e, h.ne, h.hl, h.hc, ⟨us, e _ _ hus, dps_ex e dus⟩, ⟨cs, e _ _ hcs, dps_ex e dcs⟩, h.ll, h.lc, h.sl, h.sc⟩
/-- another list of labels -/
theorem SpS.newL {K : PySem.W.Frag} {H H' H'' : Hp} {L C L2 : Addr} {lb lb2 : List (Str × Int)} {rows : List CRow} {n : Nat} {us : List V} (h : SpS K H H' L C lb rows n) (e : Ex H' H'') (f : H' L2 = none) (m : H'' L2 = some (.lst us)) (d : DpAll K H'' us (lb2.map dPm)) (l : lb2.length ≤ lb.length + 1) (s : ∀ r ∈ lb2, PyData.strOk r.1 = true) : SpS K H H'' L2 C lb2 rows (n + 1) := by
  obtain ⟨cs, hcs, dcs⟩ := h.cs
  have hl2 := fresh_back h.ex f
  exact ⟨h.ex.trans e, (fun q => by rw [q, hcs] at f; cases f), hl2, h.hc, ⟨us, m, d⟩, ⟨cs, e _ _ hcs, dps_ex e dcs⟩, by have := h.ll; omega, by have := h.lc; omega, s, h.sc⟩
theorem SpS.newC {K : PySem.W.Frag} {H H' H'' : Hp} {L C C2 : Addr} {lb : List (Str × Int)} {rows rows2 : List CRow} {n : Nat} {cs : List V} (h : SpS K H H' L C lb rows n) (e : Ex H' H'') (f : H' C2 = none) (m : H'' C2 = some (.lst cs)) (d : DpAll K H'' cs (rows2.map dCh)) (l : rows2.length ≤ rows.length + 1) (s : ∀ r ∈ rows2, PyData.strOk r.1 = true ∧ PyData.strOk r.2.1 = true) : SpS K H H'' L C2 lb rows2 (n + 1) := by
  obtain ⟨us, hus, dus⟩ := h.ls
  have hl2 := fresh_back h.ex f
  exact ⟨h.ex.trans e, (fun q => by rw [← q, hus] at f; cases f), h.hl, hl2, ⟨us, e _ _ hus, dps_ex e dus⟩, ⟨cs, m, d⟩, by have := h.ll; omega, by have := h.lc; omega, h.sl, s⟩
/-- the list itself is changed -/
theorem SpS.mutL {K : PySem.W.Frag} {H H' H'' : Hp} {L C : Addr} {lb lb2 : List (Str × Int)} {rows : List CRow} {n : Nat} {us us2 : List V} (h : SpS K H H' L C lb rows n) (e : Ex H' H'') (m : H'' L = some (.lst us)) (d : DpAll K H'' us2 (lb2.map dPm)) (l : lb2.length ≤ lb.length + 1) (s : ∀ r ∈ lb2, PyData.strOk r.1 = true) : SpS K H (upd H'' L (.lst us2)) L C lb2 rows (n + 1) := by
  obtain ⟨cs, hcs, dcs⟩ := h.cs
  exact ⟨(h.ex.trans e).mut h.hl, h.ne, h.hl, h.hc, ⟨us2, upd_same, dps_exT (exT_mut m) d (frozen_pms _)⟩, ⟨cs, by rw [upd_ne h.ne.symm]; exact e _ _ hcs, dps_exT (exT_mut m) (dps_ex e dcs) (frozen_chs _)⟩, by have := h.ll; omega, by have := h.lc; omega, s, h.sc⟩
theorem SpS.mutC {K : PySem.W.Frag} {H H' H'' : Hp} {L C : Addr} {lb : List (Str × Int)} {rows rows2 : List CRow} {n : Nat} {cs cs2 : List V} (h : SpS K H H' L C lb rows n) (e : Ex H' H'') (m : H'' C = some (.lst cs)) (d : DpAll K H'' cs2 (rows2.map dCh)) (l : rows2.length ≤ rows.length + 1) (s : ∀ r ∈ rows2, PyData.strOk r.1 = true ∧ PyData.strOk r.2.1 = true) : SpS K H (upd H'' C (.lst cs2)) L C lb rows2 (n + 1) := by
  obtain ⟨us, hus, dus⟩ := h.ls
  exact ⟨(h.ex.trans e).mut h.hc, h.ne, h.hl, h.hc, ⟨us, by rw [upd_ne h.ne]; exact e _ _ hus, dps_exT (exT_mut m) (dps_ex e dus) (frozen_pms _)⟩, ⟨cs2, upd_same, dps_exT (exT_mut m) d (frozen_chs _)⟩, by have := h.ll; omega, by have := h.lc; omega, h.sl, s⟩
def Sp21 (K : PySem.W.Frag) (H : Hp) (q p : Addr) (ch pl ro st : Int) (n : Nat) : L2.St → Hp → Prop := fun σ H' => ∃ (wd : Str) (L C : Addr) (lb : List (Str × Int)) (rows : List CRow) (v10 v11 v12 v13 : Option V), σ = [some (.ref q), some (.int 145), some (.ref p), some (.str wd), some (.ref L), some (.ref C), some (.int ch), some (.int pl), some (.int ro), some (.int st), v10, v11, v12, v13] ∧ SpS K H H' L C lb rows n
theorem dps_set {K : PySem.W.Frag} {H : Hp} {v : V} {d : PyData} (h : Dp K H v d) : ∀ {us : List V} {ds : List PyData} (n : Nat), DpAll K H us ds → DpAll K H (us.set n v) (ds.set n d)
  | _, _, _, .nil => .nil
  | _, _, 0, .cons _ r => .cons h r
  | _, _, n + 1, .cons a r => .cons a (dps_set h n r)
def sp__law_spoilt (K : PySem.W.Frag) : Sp := fun vs H Q _ => ∃ (q p l c : Addr) (ks : List Int) (wd : Str) (D : LandD) (wi pl li pa : Addr) (lrows prs us cs : List V) (lb : List (Str × Int)) (rows : List CRow), vs = [.ref q, .int 145, .ref p, .str wd, .ref l, .ref c] ∧ Nums K H q ks ∧ Parts2 K H p D wi pl li pa lrows prs ∧ LandOk D ∧ SqL K H l us ∧ DpAll K H us (lb.map dPm) ∧ lb.length ≤ 100 ∧ (∀ r ∈ lb, PyData.strOk r.1 = true) ∧ SqL K H c cs ∧ DpAll K H cs (rows.map dCh) ∧ rows.length ≤ 100 ∧ (∀ r ∈ rows, PyData.strOk r.1 = true ∧ PyData.strOk r.2.1 = true) ∧
  ∀ (H' : Hp) (t : Addr) (wd' : Str) (L C : Addr) (us' cs' : List V) (lb' : List (Str × Int)) (rows' : List CRow), Ex H H' → SqT K H' t [.str wd', .ref L, .ref C] → SqL K H' L us' → DpAll K H' us' (lb'.map dPm) → lb'.length ≤ 200 → (∀ r ∈ lb', PyData.strOk r.1 = true) → SqL K H' C cs' → DpAll K H' cs' (rows'.map dCh) → rows'.length ≤ 200 → (∀ r ∈ rows', PyData.strOk r.1 = true ∧ PyData.strOk r.2.1 = true) → Q (.ref t) H'
section
variable {P : Program} {w : World} {K : PySem.W.Frag} {mg : Str → Option Value} {base : Heap} {a : Ad}
theorem G__law_spoilt (T : Txt K mg a) : FnOk P w K mg base CX0 2 a.f__law_spoilt a.d__law_spoilt ["numbers", "at", "parts", "word", "labels", "chain"] (sp__law_spoilt K) := by
  refine T.F__law_spoilt.ok sc__law_spoilt (fun vs H Q E h => ?_) (fun cdv A outer s H vs Q E hr h => ?_)
  · obtain ⟨q, p, l, c, ks, wd, D, wi, pl, li, pa, lrows, prs, us, cs, lb, rows, rfl, _⟩ := h
    rfl
  · obtain ⟨q, p, l, c, ks, wd, D, wi, pl, li, pa, lrows, prs, us, cs, lb, rows, rfl, N, S, ok, hl, dl, ll, sl, hc, dc, lc, scs, k⟩ := h
    have lpl : (D.ps.map V.str).length = D.ps.length := List.length_map ..
    have p1 := ok.p1
    have p24 := ok.p24
    have l60 := ok.l60
    refine ⟨_, (pss_cons (ps_set (i := 6) sc__law_spoilt.nd rfl (Or.inl rfl) (pe_call (G__law_pick T) (hr.mono (by decide)) (by rfl) T.g__law_pick T.k__law_pick T.B__law_pick .nil pass0 (pa_cons (pv 0) (pa_cons (pv 1) (pa_cons pe_int pa_nil)))))
      (pss_cons (ps_set (i := 4) sc__law_spoilt.nd rfl (Or.inl rfl) (pe_callTy call_lstK (by rfl) T.z_list (by decide +kernel) (pa_cons (pv 4) pa_nil)))
      (pss_cons (ps_set (i := 5) sc__law_spoilt.nd rfl (Or.inl rfl) (pe_callTy call_lstK (by rfl) T.z_list (by decide +kernel) (pa_cons (pv 5) pa_nil)))
      (pss_cons (ps_set (i := 7) sc__law_spoilt.nd rfl (Or.inl rfl) (pe_call (G__law_pick T) (hr.mono (by decide)) (by rfl) T.g__law_pick T.k__law_pick T.B__law_pick .nil pass0 (pa_cons (pv 0) (pa_cons (pe_op op_add (pv 1) pe_int) (pa_cons (pe_op op_add (pe_callB call_len_seq (by rfl) T.z_len PySem.boot_len (pa_cons (pv 4) pa_nil)) pe_int) pa_nil)))))
      (pss_cons (ps_set (i := 8) sc__law_spoilt.nd rfl (Or.inl rfl) (pe_call (G__law_pick T) (hr.mono (by decide)) (by rfl) T.g__law_pick T.k__law_pick T.B__law_pick .nil pass0 (pa_cons (pv 0) (pa_cons (pe_op op_add (pv 1) pe_int) (pa_cons (pe_op op_add (pe_callB call_len_seq (by rfl) T.z_len PySem.boot_len (pa_cons (pv 5) pa_nil)) pe_int) pa_nil)))))
      (pss_cons (ps_set (i := 9) sc__law_spoilt.nd rfl (Or.inr rfl) (pe_op op_add pe_int (pe_call (G__law_pick T) (hr.mono (by decide)) (by rfl) T.g__law_pick T.k__law_pick T.B__law_pick .nil pass0 (pa_cons (pv 0) (pa_cons (pe_op op_add (pv 1) pe_int) (pa_cons pe_int pa_nil))))))
      (Evl.pss_cut (ps_if (pt_cmpR op_eq (pv 6) pe_int (nomark _)) (pss_one (ps_set (i := 3) sc__law_spoilt.nd rfl (Or.inl rfl) (pe_ix ix_list (pe_lst (pa_cons pe_str (pa_cons pe_str (pa_cons pe_str (pa_cons pe_str pa_nil))))) (pe_call (G__law_pick T) (hr.mono (by decide)) (by rfl) T.g__law_pick T.k__law_pick T.B__law_pick .nil pass0 (pa_cons (pv 0) (pa_cons (pe_op op_add (pv 1) pe_int) (pa_cons pe_int pa_nil)))) (fun _ _ => rfl)))) pss_nil)
      (Evl.pss_cut (ps_if (PW.pt (pw_and (pt_cmpR op_eq (pv 6) pe_int (nomark _)) (pw_and1 (pt_cmpR op_lt (pv 7) (pe_callB call_len_seq (by rfl) T.z_len PySem.boot_len (pa_cons (pv 4) pa_nil)) (nomark _))))) (pss_one (ps_set (i := 4) sc__law_spoilt.nd rfl (Or.inl rfl) (pe_op op_cat (pe_slice sl_list (pv 4) po_none (po_some (pv 7))) (pe_slice sl_list (pv 4) (po_some (pe_op op_add (pv 7) pe_int)) po_none)))) pss_nil)
      (Evl.pss_cut (ps_if (PW.pt (pw_and (pt_cmpR op_eq (pv 6) pe_int (nomark _)) (pw_and1 (pt_cmpR op_lt (pv 7) (pe_callB call_len_seq (by rfl) T.z_len PySem.boot_len (pa_cons (pv 4) pa_nil)) (nomark _))))) (pss_one (ps_asg (pe_tup (pa_cons (pe_ix ix_tup (pe_ix ix_list (pv 4) (pv 7) (fun _ _ => rfl)) pe_int (fun _ _ => rfl)) (pa_cons (pe_op op_add (pe_ix ix_tup (pe_ix ix_list (pv 4) (pv 7) (fun _ _ => rfl)) pe_int (fun _ _ => rfl)) (pv 9)) pa_nil))) (pg_sub (pv 4) (pv 7) set_list))) pss_nil)
      (Evl.pss_cut (ps_if (pt_cmpR op_eq (pv 6) pe_int (nomark _)) (pss_one (ps_setLc (i := 4) (own := [("one", 11), ("minute", 12)]) (g := gTup K 2 (gCons (gName 11) (gCons (gName 12) gNil))) (tt := tYes) rfl sc__law_spoilt.nd rfl rfl (sw_true rfl rfl rfl (by decide +kernel)) (pi_list (RevS.pe_rev (pv 4) (pe_un un_neg pe_int))) (blkOk_by (N := ["numbers", "at", "parts", "word", "labels", "chain", "choice", "place", "row", "step", "words", "one", "minute", "link"]) (sc := defScope s__law_spoilt) (by decide +kernel)) (fun _ _ _ _ _ => (pg_tup (by rfl) (pgs_cons (pg_name (i := 11) sc__law_spoilt.nd rfl (Or.inl rfl)) (pgs_cons (pg_name (i := 12) sc__law_spoilt.nd rfl (Or.inl rfl)) pgs_nil)))) (fun _ _ _ _ _ => pts_nil) (fun _ _ _ _ _ => (pe_tup (pa_cons (pv 11) (pa_cons (pe_callB (call_max2 rfl) (by rfl) T.z_max (by decide +kernel) (pa_cons pe_int (pa_cons (pe_op op_sub (pv 12) (pv 9)) pa_nil))) pa_nil)))))) pss_nil)
      (Evl.pss_cut (ps_if (pt_cmpR op_eq (pv 6) pe_int (nomark _)) (pss_one (ps_expr (pe_bm PySem.F.plainAttrs_list PySem.F.slot_list_insert PySem.F.type_list_insert mt_insert (pv 4) (pa_cons (pv 7) (pa_cons (pe_tup (pa_cons (pe_ix ix_tup (pe_ix ix_list (pv 2) pe_int (fun _ _ => rfl)) (pe_call (G__law_pick T) (hr.mono (by decide)) (by rfl) T.g__law_pick T.k__law_pick T.B__law_pick .nil pass0 (pa_cons (pv 0) (pa_cons (pe_op op_add (pv 1) pe_int) (pa_cons (pe_callB call_len_seq (by rfl) T.z_len PySem.boot_len (pa_cons (pe_ix ix_list (pv 2) pe_int (fun _ _ => rfl)) pa_nil)) pa_nil)))) (fun _ _ => rfl)) (pa_cons (pe_op op_mul pe_int (pv 9)) pa_nil))) pa_nil))))) pss_nil)
      (Evl.pss_cut (ps_if (PW.pt (pw_and (pt_cmpR op_eq (pv 6) pe_int (nomark _)) (pw_and1 (pt_cmpR op_lt (pv 7) (pe_callB call_len_seq (by rfl) T.z_len PySem.boot_len (pa_cons (pv 4) pa_nil)) (nomark _))))) (pss_one (ps_expr (pe_bm PySem.F.plainAttrs_list PySem.F.slot_list_append PySem.F.type_list_append mt_append (pv 4) (pa_cons (pe_tup (pa_cons (pe_ix ix_tup (pe_ix ix_list (pv 4) (pv 7) (fun _ _ => rfl)) pe_int (fun _ _ => rfl)) (pa_cons (pe_op op_sub (pe_op op_add (pe_ix ix_tup (pe_ix ix_list (pv 4) (pv 7) (fun _ _ => rfl)) pe_int (fun _ _ => rfl)) (pv 9)) pe_int) pa_nil))) pa_nil)))) pss_nil)
      (Evl.pss_cut (ps_if (pt_cmpR op_eq (pv 6) pe_int (nomark _)) (pss_one (ps_expr (pe_bm PySem.F.plainAttrs_list PySem.F.slot_list_append PySem.F.type_list_append mt_append (pv 4) (pa_cons (pe_ix ix_list (pe_lst (pa_cons (pe_tup (pa_cons pe_str (pa_cons pe_int pa_nil))) (pa_cons (pe_tup (pa_cons (pe_ix ix_tup (pe_ix ix_list (pv 2) pe_int (fun _ _ => rfl)) pe_int (fun _ _ => rfl)) (pa_cons (pe_un un_neg pe_int) pa_nil))) pa_nil))) (pe_call (G__law_pick T) (hr.mono (by decide)) (by rfl) T.g__law_pick T.k__law_pick T.B__law_pick .nil pass0 (pa_cons (pv 0) (pa_cons (pe_op op_add (pv 1) pe_int) (pa_cons pe_int pa_nil)))) (fun _ _ => rfl)) pa_nil)))) pss_nil)
      (Evl.pss_cut (ps_if (PW.pt (pw_and (pt_cmpR op_eq (pv 6) pe_int (nomark _)) (pw_and1 (pt_cmpR op_lt (pv 8) (pe_callB call_len_seq (by rfl) T.z_len PySem.boot_len (pa_cons (pv 5) pa_nil)) (nomark _))))) (pss_one (ps_set (i := 5) sc__law_spoilt.nd rfl (Or.inl rfl) (pe_op op_cat (pe_slice sl_list (pv 5) po_none (po_some (pv 8))) (pe_slice sl_list (pv 5) (po_some (pe_op op_add (pv 8) pe_int)) po_none)))) pss_nil)
      (Evl.pss_cut (ps_if (PW.pt (pw_and (pt_cmpR op_eq (pv 6) pe_int (nomark _)) (pw_and1 (pt_cmpR op_lt (pv 8) (pe_callB call_len_seq (by rfl) T.z_len PySem.boot_len (pa_cons (pv 5) pa_nil)) (nomark _))))) (pss_one (ps_asg (pe_tup (pa_cons (pe_ix ix_tup (pe_ix ix_list (pv 5) (pv 8) (fun _ _ => rfl)) pe_int (fun _ _ => rfl)) (pa_cons (pe_ix ix_tup (pe_ix ix_list (pv 5) (pv 8) (fun _ _ => rfl)) pe_int (fun _ _ => rfl)) (pa_cons (pe_op op_add (pe_ix ix_tup (pe_ix ix_list (pv 5) (pv 8) (fun _ _ => rfl)) pe_int (fun _ _ => rfl)) (pe_ix ix_list (pe_lst (pa_cons (pe_op op_sub (pv 9) pe_int) (pa_cons (pe_un un_neg pe_int) pa_nil))) (pe_op op_fdiv (pe_call (G__law_pick T) (hr.mono (by decide)) (by rfl) T.g__law_pick T.k__law_pick T.B__law_pick .nil pass0 (pa_cons (pv 0) (pa_cons (pe_op op_add (pv 1) pe_int) (pa_cons pe_int pa_nil)))) pe_int) (fun _ _ => rfl))) pa_nil)))) (pg_sub (pv 5) (pv 8) set_list))) pss_nil)
      (Evl.pss_cut (ps_if (PW.pt (pw_and (pt_cmpR op_eq (pv 6) pe_int (nomark _)) (pw_and1 (pt_cmpR op_lt (pv 8) (pe_callB call_len_seq (by rfl) T.z_len PySem.boot_len (pa_cons (pv 5) pa_nil)) (nomark _))))) (pss_cons (ps_set (i := 10) sc__law_spoilt.nd rfl (Or.inl rfl) (pe_op op_cat (pe_lc (own := [("link", 13)]) (g := gName 13) (tt := tYes) rfl sc__law_spoilt.nd (pi_tup (pe_ix ix_list (pv 2) pe_int (fun _ _ => rfl))) (blkOk_by (N := ["numbers", "at", "parts", "word", "labels", "chain", "choice", "place", "row", "step", "words", "one", "minute", "link"]) (sc := defScope s__law_spoilt) (by decide +kernel)) (fun _ _ _ _ _ => pg_name (i := 13) sc__law_spoilt.nd rfl (Or.inl rfl)) (fun _ _ _ _ _ => pts_nil) (fun _ _ _ _ _ => (pe_ix (show IxR _ (rIxT K) from ix_tup) (pv 13) pe_int (fun _ _ => rfl)))) (pe_lst (pa_cons pe_str (pa_cons pe_non pa_nil)))))
        (pss_one (ps_asg (pe_tup (pa_cons (pe_ix ix_tup (pe_ix ix_list (pv 5) (pv 8) (fun _ _ => rfl)) pe_int (fun _ _ => rfl)) (pa_cons (pe_ix ix_list (pv 10) (pe_call (G__law_pick T) (hr.mono (by decide)) (by rfl) T.g__law_pick T.k__law_pick T.B__law_pick .nil pass0 (pa_cons (pv 0) (pa_cons (pe_op op_add (pv 1) pe_int) (pa_cons (pe_callB call_len_seq (by rfl) T.z_len PySem.boot_len (pa_cons (pv 10) pa_nil)) pa_nil)))) (fun _ _ => rfl)) (pa_cons (pe_ix ix_tup (pe_ix ix_list (pv 5) (pv 8) (fun _ _ => rfl)) pe_int (fun _ _ => rfl)) pa_nil)))) (pg_sub (pv 5) (pv 8) set_list)))) pss_nil)
      (Evl.pss_cut (ps_if (PW.pt (pw_and (pt_cmpR op_eq (pv 6) pe_int (nomark _)) (pw_and1 (pt_cmpR op_lt (pv 8) (pe_callB call_len_seq (by rfl) T.z_len PySem.boot_len (pa_cons (pv 5) pa_nil)) (nomark _))))) (pss_one (ps_asg (pe_tup (pa_cons (pe_ix ix_tup (pe_op op_catT (pe_ix ix_list (pv 2) pe_int (fun _ _ => rfl)) (pe_tup (pa_cons pe_str pa_nil))) (pe_call (G__law_pick T) (hr.mono (by decide)) (by rfl) T.g__law_pick T.k__law_pick T.B__law_pick .nil pass0 (pa_cons (pv 0) (pa_cons (pe_op op_add (pv 1) pe_int) (pa_cons (pe_op op_add (pe_callB call_len_seq (by rfl) T.z_len PySem.boot_len (pa_cons (pe_ix ix_list (pv 2) pe_int (fun _ _ => rfl)) pa_nil)) pe_int) pa_nil)))) (fun _ _ => rfl)) (pa_cons (pe_ix ix_tup (pe_ix ix_list (pv 5) (pv 8) (fun _ _ => rfl)) pe_int (fun _ _ => rfl)) (pa_cons (pe_ix ix_tup (pe_ix ix_list (pv 5) (pv 8) (fun _ _ => rfl)) pe_int (fun _ _ => rfl)) pa_nil)))) (pg_sub (pv 5) (pv 8) set_list))) pss_nil)
      (Evl.pss_cut (ps_if (pt_cmpR op_eq (pv 6) pe_int (nomark _)) (pss_one (ps_set (i := 5) sc__law_spoilt.nd rfl (Or.inl rfl) (pe_lst pa_nil))) pss_nil)
      (Evl.pss_cut (ps_if (pt_cmpR op_eq (pv 6) pe_int (nomark _)) (pss_one (ps_set (i := 4) sc__law_spoilt.nd rfl (Or.inl rfl) (pe_lst pa_nil))) pss_nil)
      (pss_one (ps_ret (pe_tup (pa_cons (pv 3) (pa_cons (pv 4) (pa_cons (pv 5) pa_nil))))))))))))))))))))))))), ?_⟩
    refine ⟨_, rfl, _, rfl, q, ks, 145, 14, rfl, N, by decide, by decide, by decide, fun ch ch0 ch1 => ?_⟩
    refine ⟨_, rfl, l, us, rfl, .inl hl, fun L hL => ?_⟩
    have e1 := Ex.new (o := .lst us) hL
    have m1 : (upd H L (.lst us)) L = some (.lst us) := upd_same
    generalize upd H L (.lst us) = H1 at e1 m1
    refine ⟨_, rfl, c, cs, rfl, .inl (ex_l e1 hc), fun C hC => ?_⟩
    have e2 := Ex.new (o := .lst cs) hC
    have m2 : (upd H1 C (.lst cs)) C = some (.lst cs) := upd_same
    generalize upd H1 C (.lst cs) = H2 at e2 m2
    have e12 := e1.trans e2
    have lus : us.length = lb.length := by rw [dps_len dl, List.length_map]
    have lcs : cs.length = rows.length := by rw [dps_len dc, List.length_map]
    have S0 : SpS K H H2 L C lb rows 0 := ⟨e12, (fun z => by rw [← z, m1] at hC; cases hC), hL, fresh_back e1 hC, ⟨us, e2 _ _ m1, dps_ex e12 dl⟩, ⟨cs, m2, dps_ex e12 dc⟩, ll, lc, sl, scs⟩
    have N2 := N.ex e12
    refine ⟨_, rfl, _, rfl, _, _, rfl, rfl, _, rfl, L, _, rfl, .inl (SqL.of (e2 _ _ m1)), _, _, rfl, rfl, q, ks, 145 + 1, _, rfl, N2, by decide, by decide, by omega, fun pc pc0 pc1 => ?_⟩
    refine ⟨_, rfl, _, rfl, _, _, rfl, rfl, _, rfl, C, _, rfl, .inl (SqL.of m2), _, _, rfl, rfl, q, ks, 145 + 2, _, rfl, N2, by decide, by decide, by omega, fun ro ro0 ro1 => ?_⟩
    refine ⟨_, rfl, _, rfl, _, _, rfl, rfl, q, ks, 145 + 3, 4, rfl, N2, by decide, by decide, by decide, fun st0 st1 st2 => ⟨_, _, rfl, rfl, ?_⟩⟩
    generalize est : (1 : Int) + st0 = st
    have pcB : pc ≤ 1000 := by omega
    have roB : ro ≤ 1000 := by omega
    clear pc1 ro1 m1 m2 hl hc dl dc sl scs
    -- word
    refine ⟨Sp21 K H q p ch pc ro st 1, ?_, ?_⟩
    · refine ⟨_, rfl, rfl, _, rfl, ite2 (fun _ => ?_) (fun _ => ⟨wd, L, C, lb, rows, none, none, none, none, by rw [← est]; rfl, S0.up⟩)⟩
      refine ⟨by show 4 ≤ sizeLine; decide, fun l0 hl0 => ?_⟩
      have e3 := Ex.new (o := .lst [V.str "never", .str "maybe", .str "surely", .str "always"]) hl0
      refine ⟨_, rfl, _, rfl, _, _, rfl, rfl, q, ks, 145 + 4, 4, rfl, N2.ex e3, by decide, by decide, by decide, fun v v0 v1 => ?_⟩
      obtain ⟨z, hz⟩ : ∃ z, atI [V.str "never", .str "maybe", .str "surely", .str "always"] v = some (.str z) := by
        rcases (by omega : v = 0 ∨ v = 1 ∨ v = 2 ∨ v = 3) with rfl | rfl | rfl | rfl
        · exact ⟨_, atI_nat (j := 0) rfl⟩
        · exact ⟨_, atI_nat (j := 1) rfl⟩
        · exact ⟨_, atI_nat (j := 2) rfl⟩
        · exact ⟨_, atI_nat (j := 3) rfl⟩
      exact ⟨l0, _, _, _, rfl, rfl, SqL.of upd_same, hz, z, L, C, lb, rows, none, none, none, none, by rw [← est]; rfl, (S0.exx e3).up⟩
    clear S0
    rintro σ H1 ⟨wd, L, C, lb, rows, v10, v11, v12, v13, rfl, B⟩
    obtain ⟨us, hL, dL⟩ := B.ls
    obtain ⟨cs, hC, dC⟩ := B.cs
    have skip : Sp21 K H q p ch pc ro st 2 [some (.ref q), some (.int 145), some (.ref p), some (.str wd), some (.ref L), some (.ref C), some (.int ch), some (.int pc), some (.int ro), some (.int st), v10, v11, v12, v13] H1 := ⟨wd, L, C, lb, rows, v10, v11, v12, v13, rfl, B.up⟩
    have N1 := N.ex B.ex
    have S1 := S.ex B.ex
    have lus : us.length = lb.length := by rw [dps_len dL, List.length_map]
    have lcs : cs.length = rows.length := by rw [dps_len dC, List.length_map]
    have llb := B.ll
    have lrw := B.lc
    -- a label less
    refine ⟨Sp21 K H q p ch pc ro st 2, ?_, ?_⟩
    · refine ⟨_, rfl, rfl, _, rfl, ite2 (fun _ => ?_) (fun _ => skip)⟩
      refine ⟨_, rfl, _, rfl, L, _, rfl, .inl (SqL.of hL), _, _, rfl, rfl, _, rfl, ite2 (fun c => ?_) (fun _ => skip)⟩
      have c : pc < (us.length : Int) := of_decide_eq_true c
      obtain ⟨n, rfl⟩ : ∃ n : Nat, pc = (n : Int) := ⟨_, (Int.toNat_of_nonneg pc0).symm⟩
      have hn : n < us.length := by omega
      refine ⟨_, rfl, _, rfl, _, rfl, L, us, rfl, SqL.of hL, fun a1 ha1 => ?_⟩
      have e1 := Ex.new (o := .lst (cutV us none (some (n : Int)))) ha1
      have m1 : (upd H1 a1 (.lst (cutV us none (some (n : Int))))) a1 = some (.lst (us.take n)) := by rw [upd_same, cut_to]
      generalize upd H1 a1 (.lst (cutV us none (some (n : Int)))) = H2 at e1 m1
      refine ⟨_, rfl, _, rfl, _, _, rfl, rfl, _, rfl, L, us, rfl, SqL.of (e1 _ _ hL), fun a2 ha2 => ?_⟩
      have e2 := Ex.new (o := .lst (cutV us (some ((n : Int) + 1)) none)) ha2
      have m2 : (upd H2 a2 (.lst (cutV us (some ((n : Int) + 1)) none))) a2 = some (.lst (us.drop (n + 1))) := by rw [upd_same, show (n : Int) + 1 = ((n + 1 : Nat) : Int) by omega, cut_from]
      generalize upd H2 a2 (.lst (cutV us (some ((n : Int) + 1)) none)) = H3 at e2 m2
      refine ⟨a1, a2, _, _, rfl, rfl, e2 _ _ m1, m2, sz_of (by rw [List.length_take, List.length_drop]; omega), fun a3 ha3 => ?_⟩
      have e3 := Ex.new (o := .lst (us.take n ++ us.drop (n + 1))) ha3
      have e13 := (e1.trans e2).trans e3
      exact ⟨wd, a3, C, lb.take n ++ lb.drop (n + 1), rows, v10, v11, v12, v13, rfl, B.newL e13 (fresh_back (e1.trans e2) ha3) upd_same (by rw [List.map_append, List.map_take, List.map_drop]; exact dps_app (dps_take n (dps_ex e13 dL)) (dps_drop (n + 1) (dps_ex e13 dL))) (by rw [List.length_append, List.length_take, List.length_drop]; omega) fun r hr => by
        rcases List.mem_append.mp hr with h | h
        · exact B.sl r (List.mem_of_mem_take h)
        · exact B.sl r (List.mem_of_mem_drop h)⟩
    rintro σ H1 ⟨wd, L, C, lb, rows, v10, v11, v12, v13, rfl, B⟩
    obtain ⟨us, hL, dL⟩ := B.ls
    obtain ⟨cs, hC, dC⟩ := B.cs
    have skip : Sp21 K H q p ch pc ro st 3 [some (.ref q), some (.int 145), some (.ref p), some (.str wd), some (.ref L), some (.ref C), some (.int ch), some (.int pc), some (.int ro), some (.int st), v10, v11, v12, v13] H1 := ⟨wd, L, C, lb, rows, v10, v11, v12, v13, rfl, B.up⟩
    have N1 := N.ex B.ex
    have S1 := S.ex B.ex
    have lus : us.length = lb.length := by rw [dps_len dL, List.length_map]
    have lcs : cs.length = rows.length := by rw [dps_len dC, List.length_map]
    have llb := B.ll
    have lrw := B.lc
    -- a label later
    refine ⟨Sp21 K H q p ch pc ro st 3, ?_, ?_⟩
    · refine ⟨_, rfl, rfl, _, rfl, ite2 (fun _ => ?_) (fun _ => skip)⟩
      refine ⟨_, rfl, _, rfl, L, _, rfl, .inl (SqL.of hL), _, _, rfl, rfl, _, rfl, ite2 (fun c => ?_) (fun _ => skip)⟩
      have c : pc < (us.length : Int) := of_decide_eq_true c
      obtain ⟨n, rfl⟩ : ∃ n : Nat, pc = (n : Int) := ⟨_, (Int.toNat_of_nonneg pc0).symm⟩
      have hn : n < us.length := by omega
      obtain ⟨r, hr⟩ : ∃ r, lb[n]? = some r := ⟨lb[n]'(by omega), List.getElem?_eq_getElem (by omega)⟩
      obtain ⟨y, hy, dy⟩ := pick_i dL hr
      obtain ⟨t, rfl, sy⟩ := pm_in dy
      have ay : atI us (n : Int) = some (.ref t) := atI_nat hy
      have sr := B.sl r (List.mem_of_getElem? hr)
      refine ⟨_, rfl, _, rfl, L, _, _, _, rfl, rfl, SqL.of hL, ay, t, _, _, _, rfl, rfl, sy, atI_nat (j := 0) rfl, ?_⟩
      refine ⟨_, rfl, _, rfl, L, _, _, _, rfl, rfl, SqL.of hL, ay, t, _, _, _, rfl, rfl, sy, atI_nat (j := 1) rfl, _, rfl, _, _, rfl, rfl, by show 2 ≤ sizeLine; decide, fun t2 ht2 => ?_⟩
      have e1 := Ex.new (o := .tup [V.str r.1, .int (r.2 + st)]) ht2
      have m1 : (upd H1 t2 (.tup [V.str r.1, .int (r.2 + st)])) t2 = some (.tup [.str r.1, .int (r.2 + st)]) := upd_same
      generalize upd H1 t2 (.tup [V.str r.1, .int (r.2 + st)]) = H2 at e1 m1
      refine ⟨_, rfl, _, rfl, L, us, _, n, rfl, rfl, e1 _ _ hL, ixN_nat hn, ?_⟩
      refine ⟨wd, L, C, lb.set n (r.1, r.2 + st), rows, v10, v11, v12, v13, rfl, B.mutL e1 (e1 _ _ hL) (by rw [List.map_set]; exact dps_set (.tup (st_of m1) (.cons (.str _) (.cons (.int _) .nil))) n (dps_ex e1 dL)) (by rw [List.length_set]; omega) fun x hx => ?_⟩
      rcases List.mem_or_eq_of_mem_set hx with h | h
      · exact B.sl x h
      · rw [h]; exact sr
    rintro σ H1 ⟨wd, L, C, lb, rows, v10, v11, v12, v13, rfl, B⟩
    obtain ⟨us, hL, dL⟩ := B.ls
    obtain ⟨cs, hC, dC⟩ := B.cs
    have skip : Sp21 K H q p ch pc ro st 4 [some (.ref q), some (.int 145), some (.ref p), some (.str wd), some (.ref L), some (.ref C), some (.int ch), some (.int pc), some (.int ro), some (.int st), v10, v11, v12, v13] H1 := ⟨wd, L, C, lb, rows, v10, v11, v12, v13, rfl, B.up⟩
    have N1 := N.ex B.ex
    have S1 := S.ex B.ex
    have lus : us.length = lb.length := by rw [dps_len dL, List.length_map]
    have lcs : cs.length = rows.length := by rw [dps_len dC, List.length_map]
    have llb := B.ll
    have lrw := B.lc
    -- the labels backwards
    refine ⟨Sp21 K H q p ch pc ro st 4, ?_, ?_⟩
    · refine ⟨_, rfl, rfl, _, rfl, ite2 (fun _ => ?_) (fun _ => skip)⟩
      refine ⟨_, rfl, _, rfl, L, us, rfl, rfl, SqL.of hL, fun r hr => ?_⟩
      have e1 := Ex.new (o := .lst us.reverse) hr
      have m1 : (upd H1 r (.lst us.reverse)) r = some (.lst us.reverse) := upd_same
      generalize upd H1 r (.lst us.reverse) = H2 at e1 m1
      have dR : DpAll K H2 us.reverse (lb.reverse.map dPm) := by rw [List.map_reverse]; exact dps_rev (dps_ex e1 dL)
      refine ⟨r, rfl, ⟨_, SqL.of m1⟩, fun D0 hD0 => lc_list (K := K) (a := r) (xs := us.reverse) (fun i H' => Ex H2 H' ∧ ∃ acc, H' D0 = some (.lst acc) ∧ acc.length = i ∧ DpAll K (del H' D0) acc (((lb.reverse.take i).map fun x => (x.1, if x.2 - st > 0 then x.2 - st else 0)).map dPm)) ⟨Ex.new hD0, [], upd_same, rfl, .nil⟩ (fun i H' _ z => SqL.of (z.1 _ _ m1)) (fun i y H' hy z => ?_) (fun H3 z => ?_)⟩
      · obtain ⟨e, acc, ha, la, da⟩ := z
        have hi := (List.getElem?_eq_some_iff.mp hy).1
        rw [List.length_reverse] at hi
        obtain ⟨x, hx, _, dx⟩ := pick (dps_ex e dR) hy
        obtain ⟨t, rfl, sx⟩ := pm_in dx
        refine ⟨t, _, rfl, sx, rfl, _, _, rfl, _, _, rfl, rfl, ?_⟩
        refine ⟨rfl, _, rfl, _, rfl, _, rfl, _, _, rfl, rfl, _, _, rfl, by show 2 ≤ sizeLine; decide, fun t2 ht2 => ?_⟩
        have eT := Ex.new (o := .tup [V.str x.1, .int (if x.2 - st > 0 then x.2 - st else 0)]) ht2
        have tD : t2 ≠ D0 := fun q => by rw [q, ha] at ht2; cases ht2
        refine ⟨acc, eT _ _ ha, sz_lt (by omega), (e.trans eT).mut hD0, acc ++ [.ref t2], upd_same, by rw [List.length_append, la] <;> rfl, ?_⟩
        rw [del_upd, take_one hx, List.map_append, List.map_append]
        exact dps_app (dps_ex (ex_del eT) da) (dps_one (.tup (st_of (del_at tD upd_same)) (.cons (.str _) (.cons (.int _) .nil))))
      · obtain ⟨e3, acc, ha, la, da⟩ := z
        rw [List.length_reverse, List.take_of_length_le (by rw [List.length_reverse]; omega)] at da
        exact ⟨wd, D0, C, _, rows, v10, v11, v12, v13, rfl, B.newL (e1.trans e3) (fresh_back e1 hD0) ha (dps_ex del_ex da) (by rw [List.length_map, List.length_reverse]; omega) fun x hx => by
          obtain ⟨y, hy, rfl⟩ := List.mem_map.mp hx
          exact B.sl y (List.mem_reverse.mp hy)⟩
    rintro σ H1 ⟨wd, L, C, lb, rows, v10, v11, v12, v13, rfl, B⟩
    obtain ⟨us, hL, dL⟩ := B.ls
    obtain ⟨cs, hC, dC⟩ := B.cs
    have skip : Sp21 K H q p ch pc ro st 5 [some (.ref q), some (.int 145), some (.ref p), some (.str wd), some (.ref L), some (.ref C), some (.int ch), some (.int pc), some (.int ro), some (.int st), v10, v11, v12, v13] H1 := ⟨wd, L, C, lb, rows, v10, v11, v12, v13, rfl, B.up⟩
    have N1 := N.ex B.ex
    have S1 := S.ex B.ex
    have lus : us.length = lb.length := by rw [dps_len dL, List.length_map]
    have lcs : cs.length = rows.length := by rw [dps_len dC, List.length_map]
    have llb := B.ll
    have lrw := B.lc
    -- a label more
    refine ⟨Sp21 K H q p ch pc ro st 5, ?_, ?_⟩
    · refine ⟨_, rfl, rfl, _, rfl, ite2 (fun _ => ?_) (fun _ => skip)⟩
      refine ⟨_, rfl, .inl ⟨rfl, _, SqL.of hL⟩, _, rfl, _, rfl, p, _, _, _, rfl, rfl, S1.ob, atI_nat (j := 1) rfl, ?_⟩
      refine ⟨_, rfl, _, rfl, _, _, rfl, rfl, _, rfl, p, _, _, _, rfl, rfl, S1.ob, atI_nat (j := 1) rfl, pl, _, rfl, .inr S1.pl, q, ks, 145 + 4, _, rfl, N1, by decide, by decide, by omega, fun v v0 v1 => ?_⟩
      obtain ⟨z, zin, hz⟩ := str_at (ps := D.ps) v0 (by omega)
      refine ⟨pl, _, _, _, rfl, rfl, S1.pl, hz, _, rfl, _, _, rfl, rfl, .inl ⟨by decide, by decide⟩, by show 2 ≤ sizeLine; decide, fun t2 ht2 => ?_⟩
      have e1 := Ex.new (o := .tup [V.str z, .int (7 * st)]) ht2
      have m1 : (upd H1 t2 (.tup [V.str z, .int (7 * st)])) t2 = some (.tup [.str z, .int (7 * st)]) := upd_same
      generalize upd H1 t2 (.tup [V.str z, .int (7 * st)]) = H2 at e1 m1
      refine ⟨L, us, pc, _, rfl, rfl, e1 _ _ hL, sz_lt (by omega), pc0, by omega, ?_⟩
      refine ⟨wd, L, C, lb.take pc.toNat ++ [(z, 7 * st)] ++ lb.drop pc.toNat, rows, v10, v11, v12, v13, rfl, B.mutL e1 (e1 _ _ hL) (by rw [List.map_append, List.map_append, List.map_take, List.map_drop]; exact dps_app (dps_app (dps_take _ (dps_ex e1 dL)) (dps_one (.tup (st_of m1) (.cons (.str _) (.cons (.int _) .nil))))) (dps_drop _ (dps_ex e1 dL))) (by rw [List.length_append, List.length_append, List.length_take, List.length_drop, List.length_singleton]; omega) fun x hx => ?_⟩
      rcases List.mem_append.mp hx with h | h
      · rcases List.mem_append.mp h with h | h
        · exact B.sl x (List.mem_of_mem_take h)
        · rw [List.mem_singleton.mp h]; exact name_strOk (ok.gp.1 _ zin)
      · exact B.sl x (List.mem_of_mem_drop h)
    rintro σ H1 ⟨wd, L, C, lb, rows, v10, v11, v12, v13, rfl, B⟩
    obtain ⟨us, hL, dL⟩ := B.ls
    obtain ⟨cs, hC, dC⟩ := B.cs
    have skip : Sp21 K H q p ch pc ro st 6 [some (.ref q), some (.int 145), some (.ref p), some (.str wd), some (.ref L), some (.ref C), some (.int ch), some (.int pc), some (.int ro), some (.int st), v10, v11, v12, v13] H1 := ⟨wd, L, C, lb, rows, v10, v11, v12, v13, rfl, B.up⟩
    have N1 := N.ex B.ex
    have S1 := S.ex B.ex
    have lus : us.length = lb.length := by rw [dps_len dL, List.length_map]
    have lcs : cs.length = rows.length := by rw [dps_len dC, List.length_map]
    have llb := B.ll
    have lrw := B.lc
    -- a label twice
    refine ⟨Sp21 K H q p ch pc ro st 6, ?_, ?_⟩
    · refine ⟨_, rfl, rfl, _, rfl, ite2 (fun _ => ?_) (fun _ => skip)⟩
      refine ⟨_, rfl, _, rfl, L, _, rfl, .inl (SqL.of hL), _, _, rfl, rfl, _, rfl, ite2 (fun c => ?_) (fun _ => skip)⟩
      have c : pc < (us.length : Int) := of_decide_eq_true c
      obtain ⟨n, rfl⟩ : ∃ n : Nat, pc = (n : Int) := ⟨_, (Int.toNat_of_nonneg pc0).symm⟩
      have hn : n < us.length := by omega
      obtain ⟨r, hr⟩ : ∃ r, lb[n]? = some r := ⟨lb[n]'(by omega), List.getElem?_eq_getElem (by omega)⟩
      obtain ⟨y, hy, dy⟩ := pick_i dL hr
      obtain ⟨t, rfl, sy⟩ := pm_in dy
      have ay : atI us (n : Int) = some (.ref t) := atI_nat hy
      have sr := B.sl r (List.mem_of_getElem? hr)
      refine ⟨_, rfl, .inl ⟨rfl, _, SqL.of hL⟩, _, rfl, _, rfl, L, _, _, _, rfl, rfl, SqL.of hL, ay, t, _, _, _, rfl, rfl, sy, atI_nat (j := 0) rfl, ?_⟩
      refine ⟨_, rfl, _, rfl, L, _, _, _, rfl, rfl, SqL.of hL, ay, t, _, _, _, rfl, rfl, sy, atI_nat (j := 1) rfl, _, rfl, _, _, rfl, rfl, _, _, rfl, rfl, by show 2 ≤ sizeLine; decide, fun t2 ht2 => ?_⟩
      have e1 := Ex.new (o := .tup [V.str r.1, .int (r.2 + st - 3)]) ht2
      have m1 : (upd H1 t2 (.tup [V.str r.1, .int (r.2 + st - 3)])) t2 = some (.tup [.str r.1, .int (r.2 + st - 3)]) := upd_same
      generalize upd H1 t2 (.tup [V.str r.1, .int (r.2 + st - 3)]) = H2 at e1 m1
      refine ⟨L, us, _, rfl, rfl, e1 _ _ hL, sz_lt (by omega), ?_⟩
      refine ⟨wd, L, C, lb ++ [(r.1, r.2 + st - 3)], rows, v10, v11, v12, v13, rfl, B.mutL e1 (e1 _ _ hL) (by rw [List.map_append]; exact dps_app (dps_ex e1 dL) (dps_one (.tup (st_of m1) (.cons (.str _) (.cons (.int _) .nil))))) (by rw [List.length_append, List.length_singleton]; omega) fun x hx => ?_⟩
      rcases List.mem_append.mp hx with h | h
      · exact B.sl x h
      · rw [List.mem_singleton.mp h]; exact sr
    rintro σ H1 ⟨wd, L, C, lb, rows, v10, v11, v12, v13, rfl, B⟩
    obtain ⟨us, hL, dL⟩ := B.ls
    obtain ⟨cs, hC, dC⟩ := B.cs
    have skip : Sp21 K H q p ch pc ro st 7 [some (.ref q), some (.int 145), some (.ref p), some (.str wd), some (.ref L), some (.ref C), some (.int ch), some (.int pc), some (.int ro), some (.int st), v10, v11, v12, v13] H1 := ⟨wd, L, C, lb, rows, v10, v11, v12, v13, rfl, B.up⟩
    have N1 := N.ex B.ex
    have S1 := S.ex B.ex
    have lus : us.length = lb.length := by rw [dps_len dL, List.length_map]
    have lcs : cs.length = rows.length := by rw [dps_len dC, List.length_map]
    have llb := B.ll
    have lrw := B.lc
    -- a strange label
    refine ⟨Sp21 K H q p ch pc ro st 7, ?_, ?_⟩
    · refine ⟨_, rfl, rfl, _, rfl, ite2 (fun _ => ?_) (fun _ => skip)⟩
      obtain ⟨z0, zin0, hz0⟩ := str_at (ps := D.ps) (v := 0) (by decide) (by omega)
      refine ⟨_, rfl, .inl ⟨rfl, _, SqL.of hL⟩, by show 2 ≤ sizeLine; decide, fun t1 ht1 => ?_⟩
      have e1 := Ex.new (o := .tup [V.str "x", .int 3]) ht1
      have m1 : (upd H1 t1 (.tup [V.str "x", .int 3])) t1 = some (.tup [.str "x", .int 3]) := upd_same
      generalize upd H1 t1 (.tup [V.str "x", .int 3]) = H2 at e1 m1
      have S2 := S1.ex e1
      refine ⟨_, rfl, p, _, _, _, rfl, rfl, S2.ob, atI_nat (j := 1) rfl, pl, _, _, _, rfl, rfl, S2.pl, hz0, _, rfl, by show 2 ≤ sizeLine; decide, fun t2 ht2 => ?_⟩
      have e2 := Ex.new (o := .tup [V.str z0, .int (-1)]) ht2
      have m2 : (upd H2 t2 (.tup [V.str z0, .int (-1)])) t2 = some (.tup [.str z0, .int (-1)]) := upd_same
      generalize upd H2 t2 (.tup [V.str z0, .int (-1)]) = H3 at e2 m2
      refine ⟨by show 2 ≤ sizeLine; decide, fun l0 hl0 => ?_⟩
      have e3 := Ex.new (o := .lst [V.ref t1, .ref t2]) hl0
      have m3 : (upd H3 l0 (.lst [V.ref t1, .ref t2])) l0 = some (.lst [.ref t1, .ref t2]) := upd_same
      generalize upd H3 l0 (.lst [V.ref t1, .ref t2]) = H4 at e3 m3
      have e13 := e1.trans (e2.trans e3)
      refine ⟨_, rfl, _, rfl, _, _, rfl, rfl, q, ks, 145 + 4, 2, rfl, N1.ex e13, by decide, by decide, by decide, fun v v0 v1 => ?_⟩
      obtain ⟨tx, x, hx, dx, sx⟩ : ∃ (tx : Addr) (x : Str × Int), atI [V.ref t1, .ref t2] v = some (.ref tx) ∧ Dp K H4 (.ref tx) (dPm x) ∧ PyData.strOk x.1 = true := by
        rcases (by omega : v = 0 ∨ v = 1) with rfl | rfl
        · exact ⟨t1, ("x", 3), atI_nat (j := 0) rfl, .tup (st_of ((e2.trans e3) _ _ m1)) (.cons (.str _) (.cons (.int _) .nil)), by decide +kernel⟩
        · exact ⟨t2, (z0, -1), atI_nat (j := 1) rfl, .tup (st_of (e3 _ _ m2)) (.cons (.str _) (.cons (.int _) .nil)), name_strOk (ok.gp.1 _ zin0)⟩
      refine ⟨l0, _, _, _, rfl, rfl, SqL.of m3, hx, L, us, _, rfl, rfl, e13 _ _ hL, sz_lt (by omega), ?_⟩
      refine ⟨wd, L, C, lb ++ [x], rows, v10, v11, v12, v13, rfl, B.mutL e13 (e13 _ _ hL) (by rw [List.map_append]; exact dps_app (dps_ex e13 dL) (dps_one dx)) (by rw [List.length_append, List.length_singleton]; omega) fun y hy => ?_⟩
      rcases List.mem_append.mp hy with h | h
      · exact B.sl y h
      · rw [List.mem_singleton.mp h]; exact sx
    rintro σ H1 ⟨wd, L, C, lb, rows, v10, v11, v12, v13, rfl, B⟩
    obtain ⟨us, hL, dL⟩ := B.ls
    obtain ⟨cs, hC, dC⟩ := B.cs
    have skip : Sp21 K H q p ch pc ro st 8 [some (.ref q), some (.int 145), some (.ref p), some (.str wd), some (.ref L), some (.ref C), some (.int ch), some (.int pc), some (.int ro), some (.int st), v10, v11, v12, v13] H1 := ⟨wd, L, C, lb, rows, v10, v11, v12, v13, rfl, B.up⟩
    have N1 := N.ex B.ex
    have S1 := S.ex B.ex
    have lus : us.length = lb.length := by rw [dps_len dL, List.length_map]
    have lcs : cs.length = rows.length := by rw [dps_len dC, List.length_map]
    have llb := B.ll
    have lrw := B.lc
    -- a row less
    refine ⟨Sp21 K H q p ch pc ro st 8, ?_, ?_⟩
    · refine ⟨_, rfl, rfl, _, rfl, ite2 (fun _ => ?_) (fun _ => skip)⟩
      refine ⟨_, rfl, _, rfl, C, _, rfl, .inl (SqL.of hC), _, _, rfl, rfl, _, rfl, ite2 (fun c => ?_) (fun _ => skip)⟩
      have c : ro < (cs.length : Int) := of_decide_eq_true c
      obtain ⟨n, rfl⟩ : ∃ n : Nat, ro = (n : Int) := ⟨_, (Int.toNat_of_nonneg ro0).symm⟩
      have hn : n < cs.length := by omega
      refine ⟨_, rfl, _, rfl, _, rfl, C, cs, rfl, SqL.of hC, fun a1 ha1 => ?_⟩
      have e1 := Ex.new (o := .lst (cutV cs none (some (n : Int)))) ha1
      have m1 : (upd H1 a1 (.lst (cutV cs none (some (n : Int))))) a1 = some (.lst (cs.take n)) := by rw [upd_same, cut_to]
      generalize upd H1 a1 (.lst (cutV cs none (some (n : Int)))) = H2 at e1 m1
      refine ⟨_, rfl, _, rfl, _, _, rfl, rfl, _, rfl, C, cs, rfl, SqL.of (e1 _ _ hC), fun a2 ha2 => ?_⟩
      have e2 := Ex.new (o := .lst (cutV cs (some ((n : Int) + 1)) none)) ha2
      have m2 : (upd H2 a2 (.lst (cutV cs (some ((n : Int) + 1)) none))) a2 = some (.lst (cs.drop (n + 1))) := by rw [upd_same, show (n : Int) + 1 = ((n + 1 : Nat) : Int) by omega, cut_from]
      generalize upd H2 a2 (.lst (cutV cs (some ((n : Int) + 1)) none)) = H3 at e2 m2
      refine ⟨a1, a2, _, _, rfl, rfl, e2 _ _ m1, m2, sz_of (by rw [List.length_take, List.length_drop]; omega), fun a3 ha3 => ?_⟩
      have e3 := Ex.new (o := .lst (cs.take n ++ cs.drop (n + 1))) ha3
      have e13 := (e1.trans e2).trans e3
      exact ⟨wd, L, a3, lb, rows.take n ++ rows.drop (n + 1), v10, v11, v12, v13, rfl, B.newC e13 (fresh_back (e1.trans e2) ha3) upd_same (by rw [List.map_append, List.map_take, List.map_drop]; exact dps_app (dps_take n (dps_ex e13 dC)) (dps_drop (n + 1) (dps_ex e13 dC))) (by rw [List.length_append, List.length_take, List.length_drop]; omega) fun r hr => by
        rcases List.mem_append.mp hr with h | h
        · exact B.sc r (List.mem_of_mem_take h)
        · exact B.sc r (List.mem_of_mem_drop h)⟩
    rintro σ H1 ⟨wd, L, C, lb, rows, v10, v11, v12, v13, rfl, B⟩
    obtain ⟨us, hL, dL⟩ := B.ls
    obtain ⟨cs, hC, dC⟩ := B.cs
    have skip : Sp21 K H q p ch pc ro st 9 [some (.ref q), some (.int 145), some (.ref p), some (.str wd), some (.ref L), some (.ref C), some (.int ch), some (.int pc), some (.int ro), some (.int st), v10, v11, v12, v13] H1 := ⟨wd, L, C, lb, rows, v10, v11, v12, v13, rfl, B.up⟩
    have N1 := N.ex B.ex
    have S1 := S.ex B.ex
    have lus : us.length = lb.length := by rw [dps_len dL, List.length_map]
    have lcs : cs.length = rows.length := by rw [dps_len dC, List.length_map]
    have llb := B.ll
    have lrw := B.lc
    -- another minute
    refine ⟨Sp21 K H q p ch pc ro st 9, ?_, ?_⟩
    · refine ⟨_, rfl, rfl, _, rfl, ite2 (fun _ => ?_) (fun _ => skip)⟩
      refine ⟨_, rfl, _, rfl, C, _, rfl, .inl (SqL.of hC), _, _, rfl, rfl, _, rfl, ite2 (fun c => ?_) (fun _ => skip)⟩
      have c : ro < (cs.length : Int) := of_decide_eq_true c
      obtain ⟨n, rfl⟩ : ∃ n : Nat, ro = (n : Int) := ⟨_, (Int.toNat_of_nonneg ro0).symm⟩
      have hn : n < cs.length := by omega
      obtain ⟨r, hr⟩ : ∃ r, rows[n]? = some r := ⟨rows[n]'(by omega), List.getElem?_eq_getElem (by omega)⟩
      obtain ⟨y, hy, dy⟩ := pick_i dC hr
      obtain ⟨t, nm, rfl, sy, dn⟩ := ch_in dy
      have ay : atI cs (n : Int) = some (.ref t) := atI_nat hy
      have sr := B.sc r (List.mem_of_getElem? hr)
      refine ⟨_, rfl, _, rfl, C, _, _, _, rfl, rfl, SqL.of hC, ay, t, _, _, _, rfl, rfl, sy, atI_nat (j := 0) rfl, ?_⟩
      refine ⟨_, rfl, _, rfl, C, _, _, _, rfl, rfl, SqL.of hC, ay, t, _, _, _, rfl, rfl, sy, atI_nat (j := 1) rfl, ?_⟩
      refine ⟨_, rfl, _, rfl, C, _, _, _, rfl, rfl, SqL.of hC, ay, t, _, _, _, rfl, rfl, sy, atI_nat (j := 2) rfl, ?_⟩
      refine ⟨_, rfl, _, _, rfl, rfl, _, rfl, by show 2 ≤ sizeLine; decide, fun l0 hl0 => ?_⟩
      have e1 := Ex.new (o := .lst [V.int (st - 2), .int (-40)]) hl0
      have m1 : (upd H1 l0 (.lst [V.int (st - 2), .int (-40)])) l0 = some (.lst [.int (st - 2), .int (-40)]) := upd_same
      generalize upd H1 l0 (.lst [V.int (st - 2), .int (-40)]) = H2 at e1 m1
      refine ⟨_, rfl, _, rfl, _, _, rfl, rfl, q, ks, 145 + 4, 5, rfl, N1.ex e1, by decide, by decide, by decide, fun v v0 v1 => ?_⟩
      obtain ⟨x, hx⟩ : ∃ x : Int, atI [V.int (st - 2), .int (-40)] (v / 4) = some (.int x) := by
        rcases (by omega : v / 4 = 0 ∨ v / 4 = 1) with h | h
        · exact ⟨_, by rw [h]; exact atI_nat (j := 0) rfl⟩
        · exact ⟨_, by rw [h]; exact atI_nat (j := 1) rfl⟩
      refine ⟨_, _, rfl, rfl, ⟨by decide, by decide⟩, l0, _, _, _, rfl, rfl, SqL.of m1, hx, _, _, rfl, rfl, by show 3 ≤ sizeLine; decide, fun t2 ht2 => ?_⟩
      have e2 := Ex.new (o := .tup [V.str r.1, nm, .int (r.2.2 + x)]) ht2
      have m2 : (upd H2 t2 (.tup [V.str r.1, nm, .int (r.2.2 + x)])) t2 = some (.tup [.str r.1, nm, .int (r.2.2 + x)]) := upd_same
      generalize upd H2 t2 (.tup [V.str r.1, nm, .int (r.2.2 + x)]) = H3 at e2 m2
      have e12 := e1.trans e2
      have dx : Dp K H3 (.ref t2) (dCh (r.1, r.2.1, r.2.2 + x)) := .tup (st_of m2) (.cons (.str _) (.cons (dp_ex e12 dn) (.cons (.int _) .nil)))
      have sx := sr
      refine ⟨_, rfl, _, rfl, C, cs, _, n, rfl, rfl, e12 _ _ hC, ixN_nat hn, ?_⟩
      refine ⟨wd, L, C, lb, rows.set n (r.1, r.2.1, r.2.2 + x), v10, v11, v12, v13, rfl, B.mutC e12 (e12 _ _ hC) (by rw [List.map_set]; exact dps_set dx n (dps_ex e12 dC)) (by rw [List.length_set]; omega) fun x hx => ?_⟩
      rcases List.mem_or_eq_of_mem_set hx with h | h
      · exact B.sc x h
      · rw [h]; exact sx
    rintro σ H1 ⟨wd, L, C, lb, rows, v10, v11, v12, v13, rfl, B⟩
    obtain ⟨us, hL, dL⟩ := B.ls
    obtain ⟨cs, hC, dC⟩ := B.cs
    have skip : Sp21 K H q p ch pc ro st 10 [some (.ref q), some (.int 145), some (.ref p), some (.str wd), some (.ref L), some (.ref C), some (.int ch), some (.int pc), some (.int ro), some (.int st), v10, v11, v12, v13] H1 := ⟨wd, L, C, lb, rows, v10, v11, v12, v13, rfl, B.up⟩
    have N1 := N.ex B.ex
    have S1 := S.ex B.ex
    have lus : us.length = lb.length := by rw [dps_len dL, List.length_map]
    have lcs : cs.length = rows.length := by rw [dps_len dC, List.length_map]
    have llb := B.ll
    have lrw := B.lc
    -- another name
    refine ⟨Sp21 K H q p ch pc ro st 10, ?_, ?_⟩
    · refine ⟨_, rfl, rfl, _, rfl, ite2 (fun _ => ?_) (fun _ => skip)⟩
      refine ⟨_, rfl, _, rfl, C, _, rfl, .inl (SqL.of hC), _, _, rfl, rfl, _, rfl, ite2 (fun c => ?_) (fun _ => skip)⟩
      have c : ro < (cs.length : Int) := of_decide_eq_true c
      obtain ⟨n, rfl⟩ : ∃ n : Nat, ro = (n : Int) := ⟨_, (Int.toNat_of_nonneg ro0).symm⟩
      have hn : n < cs.length := by omega
      obtain ⟨r, hr⟩ : ∃ r, rows[n]? = some r := ⟨rows[n]'(by omega), List.getElem?_eq_getElem (by omega)⟩
      obtain ⟨y, hy, dy⟩ := pick_i dC hr
      obtain ⟨t, nm, rfl, sy, dn⟩ := ch_in dy
      have ay : atI cs (n : Int) = some (.ref t) := atI_nat hy
      have sr := B.sc r (List.mem_of_getElem? hr)
      refine ⟨_, rfl, p, _, _, _, rfl, rfl, S1.ob, atI_nat (j := 2) rfl, li, rfl, ⟨_, S1.li⟩, fun D0 hD0 => lc_tup (K := K) (a := li) (xs := lrows) (fun i H' => Ex H1 H' ∧ H' D0 = some (.lst (((D.ls.take i).map (·.n)).map V.str))) ⟨Ex.new hD0, upd_same⟩ (fun i H' _ z => ex_t z.1 S1.li) (fun i y H' hy z => ?_) (fun H2 z => ?_)⟩
      · obtain ⟨e, hm⟩ := z
        obtain ⟨kk, hk, _, dk⟩ := pick (dps_ex e S1.ls) hy
        obtain ⟨tk, u, vs, rfl, sk, _, _⟩ := link_in dk
        refine ⟨rfl, _, rfl, tk, _, _, _, rfl, rfl, sk, atI_nat (j := 0) rfl, _, hm, sz_lt (by simp only [List.length_map, List.length_take]; omega), e.mut hD0, ?_⟩
        rw [upd_same, take_one hk, List.map_append, List.map_append]
        rfl
      obtain ⟨e2, hm⟩ := z
      have llr : lrows.length = D.ls.length := by rw [dps_len S1.ls, List.length_map]
      rw [llr, List.take_length] at hm
      refine ⟨by show 2 ≤ sizeLine; decide, fun l2 hl2 => ?_⟩
      have e3 := Ex.new (o := .lst [V.str "x", .non]) hl2
      have m3 : (upd H2 l2 (.lst [V.str "x", .non])) l2 = some (.lst [.str "x", .non]) := upd_same
      generalize upd H2 l2 (.lst [V.str "x", .non]) = H3 at e3 m3
      refine ⟨D0, l2, _, _, rfl, rfl, e3 _ _ hm, m3, sz_of (by simp only [List.length_map, List.length_cons, List.length_nil]; omega), fun W hW => ?_⟩
      have e4 := Ex.new (o := .lst (((D.ls.map (·.n)).map V.str) ++ [V.str "x", .non])) hW
      have m4 : (upd H3 W (.lst (((D.ls.map (·.n)).map V.str) ++ [V.str "x", .non]))) W = some (.lst (((D.ls.map (·.n)).map V.str) ++ [V.str "x", .non])) := upd_same
      generalize upd H3 W (.lst (((D.ls.map (·.n)).map V.str) ++ [V.str "x", .non])) = H4 at e4 m4
      have e14 := e2.trans (e3.trans e4)
      have hC4 := e14 _ _ hC
      have sy4 := ex_t e14 sy
      refine ⟨_, rfl, _, rfl, C, _, _, _, rfl, rfl, SqL.of hC4, ay, t, _, _, _, rfl, rfl, sy4, atI_nat (j := 0) rfl, ?_⟩
      refine ⟨_, rfl, _, rfl, _, rfl, _, _, rfl, rfl, _, rfl, W, _, rfl, .inl (SqL.of m4), q, ks, 145 + 4, _, rfl, N1.ex e14, by decide, by decide, by simp only [List.length_append, List.length_cons, List.length_nil]; omega, fun v v0 v1 => ?_⟩
      obtain ⟨nm2, z2, hz2, dz2, sz2⟩ : ∃ (nm2 : V) (z2 : Str), atI (((D.ls.map (·.n)).map V.str) ++ [V.str "x", .non]) v = some nm2 ∧ Dp K H4 nm2 (dNm z2) ∧ PyData.strOk z2 = true := by
        obtain ⟨i, rfl⟩ : ∃ i : Nat, v = (i : Int) := ⟨_, (Int.toNat_of_nonneg v0).symm⟩
        have l1 : ((D.ls.map (·.n)).map V.str).length = D.ls.length := by rw [List.length_map, List.length_map]
        simp only [List.length_append, List.length_cons, List.length_nil] at v1
        rcases (by omega : i < D.ls.length ∨ i = D.ls.length ∨ i = D.ls.length + 1) with h | h | h
        · obtain ⟨kk, hk⟩ : ∃ kk, D.ls[i]? = some kk := ⟨D.ls[i], List.getElem?_eq_getElem h⟩
          have gn := ok.gl.1 kk.n (List.mem_map.mpr ⟨kk, List.mem_of_getElem? hk, rfl⟩)
          refine ⟨.str kk.n, kk.n, atI_nat (by rw [List.getElem?_append_left (by omega), List.getElem?_map, List.getElem?_map, hk] <;> rfl), ?_, name_strOk gn⟩
          have ne : kk.n ≠ "" := fun q => by have := (name_len gn).1; rw [q] at this; exact absurd this (by decide +kernel)
          unfold dNm
          rw [if_neg ne]
          exact .str _
        · refine ⟨.str "x", "x", atI_nat (by rw [List.getElem?_append_right (by omega), l1, h, Nat.sub_self] <;> rfl), ?_, by decide +kernel⟩
          unfold dNm
          rw [if_neg (by decide +kernel)]
          exact .str _
        · refine ⟨.non, "", atI_nat (by rw [List.getElem?_append_right (by omega), l1, h, Nat.add_sub_cancel_left] <;> rfl), ?_, by decide +kernel⟩
          unfold dNm
          rw [if_pos rfl]
          exact .non
      refine ⟨W, _, _, _, rfl, rfl, SqL.of m4, hz2, ?_⟩
      refine ⟨_, rfl, _, rfl, C, _, _, _, rfl, rfl, SqL.of hC4, ay, t, _, _, _, rfl, rfl, sy4, atI_nat (j := 2) rfl, by show 3 ≤ sizeLine; decide, fun t2 ht2 => ?_⟩
      have e5 := Ex.new (o := .tup [V.str r.1, nm2, .int r.2.2]) ht2
      have m5 : (upd H4 t2 (.tup [V.str r.1, nm2, .int r.2.2])) t2 = some (.tup [.str r.1, nm2, .int r.2.2]) := upd_same
      generalize upd H4 t2 (.tup [V.str r.1, nm2, .int r.2.2]) = H5 at e5 m5
      have e15 := e14.trans e5
      have dx : Dp K H5 (.ref t2) (dCh (r.1, z2, r.2.2)) := .tup (st_of m5) (.cons (.str _) (.cons (dp_ex e5 dz2) (.cons (.int _) .nil)))
      have sx := (⟨sr.1, sz2⟩ : PyData.strOk r.1 = true ∧ PyData.strOk z2 = true)
      refine ⟨_, rfl, _, rfl, C, cs, _, n, rfl, rfl, e15 _ _ hC, ixN_nat hn, ?_⟩
      refine ⟨wd, L, C, lb, rows.set n (r.1, z2, r.2.2), _, v11, v12, v13, rfl, B.mutC e15 (e15 _ _ hC) (by rw [List.map_set]; exact dps_set dx n (dps_ex e15 dC)) (by rw [List.length_set]; omega) fun x hx => ?_⟩
      rcases List.mem_or_eq_of_mem_set hx with h | h
      · exact B.sc x h
      · rw [h]; exact sx
    rintro σ H1 ⟨wd, L, C, lb, rows, v10, v11, v12, v13, rfl, B⟩
    obtain ⟨us, hL, dL⟩ := B.ls
    obtain ⟨cs, hC, dC⟩ := B.cs
    have skip : Sp21 K H q p ch pc ro st 11 [some (.ref q), some (.int 145), some (.ref p), some (.str wd), some (.ref L), some (.ref C), some (.int ch), some (.int pc), some (.int ro), some (.int st), v10, v11, v12, v13] H1 := ⟨wd, L, C, lb, rows, v10, v11, v12, v13, rfl, B.up⟩
    have N1 := N.ex B.ex
    have S1 := S.ex B.ex
    have lus : us.length = lb.length := by rw [dps_len dL, List.length_map]
    have lcs : cs.length = rows.length := by rw [dps_len dC, List.length_map]
    have llb := B.ll
    have lrw := B.lc
    -- another place
    refine ⟨Sp21 K H q p ch pc ro st 11, ?_, ?_⟩
    · refine ⟨_, rfl, rfl, _, rfl, ite2 (fun _ => ?_) (fun _ => skip)⟩
      refine ⟨_, rfl, _, rfl, C, _, rfl, .inl (SqL.of hC), _, _, rfl, rfl, _, rfl, ite2 (fun c => ?_) (fun _ => skip)⟩
      have c : ro < (cs.length : Int) := of_decide_eq_true c
      obtain ⟨n, rfl⟩ : ∃ n : Nat, ro = (n : Int) := ⟨_, (Int.toNat_of_nonneg ro0).symm⟩
      have hn : n < cs.length := by omega
      obtain ⟨r, hr⟩ : ∃ r, rows[n]? = some r := ⟨rows[n]'(by omega), List.getElem?_eq_getElem (by omega)⟩
      obtain ⟨y, hy, dy⟩ := pick_i dC hr
      obtain ⟨t, nm, rfl, sy, dn⟩ := ch_in dy
      have ay : atI cs (n : Int) = some (.ref t) := atI_nat hy
      have sr := B.sc r (List.mem_of_getElem? hr)
      refine ⟨_, rfl, p, _, _, _, rfl, rfl, S1.ob, atI_nat (j := 1) rfl, by show 1 ≤ sizeLine; decide, fun t1 ht1 => ?_⟩
      have e1 := Ex.new (o := .tup [V.str "x"]) ht1
      have m1 : (upd H1 t1 (.tup [V.str "x"])) t1 = some (.tup [.str "x"]) := upd_same
      generalize upd H1 t1 (.tup [V.str "x"]) = H2 at e1 m1
      have S2 := S1.ex e1
      refine ⟨pl, t1, _, _, rfl, rfl, S2.pl, SqT.of m1, (fun q => by rw [q] at lpl; rw [List.length_nil] at lpl; omega), by rw [sizeLine_eq]; show _ + 1 ≤ _; omega, (fun q => by cases q), fun _ W hW => ?_⟩
      have e2 := Ex.new (o := .tup (D.ps.map V.str ++ [V.str "x"])) hW
      have m2 : (upd H2 W (.tup (D.ps.map V.str ++ [V.str "x"]))) W = some (.tup (D.ps.map V.str ++ [.str "x"])) := upd_same
      generalize upd H2 W (.tup (D.ps.map V.str ++ [V.str "x"])) = H3 at e2 m2
      have e12 := e1.trans e2
      have S3 := S1.ex e12
      refine ⟨_, rfl, _, rfl, _, _, rfl, rfl, _, rfl, p, _, _, _, rfl, rfl, S3.ob, atI_nat (j := 1) rfl, pl, _, rfl, .inr S3.pl, _, _, rfl, rfl, q, ks, 145 + 4, _, rfl, N1.ex e12, by decide, by decide, by omega, fun v v0 v1 => ?_⟩
      obtain ⟨z2, hz2, sz2⟩ : ∃ z2 : Str, atI (D.ps.map V.str ++ [V.str "x"]) v = some (.str z2) ∧ PyData.strOk z2 = true := by
        obtain ⟨i, rfl⟩ : ∃ i : Nat, v = (i : Int) := ⟨_, (Int.toNat_of_nonneg v0).symm⟩
        rcases (by omega : i < D.ps.length ∨ i = D.ps.length) with h | h
        · obtain ⟨z, hz⟩ : ∃ z, D.ps[i]? = some z := ⟨D.ps[i], List.getElem?_eq_getElem h⟩
          exact ⟨z, atI_nat (by rw [List.getElem?_append_left (by omega), List.getElem?_map, hz] <;> rfl), name_strOk (ok.gp.1 _ (List.mem_of_getElem? hz))⟩
        · exact ⟨"x", atI_nat (by rw [List.getElem?_append_right (by omega), lpl, h, Nat.sub_self] <;> rfl), by decide +kernel⟩
      refine ⟨W, _, _, _, rfl, rfl, SqT.of m2, hz2, ?_⟩
      have hC3 := e12 _ _ hC
      have sy3 := ex_t e12 sy
      refine ⟨_, rfl, _, rfl, C, _, _, _, rfl, rfl, SqL.of hC3, ay, t, _, _, _, rfl, rfl, sy3, atI_nat (j := 1) rfl, ?_⟩
      refine ⟨_, rfl, _, rfl, C, _, _, _, rfl, rfl, SqL.of hC3, ay, t, _, _, _, rfl, rfl, sy3, atI_nat (j := 2) rfl, by show 3 ≤ sizeLine; decide, fun t2 ht2 => ?_⟩
      have e3 := Ex.new (o := .tup [V.str z2, nm, .int r.2.2]) ht2
      have m3 : (upd H3 t2 (.tup [V.str z2, nm, .int r.2.2])) t2 = some (.tup [.str z2, nm, .int r.2.2]) := upd_same
      generalize upd H3 t2 (.tup [V.str z2, nm, .int r.2.2]) = H4 at e3 m3
      have e13 := e12.trans e3
      have dx : Dp K H4 (.ref t2) (dCh (z2, r.2.1, r.2.2)) := .tup (st_of m3) (.cons (.str _) (.cons (dp_ex e13 dn) (.cons (.int _) .nil)))
      have sx := (⟨sz2, sr.2⟩ : PyData.strOk z2 = true ∧ PyData.strOk r.2.1 = true)
      refine ⟨_, rfl, _, rfl, C, cs, _, n, rfl, rfl, e13 _ _ hC, ixN_nat hn, ?_⟩
      refine ⟨wd, L, C, lb, rows.set n (z2, r.2.1, r.2.2), v10, v11, v12, v13, rfl, B.mutC e13 (e13 _ _ hC) (by rw [List.map_set]; exact dps_set dx n (dps_ex e13 dC)) (by rw [List.length_set]; omega) fun x hx => ?_⟩
      rcases List.mem_or_eq_of_mem_set hx with h | h
      · exact B.sc x h
      · rw [h]; exact sx
    rintro σ H1 ⟨wd, L, C, lb, rows, v10, v11, v12, v13, rfl, B⟩
    obtain ⟨us, hL, dL⟩ := B.ls
    obtain ⟨cs, hC, dC⟩ := B.cs
    have skip : Sp21 K H q p ch pc ro st 12 [some (.ref q), some (.int 145), some (.ref p), some (.str wd), some (.ref L), some (.ref C), some (.int ch), some (.int pc), some (.int ro), some (.int st), v10, v11, v12, v13] H1 := ⟨wd, L, C, lb, rows, v10, v11, v12, v13, rfl, B.up⟩
    have N1 := N.ex B.ex
    have S1 := S.ex B.ex
    have lus : us.length = lb.length := by rw [dps_len dL, List.length_map]
    have lcs : cs.length = rows.length := by rw [dps_len dC, List.length_map]
    have llb := B.ll
    have lrw := B.lc
    -- no chain
    refine ⟨Sp21 K H q p ch pc ro st 12, ?_, ?_⟩
    · refine ⟨_, rfl, rfl, _, rfl, ite2 (fun _ => ?_) (fun _ => skip)⟩
      refine ⟨by show 0 ≤ sizeLine; decide, fun l0 hl0 => ?_⟩
      exact ⟨wd, L, l0, lb, [], v10, v11, v12, v13, rfl, B.newC (Ex.new hl0) hl0 upd_same .nil (Nat.zero_le _) fun r hr => absurd hr List.not_mem_nil⟩
    rintro σ H1 ⟨wd, L, C, lb, rows, v10, v11, v12, v13, rfl, B⟩
    obtain ⟨us, hL, dL⟩ := B.ls
    obtain ⟨cs, hC, dC⟩ := B.cs
    have skip : Sp21 K H q p ch pc ro st 13 [some (.ref q), some (.int 145), some (.ref p), some (.str wd), some (.ref L), some (.ref C), some (.int ch), some (.int pc), some (.int ro), some (.int st), v10, v11, v12, v13] H1 := ⟨wd, L, C, lb, rows, v10, v11, v12, v13, rfl, B.up⟩
    have N1 := N.ex B.ex
    have S1 := S.ex B.ex
    have lus : us.length = lb.length := by rw [dps_len dL, List.length_map]
    have lcs : cs.length = rows.length := by rw [dps_len dC, List.length_map]
    have llb := B.ll
    have lrw := B.lc
    -- no labels
    refine ⟨Sp21 K H q p ch pc ro st 13, ?_, ?_⟩
    · refine ⟨_, rfl, rfl, _, rfl, ite2 (fun _ => ?_) (fun _ => skip)⟩
      refine ⟨by show 0 ≤ sizeLine; decide, fun l0 hl0 => ?_⟩
      exact ⟨wd, l0, C, [], rows, v10, v11, v12, v13, rfl, B.newL (Ex.new hl0) hl0 upd_same .nil (Nat.zero_le _) fun r hr => absurd hr List.not_mem_nil⟩
    rintro σ H1 ⟨wd, L, C, lb, rows, v10, v11, v12, v13, rfl, B⟩
    obtain ⟨us, hL, dL⟩ := B.ls
    obtain ⟨cs, hC, dC⟩ := B.cs
    refine ⟨_, rfl, _, rfl, _, rfl, by show 3 ≤ sizeLine; decide, fun t ht => ?_⟩
    have e1 := Ex.new (o := .tup [V.str wd, .ref L, .ref C]) ht
    exact k _ t wd L C us cs lb rows (B.ex.trans e1) (SqT.of upd_same) (SqL.of (e1 _ _ hL)) (dps_ex e1 dL) (by have := B.ll; omega) B.sl (SqL.of (e1 _ _ hC)) (dps_ex e1 dC) (by have := B.lc; omega) B.sc
end
end EV

set_option Elab.async false
set_option linter.all false
set_option maxRecDepth 100000
set_option maxHeartbeats 8000000
namespace EV
open PySem PySem.Spec PyProof.Rows L2 EvS Evl FD EnT
/-! ### a paper of lists of lists -/
def LabL (K : PySem.W.Frag) (H : Hp) (us : List V) (ls : List (Str × Int)) : Prop := us.length = ls.length ∧ ∀ (i : Nat) v r, us[i]? = some v → ls[i]? = some r → ∃ t, v = .ref t ∧ SqL K H t [.str r.1, .int r.2]
def ChL (K : PySem.W.Frag) (H : Hp) (us : List V) (ls : List CRow) : Prop := us.length = ls.length ∧ ∀ (i : Nat) v r, us[i]? = some v → ls[i]? = some r → ∃ t nm, v = .ref t ∧ SqL K H t [.str r.1, nm, .int r.2.2] ∧ Dp K H nm (dNm r.2.1)
theorem LabL.ex {K : PySem.W.Frag} {H H' : Hp} {us : List V} {ls : List (Str × Int)} (e : Ex H H') (h : LabL K H us ls) : LabL K H' us ls := ⟨h.1, fun i v r h1 h2 => by
  obtain ⟨t, a, b⟩ := h.2 i v r h1 h2
  exact ⟨t, a, ex_l e b⟩⟩
theorem ChL.ex {K : PySem.W.Frag} {H H' : Hp} {us : List V} {ls : List CRow} (e : Ex H H') (h : ChL K H us ls) : ChL K H' us ls := ⟨h.1, fun i v r h1 h2 => by
  obtain ⟨t, nm, a, b, c⟩ := h.2 i v r h1 h2
  exact ⟨t, nm, a, ex_l e b, dp_ex e c⟩⟩
def sp_Paper_initL (K : PySem.W.Frag) (CP : Addr) : Sp := fun vs H Q _ => ∃ (H0 : Hp) (x dx lb ch : Addr) (wd : Str) (us cs : List V) (ls : List (Str × Int)) (rows : List CRow), vs = [.ref x, .str wd, .ref lb, .ref ch] ∧ Ex H0 H ∧ H0 x = none ∧ H x = some (.ins CP dx []) ∧ SqL K H0 lb us ∧ LabL K H0 us ls ∧ ls.length ≤ 1000 ∧ SqL K H0 ch cs ∧ ChL K H0 cs rows ∧ rows.length ≤ 1000 ∧
  ∀ (H' : Hp) (dx' lb' ch' : Addr) (us' cs' : List V), Ex H0 H' → H' x = some (.ins CP dx' (pFs wd lb' ch')) → H0 lb' = none → H' lb' = some (.lst us') → DpAll K H' us' (ls.map dPm) → H0 ch' = none → H' ch' = some (.lst cs') → DpAll K H' cs' (rows.map dCh) → Q .non H'
section
variable {P : Program} {w : World} {K : PySem.W.Frag} {mg : Str → Option Value} {base : Heap} {a : Ad}
theorem G_Paper_initL (T : Txt K mg a) : FnOk P w K mg base CX0 1 a.f_Paper_init a.d_Paper_init ["self", "word", "labels", "chain"] (sp_Paper_initL K a.C_Paper) := by
  refine T.F_Paper_init.ok sc_Paper_init (fun vs H Q E h => ?_) (fun cdv A outer s H vs Q E hr h => ?_)
  · obtain ⟨H0, x, dx, lb, ch, wd, us, cs, ls, rows, rfl, _⟩ := h
    rfl
  · obtain ⟨H0, x, dx, lb, ch, wd, us, cs, ls, rows, rfl, e0, x0, hx, hlb, dlb, llb, hch, dch, lch, k⟩ := h
    have lu := dlb.1
    have lc := dch.1
    refine ⟨_, (pss_cons (ps_fld (pv 0) (pv 1) rfl)
      (pss_cons (ps_fld (pv 0) (pe_lc (own := [("label", 4)]) (g := gName 4) (tt := tYes) rfl sc_Paper_init.nd (pi_list (pv 2)) (blkOk_by (N := ["self", "word", "labels", "chain", "label", "row"]) (sc := defScope s_Paper_init) (by decide +kernel)) (fun _ _ _ _ _ => pg_name (i := 4) sc_Paper_init.nd rfl (Or.inl rfl)) (fun _ _ _ _ _ => pts_nil) (fun _ _ _ _ _ => (pe_callTy (show CallR _ _ (rTupK K) from call_tupK) (by rfl) T.z_tuple (by decide +kernel) (pa_cons (pv 4) pa_nil)))) rfl)
      (pss_one (ps_fld (pv 0) (pe_lc (own := [("row", 5)]) (g := gName 5) (tt := tYes) rfl sc_Paper_init.nd (pi_list (pv 3)) (blkOk_by (N := ["self", "word", "labels", "chain", "label", "row"]) (sc := defScope s_Paper_init) (by decide +kernel)) (fun _ _ _ _ _ => pg_name (i := 5) sc_Paper_init.nd rfl (Or.inl rfl)) (fun _ _ _ _ _ => pts_nil) (fun _ _ _ _ _ => (pe_callTy (show CallR _ _ (rTupK K) from call_tupK) (by rfl) T.z_tuple (by decide +kernel) (pa_cons (pv 5) pa_nil)))) rfl)))), ?_⟩
    have b0 : Ex H0 (del H x) := ex_to_del e0 x0
    refine ⟨_, rfl, _, rfl, x, a.C_Paper, dx, [], rfl, hx, T.cl_Paper, T.na_Paper_word, by decide, ?_⟩
    have b1 : Ex H0 (del (upd H x (.ins a.C_Paper dx (putF "word" (.str wd) []))) x) := by rw [del_upd]; exact b0
    have hx1 : (upd H x (.ins a.C_Paper dx (putF "word" (.str wd) []))) x = some (.ins a.C_Paper dx (putF "word" (.str wd) [])) := upd_same
    generalize upd H x (.ins a.C_Paper dx (putF "word" (.str wd) [])) = H1 at b1 hx1
    have c1 := b1.trans del_ex
    refine ⟨_, rfl, lb, rfl, ⟨_, ex_l c1 hlb⟩, fun l' hl' => lcY_list (K := K) (a := lb) (xs := us) (fun i H' => Ex H1 H' ∧ ∃ acc, H' l' = some (.lst acc) ∧ acc.length = i ∧ DpAll K (del H' l') acc ((ls.take i).map dPm)) ⟨Ex.new hl', [], upd_same, rfl, .nil⟩ (fun i H' _ z => ex_l (c1.trans z.1) hlb) (fun i y H' hy z => ?_) (fun H2 z => ?_)⟩
    · obtain ⟨e, acc, ha, la, da⟩ := z
      have hi := (List.getElem?_eq_some_iff.mp hy).1
      obtain ⟨r, hr'⟩ : ∃ r, ls[i]? = some r := ⟨ls[i]'(by omega), List.getElem?_eq_getElem (by omega)⟩
      obtain ⟨t, rfl, st⟩ := (dlb.ex (c1.trans e)).2 i y r hy hr'
      refine ⟨rfl, _, rfl, t, _, rfl, .inl ⟨st, fun t2 ht2 => ?_⟩⟩
      have eT := Ex.new (o := .tup [V.str r.1, .int r.2]) ht2
      have tD : t2 ≠ l' := fun q => by rw [q, ha] at ht2; cases ht2
      refine ⟨acc, eT _ _ ha, sz_lt (by omega), (e.trans eT).mut hl', acc ++ [.ref t2], upd_same, by rw [List.length_append, la] <;> rfl, ?_⟩
      rw [del_upd, take_one hr', List.map_append]
      exact dps_app (dps_ex (ex_del eT) da) (dps_one (.tup (st_of (del_at tD upd_same)) (.cons (.str _) (.cons (.int _) .nil))))
    obtain ⟨e2, acc, ml, la, da⟩ := z
    rw [List.take_of_length_le (by omega)] at da
    have da2 : DpAll K H2 acc (ls.map dPm) := dps_ex del_ex da
    refine ⟨_, rfl, x, a.C_Paper, dx, _, rfl, e2 _ _ hx1, T.cl_Paper, T.na_Paper_labels, by show 1 < 1000; decide, ?_⟩
    have lx : l' ≠ x := fun q => by rw [q, hx1] at hl'; cases hl'
    have b2 : Ex (del H1 x) (del (upd H2 x (.ins a.C_Paper dx (putF "labels" (.ref l') (putF "word" (.str wd) [])))) x) := by rw [del_upd]; exact ex_del e2
    have ml2 : (del (upd H2 x (.ins a.C_Paper dx (putF "labels" (.ref l') (putF "word" (.str wd) [])))) x) l' = some (.lst acc) := by rw [del_upd]; exact del_at lx ml
    have da3 : DpAll K (del (upd H2 x (.ins a.C_Paper dx (putF "labels" (.ref l') (putF "word" (.str wd) [])))) x) acc (ls.map dPm) := by
      rw [del_upd]
      exact dps_exT (exT_delT (e2 _ _ hx1) ⟨(fun xs z => by cases z), (fun q xs z => by cases z)⟩) da2 (frozen_pms _)
    have hx2 : (upd H2 x (.ins a.C_Paper dx (putF "labels" (.ref l') (putF "word" (.str wd) [])))) x = some (.ins a.C_Paper dx (putF "labels" (.ref l') (putF "word" (.str wd) []))) := upd_same
    generalize upd H2 x (.ins a.C_Paper dx (putF "labels" (.ref l') (putF "word" (.str wd) []))) = H3 at b2 ml2 hx2 da3
    have b02 := b1.trans b2
    have c2 := b02.trans del_ex
    have fl : H0 l' = none := fresh_back c1 hl'
    refine ⟨_, rfl, ch, rfl, ⟨_, ex_l c2 hch⟩, fun c' hc' => lcY_list (K := K) (a := ch) (xs := cs) (fun i H' => Ex H3 H' ∧ ∃ acc, H' c' = some (.lst acc) ∧ acc.length = i ∧ DpAll K (del H' c') acc ((rows.take i).map dCh)) ⟨Ex.new hc', [], upd_same, rfl, .nil⟩ (fun i H' _ z => ex_l (c2.trans z.1) hch) (fun i y H' hy z => ?_) (fun H4 z => ?_)⟩
    · obtain ⟨e, acc2, ha, la2, da'⟩ := z
      have hi := (List.getElem?_eq_some_iff.mp hy).1
      obtain ⟨r, hr'⟩ : ∃ r, rows[i]? = some r := ⟨rows[i]'(by omega), List.getElem?_eq_getElem (by omega)⟩
      obtain ⟨t, nm, rfl, st, dn⟩ := (dch.ex (c2.trans e)).2 i y r hy hr'
      refine ⟨rfl, _, rfl, t, _, rfl, .inl ⟨st, fun t2 ht2 => ?_⟩⟩
      have eT := Ex.new (o := .tup [V.str r.1, nm, .int r.2.2]) ht2
      have tD : t2 ≠ c' := fun q => by rw [q, ha] at ht2; cases ht2
      have dn2 : Dp K (del (upd H' t2 (.tup [V.str r.1, nm, .int r.2.2])) c') nm (dNm r.2.1) := by
        have := dp_ex eT dn
        unfold dNm at this ⊢
        by_cases q : r.2.1 = ""
        · rw [if_pos q] at this ⊢; cases this; exact .non
        · rw [if_neg q] at this ⊢; cases this; exact .str _
      refine ⟨acc2, eT _ _ ha, sz_lt (by omega), (e.trans eT).mut hc', acc2 ++ [.ref t2], upd_same, by rw [List.length_append, la2] <;> rfl, ?_⟩
      rw [del_upd, take_one hr', List.map_append]
      exact dps_app (dps_ex (ex_del eT) da') (dps_one (.tup (st_of (del_at tD upd_same)) (.cons (.str _) (.cons dn2 (.cons (.int _) .nil)))))
    obtain ⟨e4, acc2, mc, la2, da'⟩ := z
    rw [List.take_of_length_le (by omega)] at da'
    have dc2 : DpAll K H4 acc2 (rows.map dCh) := dps_ex del_ex da'
    refine ⟨_, rfl, x, a.C_Paper, dx, _, rfl, e4 _ _ hx2, T.cl_Paper, T.na_Paper_chain, by show 2 < 1000; decide, ?_⟩
    have cx : c' ≠ x := fun q => by rw [q, hx2] at hc'; cases hc'
    have b3 : Ex (del H3 x) (del (upd H4 x (.ins a.C_Paper dx (pFs wd l' c'))) x) := by rw [del_upd]; exact ex_del e4
    have mc3 : (del (upd H4 x (.ins a.C_Paper dx (pFs wd l' c'))) x) c' = some (.lst acc2) := by rw [del_upd]; exact del_at cx mc
    have dc3 : DpAll K (del (upd H4 x (.ins a.C_Paper dx (pFs wd l' c'))) x) acc2 (rows.map dCh) := by
      rw [del_upd]
      exact dps_exT (exT_delT (e4 _ _ hx2) ⟨(fun xs z => by cases z), (fun q xs z => by cases z)⟩) dc2 (frozen_chs _)
    have e5 := (b02.trans b3).trans del_ex
    have fc : H0 c' = none := fresh_back c2 hc'
    exact k _ dx l' c' acc acc2 e5 upd_same fl (del_ex _ _ (b3 _ _ ml2)) (dps_ex (b3.trans del_ex) da3) fc (del_ex _ _ mc3) (dps_ex del_ex dc3)
end
end EV

set_option Elab.async false
set_option linter.all false
set_option maxRecDepth 100000
set_option maxHeartbeats 8000000
namespace EV
open PySem PySem.Spec PyProof.Rows L2 EvS Evl FD EnT
def spLaw (K : PySem.W.Frag) : Sp := fun vs H Q _ => ∃ (p : Addr) (ns : List Int), vs = [.ref p] ∧ SqL K H p (ns.map V.int) ∧ ∀ H', Q (.bl true) H'
theorem CaseAt.ask {K : PySem.W.Frag} {C : Addr} {H : Hp} {x p w s b : Addr} {D : LandD} {wi pl li pa : Addr} {rows prs us : List V} {ws : List (Int × Str)} {ss : List V} {sts : List (Str × Int)} {bb : List V} {bs : List (Str × Int)} (h : CaseAt K H p w s b D wi pl li pa rows prs us ws ss sts bb bs) (hl : IsLand K C H x D) : AskAt K C H x w s b D ws sts bs us ss bb :=
  ⟨hl, h.ok, h.hw, h.dw, h.wok, h.hs, h.ds, h.sok, Nat.le_trans h.ls (by decide), h.hb, h.db, h.bok.pm, Nat.le_trans h.lb (by decide)⟩
theorem nm_at {K : PySem.W.Frag} {H H' : Hp} {v : V} {z : Str} (h : Dp K H v (dNm z)) : Dp K H' v (dNm z) := by
  unfold dNm at h ⊢
  by_cases q : z = ""
  · rw [if_pos q] at h ⊢; cases h; exact .non
  · rw [if_neg q] at h ⊢; cases h; exact .str _
structure Fine (lb : List (Str × Int)) (rows : List CRow) : Prop where
  l : lb.length ≤ 100
  r : rows.length ≤ 100
  sl : ∀ r ∈ lb, PyData.strOk r.1 = true
  sr : ∀ r ∈ rows, PyData.strOk r.1 = true ∧ PyData.strOk r.2.1 = true
theorem back_names {D : LandD} {ws : List (Int × Str)} {nums : List (List (Option Int))} {f : Str → Option Int} {p : Str} {l : List CRow} {r : CRow} (h : Back D ws nums f p l r) : ∀ x ∈ l, f x.1 = some x.2.2 ∧ (x = r ∨ ∃ k ∈ D.ls, x.2.1 = k.n) := by
  induction h with
  | one _ e => exact fun x hx => by rw [List.mem_singleton.mp hx]; exact ⟨e, .inl rfl⟩
  | @step l r b _ e c ih =>
    intro x hx
    rcases List.mem_append.mp hx with h | h
    · obtain ⟨h1, h2⟩ := ih x h
      refine ⟨h1, .inr ?_⟩
      rcases h2 with rfl | h2
      · obtain ⟨j, k, row, h3, _, h4, _⟩ := c
        exact ⟨k, List.mem_of_getElem? h3, h4⟩
      · exact h2
    · rw [List.mem_singleton.mp h]; exact ⟨e, .inl rfl⟩
theorem ChainOk.fine {D : LandD} (ok : LandOk D) {ws : List (Int × Str)} {sts : List (Str × Int)} {nums : List (List (Option Int))} {f : Str → Option Int} (hf : ∀ q t, f q = some t → q ∈ D.ps) {p : Str} {rows : List CRow} (h : ChainOk D ws sts nums f p rows) : rows.length ≤ 100 ∧ ∀ r ∈ rows, PyData.strOk r.1 = true ∧ PyData.strOk r.2.1 = true := by
  obtain ⟨r, bk, e, _, l⟩ := h
  refine ⟨by omega, fun x hx => ?_⟩
  obtain ⟨h1, h2⟩ := back_names bk x (List.mem_reverse.mpr hx)
  refine ⟨name_strOk (ok.gp.1 _ (hf _ _ h1)), ?_⟩
  rcases h2 with rfl | ⟨k, hk, e2⟩
  · rw [e]; decide +kernel
  · rw [e2]; exact name_strOk (ok.gl.1 _ (List.mem_map.mpr ⟨k, hk, rfl⟩))
theorem lab_fine {D : LandD} (ok : LandOk D) (f : Str → Option Int) : (lab D f).length ≤ 100 ∧ ∀ r ∈ lab D f, PyData.strOk r.1 = true := ⟨Nat.le_trans (List.length_filterMap_le _ _) (Nat.le_trans ok.p24 (by decide)), fun r hr => by
  obtain ⟨q, hq, e⟩ := List.mem_filterMap.mp hr
  obtain ⟨t, _, rfl⟩ := Option.map_eq_some_iff.mp e
  exact name_strOk (ok.gp.1 _ hq)⟩
theorem PaperOk.fine {D : LandD} (ok : LandOk D) {ws : List (Int × Str)} {sts bs : List (Str × Int)} (sok : StOk D sts) {p : Str} {ls : List (Str × Int)} {rows : List CRow} (h : PaperOk D ws sts bs p ls rows) : Fine ls rows := by
  have okF : ∀ s, FP.Ok (fireOf D ws sts bs s) D.ps := fun s => fire_ok ok sok s
  rcases h with ⟨_, rfl, rfl⟩ | ⟨_, _, rfl, c⟩ | ⟨_, _, rfl, c⟩
  · exact ⟨(lab_fine ok _).1, by decide, (lab_fine ok _).2, fun r hr => by cases hr⟩
  · have := c.fine ok (fun q t h => (FP.first_in (okF 0) h).1)
    exact ⟨(lab_fine ok _).1, this.1, (lab_fine ok _).2, this.2⟩
  · have := c.fine ok (fun q t h => (FP.first_in (okF 1) h).1)
    exact ⟨by decide, this.1, (fun r hr => by cases hr), this.2⟩
section
variable {P : Program} {w : World} {K : PySem.W.Frag} {mg : Str → Option Value} {base : Heap} {a : Ad}
theorem G_law (T : Txt K mg a) : FnOk P w K mg base CX0 8 a.f_law a.d_law ["script"] (spLaw K) := by
  refine T.F_law.ok sc_law (fun vs H Q E h => ?_) (fun cdv A outer s H vs Q E hr h => ?_)
  · obtain ⟨p, ns, rfl, _⟩ := h
    rfl
  · obtain ⟨sc, ns, rfl, hS, k⟩ := h
    refine ⟨_, (pss_cons (ps_set (i := 1) sc_law.nd rfl (Or.inl rfl) (pe_call (G__law_numbers T) (hr.mono (by decide)) (by rfl) T.g__law_numbers T.k__law_numbers T.B__law_numbers .nil pass0 (pa_cons (pv 0) (pa_cons pe_int pa_nil))))
      (pss_cons (ps_asg (pe_call (G__law_case T) (hr.mono (by decide)) (by rfl) T.g__law_case T.k__law_case T.B__law_case .nil pass0 (pa_cons (pv 1) pa_nil)) (pg_tup (by rfl) (pgs_cons (pg_name (i := 2) sc_law.nd rfl (Or.inl rfl)) (pgs_cons (pg_name (i := 3) sc_law.nd rfl (Or.inl rfl)) (pgs_cons (pg_name (i := 4) sc_law.nd rfl (Or.inl rfl)) (pgs_cons (pg_name (i := 5) sc_law.nd rfl (Or.inl rfl)) pgs_nil))))))
      (pss_cons (ps_set (i := 6) sc_law.nd rfl (Or.inl rfl) (pe_call (G__law_land T) (hr.mono (by decide)) (by rfl) T.g__law_land T.k__law_land T.B__law_land .nil pass0 (pa_cons (pv 2) pa_nil)))
      (pss_cons (ps_set (i := 7) sc_law.nd rfl (Or.inl rfl) (pe_ix ix_tup (pe_ix ix_list (pv 2) pe_int (fun _ _ => rfl)) (pe_call (G__law_pick T) (hr.mono (by decide)) (by rfl) T.g__law_pick T.k__law_pick T.B__law_pick .nil pass0 (pa_cons (pv 1) (pa_cons pe_int (pa_cons (pe_callB call_len_seq (by rfl) T.z_len PySem.boot_len (pa_cons (pe_ix ix_list (pv 2) pe_int (fun _ _ => rfl)) pa_nil)) pa_nil)))) (fun _ _ => rfl)))
      (pss_cons (ps_set (i := 8) sc_law.nd rfl (Or.inl rfl) (pe_call (G_paper T) (hr.mono (by decide)) (by rfl) T.g_paper T.k_paper T.B_paper .nil pass0 (pa_cons (pv 6) (pa_cons (pe_callTy call_lstK (by rfl) T.z_list (by decide +kernel) (pa_cons (pv 3) pa_nil)) (pa_cons (pe_callTy call_lstK (by rfl) T.z_list (by decide +kernel) (pa_cons (pv 4) pa_nil)) (pa_cons (pe_callTy call_lstK (by rfl) T.z_list (by decide +kernel) (pa_cons (pv 5) pa_nil)) (pa_cons (pv 7) pa_nil)))))))
      (Evl.pss_cut (ps_asg (pe_call (G__law_spoilt T) (hr.mono (by decide)) (by rfl) T.g__law_spoilt T.k__law_spoilt T.B__law_spoilt .nil pass0 (pa_cons (pv 1) (pa_cons pe_int (pa_cons (pv 2) (pa_cons (pe_fld (pv 8) rfl) (pa_cons (pe_fld (pv 8) rfl) (pa_cons (pe_fld (pv 8) rfl) pa_nil))))))) (pg_tup (by rfl) (pgs_cons (pg_name (i := 9) sc_law.nd rfl (Or.inl rfl)) (pgs_cons (pg_name (i := 10) sc_law.nd rfl (Or.inl rfl)) (pgs_cons (pg_name (i := 11) sc_law.nd rfl (Or.inl rfl)) pgs_nil)))))
      (pss_cons (ps_setLc (i := 12) (own := [("row", 15)]) (g := gName 15) (tt := tYes) rfl sc_law.nd rfl rfl (sw_true rfl rfl rfl (by decide +kernel)) (pi_list (pv 11)) (blkOk_by (N := ["script", "numbers", "parts", "weather", "starts", "breaks", "land", "place", "own", "word", "labels", "chain", "handed", "told", "actual", "row"]) (sc := defScope s_law) (by decide +kernel)) (fun _ _ _ _ _ => pg_name (i := 15) sc_law.nd rfl (Or.inl rfl)) (fun _ _ _ _ _ => pts_nil) (fun _ _ _ _ _ => (pe_callTy (show CallR _ _ (rLstK K) from call_lstK) (by rfl) T.z_list (by decide +kernel) (pa_cons (pv 15) pa_nil))))
      (Evl.pss_cut (ps_set (i := 13) sc_law.nd rfl (Or.inl rfl) (pe_make T.mk_Paper (G_Paper_initL T) (hr.mono (by decide)) (by rfl) T.g_Paper T.B_Paper_init .nil pass0 (pa_cons (pv 9) (pa_cons (pe_lc (own := [("row", 15)]) (g := gName 15) (tt := tYes) rfl sc_law.nd (pi_list (pv 10)) (blkOk_by (N := ["script", "numbers", "parts", "weather", "starts", "breaks", "land", "place", "own", "word", "labels", "chain", "handed", "told", "actual", "row"]) (sc := defScope s_law) (by decide +kernel)) (fun _ _ _ _ _ => pg_name (i := 15) sc_law.nd rfl (Or.inl rfl)) (fun _ _ _ _ _ => pts_nil) (fun _ _ _ _ _ => (pe_callTy (show CallR _ _ (rLstK K) from call_lstK) (by rfl) T.z_list (by decide +kernel) (pa_cons (pv 15) pa_nil)))) (pa_cons (pv 12) pa_nil)))))
      (pss_cons (ps_expr (pe_bm PySem.F.plainAttrs_list PySem.F.slot_list_append PySem.F.type_list_append mt_append (pv 12) (pa_cons (pe_lst (pa_cons pe_str (pa_cons pe_non (pa_cons pe_int pa_nil)))) pa_nil)))
      (pss_cons (ps_if (PW.pt (pw_or (pt_cmpR op_ne (pe_fld (pv 13) rfl) (pv 9) (nomark _)) (pw_or (pt_cmpR (op_neD hr.units) (pe_fld (pv 13) rfl) (pv 10) (nomark _)) (pw_or1 (pt_cmpR (op_neD hr.units) (pe_fld (pv 13) rfl) (pv 11) (nomark _)))))) (pss_one (ps_ret pe_bl)) pss_nil)
      (pss_cons (ps_set (i := 14) sc_law.nd rfl (Or.inl rfl) (pe_call (G_check_paper T) (hr.mono (by decide)) (by rfl) T.g_check_paper T.k_check_paper T.B_check_paper .nil pass0 (pa_cons (pv 6) (pa_cons (pe_callTy call_lstK (by rfl) T.z_list (by decide +kernel) (pa_cons (pv 3) pa_nil)) (pa_cons (pe_callTy call_lstK (by rfl) T.z_list (by decide +kernel) (pa_cons (pv 4) pa_nil)) (pa_cons (pe_callTy call_lstK (by rfl) T.z_list (by decide +kernel) (pa_cons (pv 5) pa_nil)) (pa_cons (pv 7) (pa_cons (pv 13) pa_nil))))))))
      (pss_cons (ps_if (pt_not (pt_val (pe_callB call_isi (by rfl) T.z_isinstance (by decide +kernel) (pa_cons (pv 14) (pa_cons (pe_bltn (v := .ty "bool") (u := .type "bool") (by rfl) T.z_bool (by decide +kernel) rfl) pa_nil))))) (pss_one (ps_ret pe_bl)) pss_nil)
      (pss_one (ps_ret (pe_cmpR op_eq (pv 14) (pe_call (G__law_is_right T) (hr.mono (by decide)) (by rfl) T.g__law_is_right T.k__law_is_right T.B__law_is_right .nil pass0 (pa_cons (pv 2) (pa_cons (pv 3) (pa_cons (pv 4) (pa_cons (pv 5) (pa_cons (pv 7) (pa_cons (pe_tup (pa_cons (pv 9) (pa_cons (pv 10) (pa_cons (pv 11) pa_nil)))) pa_nil))))))) (nomark _)))))))))))))))), ?_⟩
    refine ⟨_, rfl, sc, ns, 160, rfl, hS, by decide, by decide, fun H1 q ks e1 _ hq lq sm => ?_⟩
    have N : Nums K H1 q ks := ⟨SqL.of hq, sm, by omega, by omega⟩
    refine ⟨_, rfl, q, ks, rfl, N, fun H2 cc p w s b D wi pl li pa rows prs us ws ss sts bb bs e2 hcc C2 => ?_⟩
    refine ⟨cc, _, rfl, hcc, rfl, _, _, rfl, _, _, rfl, _, _, rfl, _, _, rfl, rfl, ?_⟩
    have N2 := N.ex e2
    -- land
    refine ⟨_, rfl, p, D, wi, pl, li, pa, rows, prs, rfl, C2.S, C2.ok, fun H3 x e3 _ hx => ?_⟩
    have C3 := C2.ex e3
    have N3 := N2.ex e3
    have ok := C3.ok
    have sok := C3.sok
    have p1 := ok.p1
    have lpl : (D.ps.map V.str).length = D.ps.length := List.length_map ..
    -- the place
    refine ⟨_, rfl, p, _, _, _, rfl, rfl, C3.S.ob, atI_nat (j := 1) rfl, _, rfl, _, rfl, p, _, _, _, rfl, rfl, C3.S.ob, atI_nat (j := 1) rfl, pl, _, rfl, .inr C3.S.pl, q, ks, _, _, rfl, N3, by decide, by decide, by omega, fun v v0 v1 => ?_⟩
    obtain ⟨zp, zin, hz⟩ := str_at (ps := D.ps) v0 (by omega)
    refine ⟨pl, _, _, _, rfl, rfl, C3.S.pl, hz, ?_⟩
    -- a paper of its own
    refine ⟨_, rfl, _, rfl, w, us, rfl, .inl C3.hw, fun w2 hw2 => ?_⟩
    have c1 := Ex.new (o := .lst us) hw2
    have mw2 : (upd H3 w2 (.lst us)) w2 = some (.lst us) := upd_same
    generalize upd H3 w2 (.lst us) = I1 at c1 mw2
    refine ⟨_, rfl, s, ss, rfl, .inl (C3.ex c1).hs, fun s2 hs2 => ?_⟩
    have c2 := Ex.new (o := .lst ss) hs2
    have ms2 : (upd I1 s2 (.lst ss)) s2 = some (.lst ss) := upd_same
    generalize upd I1 s2 (.lst ss) = I2 at c2 ms2
    refine ⟨_, rfl, b, bb, rfl, .inl (C3.ex (c1.trans c2)).hb, fun b2 hb2 => ?_⟩
    have c3 := Ex.new (o := .lst bb) hb2
    have mb2 : (upd I2 b2 (.lst bb)) b2 = some (.lst bb) := upd_same
    generalize upd I2 b2 (.lst bb) = I3 at c3 mb2
    have c13 := c1.trans (c2.trans c3)
    have C4 := C3.ex c13
    have A4 := C4.ask (hx.ex c13)
    refine ⟨_, rfl, x, w2, s2, b2, zp, D, ws, sts, bs, us, ss, bb, rfl, ⟨A4.ld, ok, SqL.of ((c2.trans c3) _ _ mw2), A4.dw, A4.wok, SqL.of (c3 _ _ ms2), A4.ds, sok, A4.ls, SqL.of mb2, A4.db, A4.bok, A4.lb⟩, zin, fun I4 own lb0 rw0 c4 _ ip pok => ?_⟩
    have fn := pok.fine ok sok
    have N4 := N3.ex (c13.trans c4)
    have C5 := C4.ex c4
    obtain ⟨dp, lbA, chA, lus, cus, hob, hlb, dlb, hch, dch⟩ := ip
    generalize wordOf (FP.first (fireOf D ws sts bs 0)) (FP.first (fireOf D ws sts bs 1)) zp = wd0 at hob
    -- spoilt
    refine ⟨fun σ H' => ∃ (wd : Str) (L C : Addr) (us' cs' : List V) (lb : List (Str × Int)) (rw : List CRow), σ = [some (.ref sc), some (.ref q), some (.ref p), some (.ref w), some (.ref s), some (.ref b), some (.ref x), some (.str zp), some (.ref own), some (.str wd), some (.ref L), some (.ref C), none, none, none, none] ∧ Ex I4 H' ∧ SqL K H' L us' ∧ DpAll K H' us' (lb.map dPm) ∧ lb.length ≤ 200 ∧ (∀ r ∈ lb, PyData.strOk r.1 = true) ∧ SqL K H' C cs' ∧ DpAll K H' cs' (rw.map dCh) ∧ rw.length ≤ 200 ∧ ∀ r ∈ rw, PyData.strOk r.1 = true ∧ PyData.strOk r.2.1 = true, ?_, ?_⟩
    · refine ⟨_, rfl, _, rfl, _, rfl, own, a.C_Paper, dp, _, _, rfl, hob, T.cl_Paper, T.na_Paper_word, p_word .., _, rfl, own, a.C_Paper, dp, _, _, rfl, hob, T.cl_Paper, T.na_Paper_labels, p_labels .., _, rfl, own, a.C_Paper, dp, _, _, rfl, hob, T.cl_Paper, T.na_Paper_chain, p_chain .., ?_⟩
      refine ⟨q, p, lbA, chA, ks, wd0, D, wi, pl, li, pa, rows, prs, lus, cus, lb0, rw0, rfl, N4, C5.S, ok, hlb, dlb, fn.l, fn.sl, hch, dch, fn.r, fn.sr, fun H' t wd' L C us' cs' lb' rows' e hT hL dL ll sl hC dC lc scs => ?_⟩
      exact ⟨t, _, rfl, hT, rfl, _, _, rfl, _, _, rfl, _, _, rfl, rfl, wd', L, C, us', cs', lb', rows', rfl, e, hL, dL, ll, sl, hC, dC, lc, scs⟩
    · rintro σ J1 ⟨wd, L, C, us', cs', lb, rw, rfl, e5, hL, dL, ll, sl, hC, dC, lc, scs⟩
      have lus' : us'.length = lb.length := by rw [dps_len dL, List.length_map]
      have lcs' : cs'.length = rw.length := by rw [dps_len dC, List.length_map]
      -- handed
      refine ⟨_, rfl, C, rfl, ⟨_, hC⟩, fun HA hHA => lc_list (K := K) (a := C) (xs := cs') (fun i H' => Ex J1 H' ∧ ∃ acc, H' HA = some (.lst acc) ∧ ChL K (del H' HA) acc (rw.take i)) ⟨Ex.new hHA, [], upd_same, rfl, fun i v r h => by cases h⟩ (fun i H' _ z => ex_l z.1 hC) (fun i y H' hy z => ?_) (fun J2 z => ?_)⟩
      · obtain ⟨e, acc, ha, ca⟩ := z
        have hi := (List.getElem?_eq_some_iff.mp hy).1
        obtain ⟨r, hr', _, dr⟩ := pick (dps_ex e dC) hy
        obtain ⟨t, nm, rfl, st, dn⟩ := ch_in dr
        have la : acc.length = i := by rw [ca.1, List.length_take]; omega
        refine ⟨rfl, _, rfl, t, _, rfl, .inr st, fun lr hlr => ?_⟩
        have eT := Ex.new (o := .lst [V.str r.1, nm, .int r.2.2]) hlr
        have tD : lr ≠ HA := fun q => by rw [q, ha] at hlr; cases hlr
        refine ⟨acc, eT _ _ ha, sz_lt (by omega), (e.trans eT).mut hHA, acc ++ [.ref lr], upd_same, ?_⟩
        rw [del_upd, take_one hr']
        refine ⟨by rw [List.length_append, List.length_append, ca.1] <;> rfl, fun j v r2 h1 h2 => ?_⟩
        have ca2 : ChL K (del (upd H' lr (.lst [V.str r.1, nm, .int r.2.2])) HA) acc (rw.take i) := ca.ex (ex_del eT)
        by_cases cj : j < acc.length
        · rw [List.getElem?_append_left cj] at h1
          rw [List.getElem?_append_left (by rw [← ca.1]; exact cj)] at h2
          exact ca2.2 j v r2 h1 h2
        · rw [List.getElem?_append_right (by omega)] at h1
          rw [List.getElem?_append_right (by rw [← ca.1]; omega), ← ca.1] at h2
          have ej : j - acc.length = 0 := by
            have := (List.getElem?_eq_some_iff.mp h1).1
            simp only [List.length_cons, List.length_nil] at this
            omega
          rw [ej] at h1 h2
          cases h1
          cases h2
          exact ⟨lr, nm, rfl, SqL.of (del_at tD upd_same), nm_at dn⟩
      obtain ⟨e6, acc, hA, cA⟩ := z
      rw [List.take_of_length_le (by omega)] at cA
      have cA2 : ChL K J2 acc rw := cA.ex del_ex
      have fA := hHA
      -- told
      refine ⟨fun σ H' => ∃ (told dt lb' ch' : Addr) (us2 cs2 : List V), σ = [some (.ref sc), some (.ref q), some (.ref p), some (.ref w), some (.ref s), some (.ref b), some (.ref x), some (.str zp), some (.ref own), some (.str wd), some (.ref L), some (.ref C), some (.ref HA), some (.ref told), none, none] ∧ Ex J2 H' ∧ H' told = some (.ins a.C_Paper dt (pFs wd lb' ch')) ∧ H' lb' = some (.lst us2) ∧ DpAll K H' us2 (lb.map dPm) ∧ lb' ≠ HA ∧ H' ch' = some (.lst cs2) ∧ DpAll K H' cs2 (rw.map dCh) ∧ ch' ≠ HA, ?_, ?_⟩
      · refine ⟨_, rfl, _, rfl, L, rfl, ⟨_, ex_l e6 hL⟩, fun HB hHB => lc_list (K := K) (a := L) (xs := us') (fun i H' => Ex J2 H' ∧ ∃ acc, H' HB = some (.lst acc) ∧ LabL K (del H' HB) acc (lb.take i)) ⟨Ex.new hHB, [], upd_same, rfl, fun i v r h => by cases h⟩ (fun i H' _ z => ex_l (e6.trans z.1) hL) (fun i y H' hy z => ?_) (fun J3 z => ?_)⟩
        · obtain ⟨e, acc, ha, ca⟩ := z
          have hi := (List.getElem?_eq_some_iff.mp hy).1
          obtain ⟨r, hr', _, dr⟩ := pick (dps_ex (e6.trans e) dL) hy
          obtain ⟨t, rfl, st⟩ := pm_in dr
          have la : acc.length = i := by rw [ca.1, List.length_take]; omega
          refine ⟨rfl, _, rfl, t, _, rfl, .inr st, fun lr hlr => ?_⟩
          have eT := Ex.new (o := .lst [V.str r.1, .int r.2]) hlr
          have tD : lr ≠ HB := fun q => by rw [q, ha] at hlr; cases hlr
          refine ⟨acc, eT _ _ ha, sz_lt (by omega), (e.trans eT).mut hHB, acc ++ [.ref lr], upd_same, ?_⟩
          rw [del_upd, take_one hr']
          refine ⟨by rw [List.length_append, List.length_append, ca.1] <;> rfl, fun j v r2 h1 h2 => ?_⟩
          have ca2 : LabL K (del (upd H' lr (.lst [V.str r.1, .int r.2])) HB) acc (lb.take i) := ca.ex (ex_del eT)
          by_cases cj : j < acc.length
          · rw [List.getElem?_append_left cj] at h1
            rw [List.getElem?_append_left (by rw [← ca.1]; exact cj)] at h2
            exact ca2.2 j v r2 h1 h2
          · rw [List.getElem?_append_right (by omega)] at h1
            rw [List.getElem?_append_right (by rw [← ca.1]; omega), ← ca.1] at h2
            have ej : j - acc.length = 0 := by
              have := (List.getElem?_eq_some_iff.mp h1).1
              simp only [List.length_cons, List.length_nil] at this
              omega
            rw [ej] at h1 h2
            cases h1
            cases h2
            exact ⟨lr, rfl, SqL.of (del_at tD upd_same)⟩
        obtain ⟨e7, acc3, hB, cB⟩ := z
        rw [List.take_of_length_le (by omega)] at cB
        have cB2 : LabL K J3 acc3 lb := cB.ex del_ex
        refine ⟨_, rfl, fun t dt ht hdt ne => ?_⟩
        refine ⟨J3, t, dt, HB, HA, wd, acc3, acc, lb, rw, rfl, (Ex.new hdt).trans (Ex.new (by rw [upd_ne ne.symm]; exact ht)), ht, upd_same, SqL.of hB, cB2, by omega, SqL.of (e7 _ _ hA), cA2.ex e7, by omega, fun H' dx' lb' ch' us2 cs2 e8 ho fl hl dl fc hc dc => ⟨rfl, ?_⟩⟩
        exact ⟨t, dx', lb', ch', us2, cs2, rfl, e7.trans e8, ho, hl, dl, (fun q => by rw [q, e7 _ _ hA] at fl; cases fl), hc, dc, fun q => by rw [q, e7 _ _ hA] at fc; cases fc⟩
      · rintro σ J4 ⟨told, dt, lb', ch', us2, cs2, rfl, e7, ho, hl, dl, nl, hc, dc, nc⟩
        have hA4 := e7 _ _ hA
        refine ⟨_, rfl, .inl ⟨rfl, _, SqL.of hA4⟩, by show 3 ≤ sizeLine; decide, fun l3 hl3 => ?_⟩
        have eN := Ex.new (o := .lst [V.str "x", .non, .int 0]) hl3
        have hA5 := eN _ _ hA4
        have lac : acc.length ≤ 200 := by rw [cA.1]; exact lc
        refine ⟨HA, acc, _, rfl, rfl, hA5, sz_lt (by omega), ?_⟩
        have eM : Ex J1 (upd (upd J4 l3 (.lst [V.str "x", .non, .int 0])) HA (.lst (acc ++ [.ref l3]))) := ((e6.trans e7).trans eN).mut fA
        have nt : told ≠ HA := fun q => by rw [q, hA4] at ho; cases ho
        have ho5 : (upd (upd J4 l3 (.lst [V.str "x", .non, .int 0])) HA (.lst (acc ++ [.ref l3]))) told = some (.ins a.C_Paper dt (pFs wd lb' ch')) := by rw [upd_ne nt]; exact eN _ _ ho
        have hl5 : (upd (upd J4 l3 (.lst [V.str "x", .non, .int 0])) HA (.lst (acc ++ [.ref l3]))) lb' = some (.lst us2) := by rw [upd_ne nl]; exact eN _ _ hl
        have hc5 : (upd (upd J4 l3 (.lst [V.str "x", .non, .int 0])) HA (.lst (acc ++ [.ref l3]))) ch' = some (.lst cs2) := by rw [upd_ne nc]; exact eN _ _ hc
        have dl5 : DpAll K (upd (upd J4 l3 (.lst [V.str "x", .non, .int 0])) HA (.lst (acc ++ [.ref l3]))) us2 (lb.map dPm) := dps_exT (exT_mut hA5) (dps_ex eN dl) (frozen_pms _)
        have dc5 : DpAll K (upd (upd J4 l3 (.lst [V.str "x", .non, .int 0])) HA (.lst (acc ++ [.ref l3]))) cs2 (rw.map dCh) := dps_exT (exT_mut hA5) (dps_ex eN dc) (frozen_chs _)
        generalize upd (upd J4 l3 (.lst [V.str "x", .non, .int 0])) HA (.lst (acc ++ [.ref l3])) = J5 at eM ho5 hl5 hc5 dl5 dc5
        have hL5 := ex_l eM hL
        have dL5 := dps_ex eM dL
        have hC5 := ex_l eM hC
        have dC5 := dps_ex eM dC
        have shl := sh_pmsS sl
        have shc := sh_chs scs
        refine ⟨_, rfl, told, a.C_Paper, dt, _, _, rfl, ho5, T.cl_Paper, T.na_Paper_word, p_word .., _, rfl, rfl, _, rfl, ite2 (fun c => absurd c (by show ¬ (!decide (V.str wd = V.str wd)) = true; rw [decide_eq_true rfl]; decide)) (fun _ => ?_)⟩
        refine ⟨_, rfl, told, a.C_Paper, dt, _, _, rfl, ho5, T.cl_Paper, T.na_Paper_labels, p_labels .., _, rfl, .list (lb.map dPm), .list (lb.map dPm), .lst (SqL.of hl5) dl5, .lst hL5 dL5, shl, shl, _, rfl, ?_⟩
        rw [eqv_self shl]
        refine iteNT ?_
        refine ⟨_, rfl, told, a.C_Paper, dt, _, _, rfl, ho5, T.cl_Paper, T.na_Paper_chain, p_chain .., _, rfl, .list (rw.map dCh), .list (rw.map dCh), .lst (SqL.of hc5) dc5, .lst hC5 dC5, shc, shc, _, rfl, ?_⟩
        rw [eqv_self shc]
        refine iteNT ?_
        -- the program's answer
        have e45 : Ex I4 J5 := e5.trans eM
        have C6 := C5.ex e45
        have x6 := hx.ex (c13.trans (c4.trans e45))
        refine ⟨_, rfl, _, rfl, w, us, rfl, .inl C6.hw, fun w3 hw3 => ?_⟩
        have f1 := Ex.new (o := .lst us) hw3
        have mw3 : (upd J5 w3 (.lst us)) w3 = some (.lst us) := upd_same
        generalize upd J5 w3 (.lst us) = M1 at f1 mw3
        refine ⟨_, rfl, s, ss, rfl, .inl (C6.ex f1).hs, fun s3 hs3 => ?_⟩
        have f2 := Ex.new (o := .lst ss) hs3
        have ms3 : (upd M1 s3 (.lst ss)) s3 = some (.lst ss) := upd_same
        generalize upd M1 s3 (.lst ss) = M2 at f2 ms3
        refine ⟨_, rfl, b, bb, rfl, .inl (C6.ex (f1.trans f2)).hb, fun b3 hb3 => ?_⟩
        have f3 := Ex.new (o := .lst bb) hb3
        have mb3 : (upd M2 b3 (.lst bb)) b3 = some (.lst bb) := upd_same
        generalize upd M2 b3 (.lst bb) = M3 at f3 mb3
        have f13 := f1.trans (f2.trans f3)
        have A7 := (C6.ask x6).ex f13
        have C7 := C6.ex f13
        refine ⟨_, rfl, _, rfl, x, w3, s3, b3, told, zp, D, ws, sts, bs, us, ss, bb, wd, lb, rw, rfl, ⟨A7.ld, ok, SqL.of ((f2.trans f3) _ _ mw3), A7.dw, A7.wok, SqL.of (f3 _ _ ms3), A7.ds, sok, A7.ls, SqL.of mb3, A7.db, A7.bok, A7.lb⟩, zin, ⟨dt, lb', ch', us2, cs2, f13 _ _ ho5, SqL.of (f13 _ _ hl5), dps_ex f13 dl5, SqL.of (f13 _ _ hc5), dps_ex f13 dc5⟩, by omega, by omega, (fun r hr => (scs r hr).1), fun M4 cc1 f4 hc1 => ?_⟩
        refine ⟨_, rfl, .bl _, .ty "bool", _, _, true, rfl, .ty "bool", .base (.bl _), kit_ty (by decide +kernel), _, rfl, iteNT ?_⟩
        have C8 := C7.ex f4
        refine ⟨_, rfl, _, rfl, _, rfl, _, rfl, _, rfl, _, rfl, _, rfl, _, rfl, _, rfl, by show 3 ≤ sizeLine; decide, fun t4 ht4 => ?_⟩
        have f5 := Ex.new (o := .tup [V.str wd, .ref L, .ref C]) ht4
        have m5 : (upd M4 t4 (.tup [V.str wd, .ref L, .ref C])) t4 = some (.tup [.str wd, .ref L, .ref C]) := upd_same
        generalize upd M4 t4 (.tup [V.str wd, .ref L, .ref C]) = M5 at f5 m5
        have C9 := C8.ex f5
        have f15 := f13.trans (f4.trans f5)
        refine ⟨p, w, s, b, t4, L, C, zp, wd, D, wi, pl, li, pa, rows, prs, us, ss, bb, us', cs', ws, sts, bs, lb, rw, rfl, SqT.of m5, C9.S, ok, C9.hw, C9.dw, C9.wok, C9.hs, C9.ds, sok, C9.hb, C9.db, Nat.le_trans C9.lb (by decide), ex_l f15 hL5, dps_ex f15 dL5, by omega, sl, ex_l f15 hC5, dps_ex f15 dC5, by omega, scs, fun M6 cc2 f6 hc2 => ?_⟩
        have same : cc1 = cc2 := by
          cases cc1 with
          | true => exact (hc2.mpr (hc1.mp rfl)).symm
          | false =>
            cases cc2 with
            | false => rfl
            | true => exact (hc1.mpr (hc2.mp rfl))
        rw [same]
        refine ⟨rfl, ?_⟩
        rw [show decide (V.bl cc2 = V.bl cc2) = true from decide_eq_true rfl]
        exact k _
end
end EV

set_option Elab.async false
set_option linter.all false
set_option maxRecDepth 100000
set_option maxHeartbeats 4000000
namespace EV
open PySem PySem.Spec PyProof.Rows L2 EvS Evl
theorem all_mk {l : PySem.W.OpenLaw} {w : World} {K : PySem.W.Frag} {h : Heap} {mg : Str → Option Value} {fa C tl te pr D C_Question C_Paper f_check_winds f_check_rows f_spells_of f_ask te_ask f_ask_all te_ask_all f_least_minutes f_Question_init f_Question_is_ahead f_Question_through f_Question_catches f_Question_chain_to f_least_numbers f_most_numbers f_Paper_init f_paper f__labels_of f_check_paper f__keep_off f__hold_starts f__hold_links f__holds f__comes_to f__is_beginning f__follows f_is_name f__check_count f__check_names f__check_ends f__as_bounds f__as_link f__as_path f__check_single_paths f_init f_link_names f_check_place f_check_wind f_link f__law_row f__law_numbers f__law_pick f__law_names f__law_parts f__law_weather f__law_wind f__law_caught f__law_rows f__law_land f__law_case f__law_ends f__law_ahead f__law_is_chain f__law_bounds f__law_is_right f__law_spoilt f_law : Addr} (X : K.In h) (G : h.Ns mainGlobals mg) (hfa : mg "law" = some (.ref fa))
    {od_check_winds an_check_winds od_check_rows an_check_rows od_spells_of an_spells_of od_ask an_ask od_ask_all an_ask_all od_least_minutes an_least_minutes od_Question_init an_Question_init od_Question_is_ahead an_Question_is_ahead od_Question_through an_Question_through od_Question_catches an_Question_catches od_Question_chain_to an_Question_chain_to od_least_numbers an_least_numbers od_most_numbers an_most_numbers od_Paper_init an_Paper_init od_paper an_paper od__labels_of an__labels_of od_check_paper an_check_paper od__keep_off an__keep_off od__hold_starts an__hold_starts od__hold_links an__hold_links od__holds an__holds od__comes_to an__comes_to od__is_beginning an__is_beginning od__follows an__follows od_is_name an_is_name od__check_count an__check_count od__check_names an__check_names od__check_ends an__check_ends od__as_bounds an__as_bounds od__as_link an__as_link od__as_path an__as_path od__check_single_paths an__check_single_paths od_init an_init od_link_names an_link_names od_check_place an_check_place od_check_wind an_check_wind od_link an_link od__law_row an__law_row od__law_numbers an__law_numbers od__law_pick an__law_pick od__law_names an__law_names od__law_parts an__law_parts od__law_weather an__law_weather od__law_wind an__law_wind od__law_caught an__law_caught od__law_rows an__law_rows od__law_land an__law_land od__law_case an__law_case od__law_ends an__law_ends od__law_ahead an__law_ahead od__law_is_chain an__law_is_chain od__law_bounds an__law_bounds od__law_is_right an__law_is_right od__law_spoilt an__law_spoilt od_law an_law dd_tl dd_te : Option Addr} {sl_check_winds sl_check_rows sl_spells_of sl_ask sl_ask_all sl_least_minutes sl_Question_init sl_Question_is_ahead sl_Question_through sl_Question_catches sl_Question_chain_to sl_least_numbers sl_most_numbers sl_Paper_init sl_paper sl__labels_of sl_check_paper sl__keep_off sl__hold_starts sl__hold_links sl__holds sl__comes_to sl__is_beginning sl__follows sl_is_name sl__check_count sl__check_names sl__check_ends sl__as_bounds sl__as_link sl__as_path sl__check_single_paths sl_init sl_link_names sl_check_place sl_check_wind sl_link sl__law_row sl__law_numbers sl__law_pick sl__law_names sl__law_parts sl__law_weather sl__law_wind sl__law_caught sl__law_rows sl__law_land sl__law_case sl__law_ends sl__law_ahead sl__law_is_chain sl__law_bounds sl__law_is_right sl__law_spoilt sl_law sl_tl sl_te : Array (Option Value)} {oc_check_winds kV_check_winds dc_check_winds pm_check_winds cd_check_winds ct_check_winds oc_check_rows kV_check_rows dc_check_rows pm_check_rows cd_check_rows ct_check_rows oc_spells_of kV_spells_of dc_spells_of pm_spells_of cd_spells_of ct_spells_of oc_ask kV_ask dc_ask pm_ask cd_ask ct_ask oc_ask_all kV_ask_all dc_ask_all pm_ask_all cd_ask_all ct_ask_all oc_least_minutes kV_least_minutes dc_least_minutes pm_least_minutes cd_least_minutes ct_least_minutes oc_Question_init kV_Question_init dc_Question_init pm_Question_init cd_Question_init ct_Question_init oc_Question_is_ahead kV_Question_is_ahead dc_Question_is_ahead pm_Question_is_ahead cd_Question_is_ahead ct_Question_is_ahead oc_Question_through kV_Question_through dc_Question_through pm_Question_through cd_Question_through ct_Question_through oc_Question_catches kV_Question_catches dc_Question_catches pm_Question_catches cd_Question_catches ct_Question_catches oc_Question_chain_to kV_Question_chain_to dc_Question_chain_to pm_Question_chain_to cd_Question_chain_to ct_Question_chain_to oc_least_numbers kV_least_numbers dc_least_numbers pm_least_numbers cd_least_numbers ct_least_numbers oc_most_numbers kV_most_numbers dc_most_numbers pm_most_numbers cd_most_numbers ct_most_numbers oc_Paper_init kV_Paper_init dc_Paper_init pm_Paper_init cd_Paper_init ct_Paper_init oc_paper kV_paper dc_paper pm_paper cd_paper ct_paper oc__labels_of kV__labels_of dc__labels_of pm__labels_of cd__labels_of ct__labels_of oc_check_paper kV_check_paper dc_check_paper pm_check_paper cd_check_paper ct_check_paper oc__keep_off kV__keep_off dc__keep_off pm__keep_off cd__keep_off ct__keep_off oc__hold_starts kV__hold_starts dc__hold_starts pm__hold_starts cd__hold_starts ct__hold_starts oc__hold_links kV__hold_links dc__hold_links pm__hold_links cd__hold_links ct__hold_links oc__holds kV__holds dc__holds pm__holds cd__holds ct__holds oc__comes_to kV__comes_to dc__comes_to pm__comes_to cd__comes_to ct__comes_to oc__is_beginning kV__is_beginning dc__is_beginning pm__is_beginning cd__is_beginning ct__is_beginning oc__follows kV__follows dc__follows pm__follows cd__follows ct__follows oc_is_name kV_is_name dc_is_name pm_is_name cd_is_name ct_is_name oc__check_count kV__check_count dc__check_count pm__check_count cd__check_count ct__check_count oc__check_names kV__check_names dc__check_names pm__check_names cd__check_names ct__check_names oc__check_ends kV__check_ends dc__check_ends pm__check_ends cd__check_ends ct__check_ends oc__as_bounds kV__as_bounds dc__as_bounds pm__as_bounds cd__as_bounds ct__as_bounds oc__as_link kV__as_link dc__as_link pm__as_link cd__as_link ct__as_link oc__as_path kV__as_path dc__as_path pm__as_path cd__as_path ct__as_path oc__check_single_paths kV__check_single_paths dc__check_single_paths pm__check_single_paths cd__check_single_paths ct__check_single_paths oc_init dc_init pm_init cd_init ct_init oc_link_names kV_link_names dc_link_names pm_link_names cd_link_names ct_link_names oc_check_place kV_check_place dc_check_place pm_check_place cd_check_place ct_check_place oc_check_wind kV_check_wind dc_check_wind pm_check_wind cd_check_wind ct_check_wind oc_link kV_link dc_link pm_link cd_link ct_link oc__law_row kV__law_row dc__law_row pm__law_row cd__law_row ct__law_row oc__law_numbers kV__law_numbers dc__law_numbers pm__law_numbers cd__law_numbers ct__law_numbers oc__law_pick kV__law_pick dc__law_pick pm__law_pick cd__law_pick ct__law_pick oc__law_names kV__law_names dc__law_names pm__law_names cd__law_names ct__law_names oc__law_parts kV__law_parts dc__law_parts pm__law_parts cd__law_parts ct__law_parts oc__law_weather kV__law_weather dc__law_weather pm__law_weather cd__law_weather ct__law_weather oc__law_wind kV__law_wind dc__law_wind pm__law_wind cd__law_wind ct__law_wind oc__law_caught kV__law_caught dc__law_caught pm__law_caught cd__law_caught ct__law_caught oc__law_rows kV__law_rows dc__law_rows pm__law_rows cd__law_rows ct__law_rows oc__law_land kV__law_land dc__law_land pm__law_land cd__law_land ct__law_land oc__law_case kV__law_case dc__law_case pm__law_case cd__law_case ct__law_case oc__law_ends kV__law_ends dc__law_ends pm__law_ends cd__law_ends ct__law_ends oc__law_ahead kV__law_ahead dc__law_ahead pm__law_ahead cd__law_ahead ct__law_ahead oc__law_is_chain kV__law_is_chain dc__law_is_chain pm__law_is_chain cd__law_is_chain ct__law_is_chain oc__law_bounds kV__law_bounds dc__law_bounds pm__law_bounds cd__law_bounds ct__law_bounds oc__law_is_right kV__law_is_right dc__law_is_right pm__law_is_right cd__law_is_right ct__law_is_right oc__law_spoilt kV__law_spoilt dc__law_spoilt pm__law_spoilt cd__law_spoilt ct__law_spoilt oc_law kV_law dc_law pm_law cd_law ct_law : Value} {n_tl n_te : Nat} {rest_pr : List Value} {t_DIGITS t_LAST_CHANGE t_LETTERS t_LONGEST_NAME t_MAYBE t_MOST_LINKS t_MOST_MINUTES t_MOST_PATHS t_MOST_PLACES t_MOST_ROWS t_MOST_WINDS t_NEVER t_SURELY : Tok} {dT_ask : Addr} {dda_ask ddb_ask : Option Addr} {sla_ask slb_ask : Array (Option Value)} {na_ask nb_ask : Nat} {dT_ask_all : Addr} {dda_ask_all ddb_ask_all : Option Addr} {sla_ask_all slb_ask_all : Array (Option Value)} {na_ask_all nb_ask_all : Nat}
    (aC : PySem.W.nsIn K mainGlobals "Land" = some (some (.ref C)))
    (aC_Question : PySem.W.nsIn K mainGlobals "Question" = some (some (.ref C_Question)))
    (pg_C_Question : PySem.W.plainGet K C_Question Str.empty = true)
    (hd_C_Question : PySem.W.hasDictIn K C_Question = true)
    (po_C_Question : PySem.W.plainOver K C_Question = true)
    (sa_C_Question : PySem.W.findIn K (.ref C_Question) "__setattr__" = some (some (.builtin "object.__setattr__")))
    (mk_C_Question : PySem.W.makesIn K C_Question = true)
    (kc_C_Question : PySem.W.keepIn K (.ref C_Question) = true)
    (na_Question_land : PySem.W.findIn K (.ref C_Question) "land" = some none)
    (na_Question_weather : PySem.W.findIn K (.ref C_Question) "weather" = some none)
    (na_Question_starts : PySem.W.findIn K (.ref C_Question) "starts" = some none)
    (na_Question_breaks : PySem.W.findIn K (.ref C_Question) "breaks" = some none)
    (na_Question_spells : PySem.W.findIn K (.ref C_Question) "spells" = some none)
    (na_Question_stops : PySem.W.findIn K (.ref C_Question) "stops" = some none)
    (na_Question_leaving : PySem.W.findIn K (.ref C_Question) "leaving" = some none)
    (aC_Paper : PySem.W.nsIn K mainGlobals "Paper" = some (some (.ref C_Paper)))
    (pg_C_Paper : PySem.W.plainGet K C_Paper Str.empty = true)
    (hd_C_Paper : PySem.W.hasDictIn K C_Paper = true)
    (po_C_Paper : PySem.W.plainOver K C_Paper = true)
    (sa_C_Paper : PySem.W.findIn K (.ref C_Paper) "__setattr__" = some (some (.builtin "object.__setattr__")))
    (mk_C_Paper : PySem.W.makesIn K C_Paper = true)
    (kc_C_Paper : PySem.W.keepIn K (.ref C_Paper) = true)
    (ha_C_Paper : PySem.W.findIn K (.ref C_Paper) "__class__" = some (some (.builtin "object.__class__")))
    (hm_C_Paper : PySem.W.mroIn K C_Paper (.type "object") = some true)
    (hn_C_Paper : PySem.W.specialIn K (.builtin "object.__class__") "__get__" = some (some (.builtin "getset_descriptor.__get__")))
    (ht_C_Paper : PySem.W.takesIn K (.builtin "object.__class__") = some true)
    (ki_C_Paper : PySem.W.kitOne K (.ref C_Paper) (.ref C_Paper) = some true)
    (na_Paper_word : PySem.W.findIn K (.ref C_Paper) "word" = some none)
    (na_Paper_labels : PySem.W.findIn K (.ref C_Paper) "labels" = some none)
    (na_Paper_chain : PySem.W.findIn K (.ref C_Paper) "chain" = some none)
    (a_check_winds : PySem.W.nsIn K mainGlobals "check_winds" = some (some (.ref f_check_winds)))
    (l_check_winds : K.lookup f_check_winds = some ⟨oc_check_winds, od_check_winds, .func (PySem.W.fnOf "check_winds" "check_winds" (defArgs s_check_winds) (defBody s_check_winds) (defScope s_check_winds) .none kV_check_winds dc_check_winds pm_check_winds an_check_winds cd_check_winds ct_check_winds), sl_check_winds⟩)
    (c_check_winds : PySem.W.codeIn K cd_check_winds "check_winds" = true)
    (k_check_winds : PySem.W.keepIn K (.ref f_check_winds) = true)
    (a_check_rows : PySem.W.nsIn K mainGlobals "check_rows" = some (some (.ref f_check_rows)))
    (l_check_rows : K.lookup f_check_rows = some ⟨oc_check_rows, od_check_rows, .func (PySem.W.fnOf "check_rows" "check_rows" (defArgs s_check_rows) (defBody s_check_rows) (defScope s_check_rows) .none kV_check_rows dc_check_rows pm_check_rows an_check_rows cd_check_rows ct_check_rows), sl_check_rows⟩)
    (c_check_rows : PySem.W.codeIn K cd_check_rows "check_rows" = true)
    (k_check_rows : PySem.W.keepIn K (.ref f_check_rows) = true)
    (a_spells_of : PySem.W.nsIn K mainGlobals "spells_of" = some (some (.ref f_spells_of)))
    (l_spells_of : K.lookup f_spells_of = some ⟨oc_spells_of, od_spells_of, .func (PySem.W.fnOf "spells_of" "spells_of" (defArgs s_spells_of) (defBody s_spells_of) (defScope s_spells_of) .none kV_spells_of dc_spells_of pm_spells_of an_spells_of cd_spells_of ct_spells_of), sl_spells_of⟩)
    (c_spells_of : PySem.W.codeIn K cd_spells_of "spells_of" = true)
    (k_spells_of : PySem.W.keepIn K (.ref f_spells_of) = true)
    (a_ask : PySem.W.nsIn K mainGlobals "ask" = some (some (.ref f_ask)))
    (l_ask : K.lookup f_ask = some ⟨oc_ask, od_ask, .func (PySem.W.fnOf "ask" "ask" (defArgs s_ask) (defBody s_ask) (defScope s_ask) (.ref dT_ask) kV_ask dc_ask pm_ask an_ask cd_ask ct_ask), sl_ask⟩)
    (dt1_ask : K.lookup dT_ask = some ⟨.type "tuple", dda_ask, .seq #[.ref te_ask] na_ask, sla_ask⟩)
    (dt2_ask : K.lookup te_ask = some ⟨.type "tuple", ddb_ask, .seq #[] nb_ask, slb_ask⟩)
    (c_ask : PySem.W.codeIn K cd_ask "ask" = true)
    (k_ask : PySem.W.keepIn K (.ref f_ask) = true)
    (a_ask_all : PySem.W.nsIn K mainGlobals "ask_all" = some (some (.ref f_ask_all)))
    (l_ask_all : K.lookup f_ask_all = some ⟨oc_ask_all, od_ask_all, .func (PySem.W.fnOf "ask_all" "ask_all" (defArgs s_ask_all) (defBody s_ask_all) (defScope s_ask_all) (.ref dT_ask_all) kV_ask_all dc_ask_all pm_ask_all an_ask_all cd_ask_all ct_ask_all), sl_ask_all⟩)
    (dt1_ask_all : K.lookup dT_ask_all = some ⟨.type "tuple", dda_ask_all, .seq #[.ref te_ask_all] na_ask_all, sla_ask_all⟩)
    (dt2_ask_all : K.lookup te_ask_all = some ⟨.type "tuple", ddb_ask_all, .seq #[] nb_ask_all, slb_ask_all⟩)
    (c_ask_all : PySem.W.codeIn K cd_ask_all "ask_all" = true)
    (k_ask_all : PySem.W.keepIn K (.ref f_ask_all) = true)
    (a_least_minutes : PySem.W.nsIn K mainGlobals "least_minutes" = some (some (.ref f_least_minutes)))
    (l_least_minutes : K.lookup f_least_minutes = some ⟨oc_least_minutes, od_least_minutes, .func (PySem.W.fnOf "least_minutes" "least_minutes" (defArgs s_least_minutes) (defBody s_least_minutes) (defScope s_least_minutes) .none kV_least_minutes dc_least_minutes pm_least_minutes an_least_minutes cd_least_minutes ct_least_minutes), sl_least_minutes⟩)
    (c_least_minutes : PySem.W.codeIn K cd_least_minutes "least_minutes" = true)
    (k_least_minutes : PySem.W.keepIn K (.ref f_least_minutes) = true)
    (a_Question_init : PySem.W.findIn K (.ref C_Question) "__init__" = some (some (.ref f_Question_init)))
    (i_Question_init : PySem.W.isFn K (.ref f_Question_init) = true)
    (l_Question_init : K.lookup f_Question_init = some ⟨oc_Question_init, od_Question_init, .func (PySem.W.fnOf "__init__" "Question.__init__" (defArgs s_Question_init) (defBody s_Question_init) (defScope s_Question_init) .none kV_Question_init dc_Question_init pm_Question_init an_Question_init cd_Question_init ct_Question_init), sl_Question_init⟩)
    (c_Question_init : PySem.W.codeIn K cd_Question_init "Question.__init__" = true)
    (k_Question_init : PySem.W.keepIn K (.ref f_Question_init) = true)
    (a_Question_is_ahead : PySem.W.findIn K (.ref C_Question) "is_ahead" = some (some (.ref f_Question_is_ahead)))
    (i_Question_is_ahead : PySem.W.isFn K (.ref f_Question_is_ahead) = true)
    (l_Question_is_ahead : K.lookup f_Question_is_ahead = some ⟨oc_Question_is_ahead, od_Question_is_ahead, .func (PySem.W.fnOf "is_ahead" "Question.is_ahead" (defArgs s_Question_is_ahead) (defBody s_Question_is_ahead) (defScope s_Question_is_ahead) .none kV_Question_is_ahead dc_Question_is_ahead pm_Question_is_ahead an_Question_is_ahead cd_Question_is_ahead ct_Question_is_ahead), sl_Question_is_ahead⟩)
    (c_Question_is_ahead : PySem.W.codeIn K cd_Question_is_ahead "Question.is_ahead" = true)
    (k_Question_is_ahead : PySem.W.keepIn K (.ref f_Question_is_ahead) = true)
    (a_Question_through : PySem.W.findIn K (.ref C_Question) "through" = some (some (.ref f_Question_through)))
    (i_Question_through : PySem.W.isFn K (.ref f_Question_through) = true)
    (l_Question_through : K.lookup f_Question_through = some ⟨oc_Question_through, od_Question_through, .func (PySem.W.fnOf "through" "Question.through" (defArgs s_Question_through) (defBody s_Question_through) (defScope s_Question_through) .none kV_Question_through dc_Question_through pm_Question_through an_Question_through cd_Question_through ct_Question_through), sl_Question_through⟩)
    (c_Question_through : PySem.W.codeIn K cd_Question_through "Question.through" = true)
    (k_Question_through : PySem.W.keepIn K (.ref f_Question_through) = true)
    (a_Question_catches : PySem.W.findIn K (.ref C_Question) "catches" = some (some (.ref f_Question_catches)))
    (i_Question_catches : PySem.W.isFn K (.ref f_Question_catches) = true)
    (l_Question_catches : K.lookup f_Question_catches = some ⟨oc_Question_catches, od_Question_catches, .func (PySem.W.fnOf "catches" "Question.catches" (defArgs s_Question_catches) (defBody s_Question_catches) (defScope s_Question_catches) .none kV_Question_catches dc_Question_catches pm_Question_catches an_Question_catches cd_Question_catches ct_Question_catches), sl_Question_catches⟩)
    (c_Question_catches : PySem.W.codeIn K cd_Question_catches "Question.catches" = true)
    (k_Question_catches : PySem.W.keepIn K (.ref f_Question_catches) = true)
    (a_Question_chain_to : PySem.W.findIn K (.ref C_Question) "chain_to" = some (some (.ref f_Question_chain_to)))
    (i_Question_chain_to : PySem.W.isFn K (.ref f_Question_chain_to) = true)
    (l_Question_chain_to : K.lookup f_Question_chain_to = some ⟨oc_Question_chain_to, od_Question_chain_to, .func (PySem.W.fnOf "chain_to" "Question.chain_to" (defArgs s_Question_chain_to) (defBody s_Question_chain_to) (defScope s_Question_chain_to) .none kV_Question_chain_to dc_Question_chain_to pm_Question_chain_to an_Question_chain_to cd_Question_chain_to ct_Question_chain_to), sl_Question_chain_to⟩)
    (c_Question_chain_to : PySem.W.codeIn K cd_Question_chain_to "Question.chain_to" = true)
    (k_Question_chain_to : PySem.W.keepIn K (.ref f_Question_chain_to) = true)
    (a_least_numbers : PySem.W.nsIn K mainGlobals "least_numbers" = some (some (.ref f_least_numbers)))
    (l_least_numbers : K.lookup f_least_numbers = some ⟨oc_least_numbers, od_least_numbers, .func (PySem.W.fnOf "least_numbers" "least_numbers" (defArgs s_least_numbers) (defBody s_least_numbers) (defScope s_least_numbers) .none kV_least_numbers dc_least_numbers pm_least_numbers an_least_numbers cd_least_numbers ct_least_numbers), sl_least_numbers⟩)
    (c_least_numbers : PySem.W.codeIn K cd_least_numbers "least_numbers" = true)
    (k_least_numbers : PySem.W.keepIn K (.ref f_least_numbers) = true)
    (a_most_numbers : PySem.W.nsIn K mainGlobals "most_numbers" = some (some (.ref f_most_numbers)))
    (l_most_numbers : K.lookup f_most_numbers = some ⟨oc_most_numbers, od_most_numbers, .func (PySem.W.fnOf "most_numbers" "most_numbers" (defArgs s_most_numbers) (defBody s_most_numbers) (defScope s_most_numbers) .none kV_most_numbers dc_most_numbers pm_most_numbers an_most_numbers cd_most_numbers ct_most_numbers), sl_most_numbers⟩)
    (c_most_numbers : PySem.W.codeIn K cd_most_numbers "most_numbers" = true)
    (k_most_numbers : PySem.W.keepIn K (.ref f_most_numbers) = true)
    (a_Paper_init : PySem.W.findIn K (.ref C_Paper) "__init__" = some (some (.ref f_Paper_init)))
    (i_Paper_init : PySem.W.isFn K (.ref f_Paper_init) = true)
    (l_Paper_init : K.lookup f_Paper_init = some ⟨oc_Paper_init, od_Paper_init, .func (PySem.W.fnOf "__init__" "Paper.__init__" (defArgs s_Paper_init) (defBody s_Paper_init) (defScope s_Paper_init) .none kV_Paper_init dc_Paper_init pm_Paper_init an_Paper_init cd_Paper_init ct_Paper_init), sl_Paper_init⟩)
    (c_Paper_init : PySem.W.codeIn K cd_Paper_init "Paper.__init__" = true)
    (k_Paper_init : PySem.W.keepIn K (.ref f_Paper_init) = true)
    (a_paper : PySem.W.nsIn K mainGlobals "paper" = some (some (.ref f_paper)))
    (l_paper : K.lookup f_paper = some ⟨oc_paper, od_paper, .func (PySem.W.fnOf "paper" "paper" (defArgs s_paper) (defBody s_paper) (defScope s_paper) .none kV_paper dc_paper pm_paper an_paper cd_paper ct_paper), sl_paper⟩)
    (c_paper : PySem.W.codeIn K cd_paper "paper" = true)
    (k_paper : PySem.W.keepIn K (.ref f_paper) = true)
    (a__labels_of : PySem.W.nsIn K mainGlobals "_labels_of" = some (some (.ref f__labels_of)))
    (l__labels_of : K.lookup f__labels_of = some ⟨oc__labels_of, od__labels_of, .func (PySem.W.fnOf "_labels_of" "_labels_of" (defArgs s__labels_of) (defBody s__labels_of) (defScope s__labels_of) .none kV__labels_of dc__labels_of pm__labels_of an__labels_of cd__labels_of ct__labels_of), sl__labels_of⟩)
    (c__labels_of : PySem.W.codeIn K cd__labels_of "_labels_of" = true)
    (k__labels_of : PySem.W.keepIn K (.ref f__labels_of) = true)
    (a_check_paper : PySem.W.nsIn K mainGlobals "check_paper" = some (some (.ref f_check_paper)))
    (l_check_paper : K.lookup f_check_paper = some ⟨oc_check_paper, od_check_paper, .func (PySem.W.fnOf "check_paper" "check_paper" (defArgs s_check_paper) (defBody s_check_paper) (defScope s_check_paper) .none kV_check_paper dc_check_paper pm_check_paper an_check_paper cd_check_paper ct_check_paper), sl_check_paper⟩)
    (c_check_paper : PySem.W.codeIn K cd_check_paper "check_paper" = true)
    (k_check_paper : PySem.W.keepIn K (.ref f_check_paper) = true)
    (a__keep_off : PySem.W.nsIn K mainGlobals "_keep_off" = some (some (.ref f__keep_off)))
    (l__keep_off : K.lookup f__keep_off = some ⟨oc__keep_off, od__keep_off, .func (PySem.W.fnOf "_keep_off" "_keep_off" (defArgs s__keep_off) (defBody s__keep_off) (defScope s__keep_off) .none kV__keep_off dc__keep_off pm__keep_off an__keep_off cd__keep_off ct__keep_off), sl__keep_off⟩)
    (c__keep_off : PySem.W.codeIn K cd__keep_off "_keep_off" = true)
    (k__keep_off : PySem.W.keepIn K (.ref f__keep_off) = true)
    (a__hold_starts : PySem.W.nsIn K mainGlobals "_hold_starts" = some (some (.ref f__hold_starts)))
    (l__hold_starts : K.lookup f__hold_starts = some ⟨oc__hold_starts, od__hold_starts, .func (PySem.W.fnOf "_hold_starts" "_hold_starts" (defArgs s__hold_starts) (defBody s__hold_starts) (defScope s__hold_starts) .none kV__hold_starts dc__hold_starts pm__hold_starts an__hold_starts cd__hold_starts ct__hold_starts), sl__hold_starts⟩)
    (c__hold_starts : PySem.W.codeIn K cd__hold_starts "_hold_starts" = true)
    (k__hold_starts : PySem.W.keepIn K (.ref f__hold_starts) = true)
    (a__hold_links : PySem.W.nsIn K mainGlobals "_hold_links" = some (some (.ref f__hold_links)))
    (l__hold_links : K.lookup f__hold_links = some ⟨oc__hold_links, od__hold_links, .func (PySem.W.fnOf "_hold_links" "_hold_links" (defArgs s__hold_links) (defBody s__hold_links) (defScope s__hold_links) .none kV__hold_links dc__hold_links pm__hold_links an__hold_links cd__hold_links ct__hold_links), sl__hold_links⟩)
    (c__hold_links : PySem.W.codeIn K cd__hold_links "_hold_links" = true)
    (k__hold_links : PySem.W.keepIn K (.ref f__hold_links) = true)
    (a__holds : PySem.W.nsIn K mainGlobals "_holds" = some (some (.ref f__holds)))
    (l__holds : K.lookup f__holds = some ⟨oc__holds, od__holds, .func (PySem.W.fnOf "_holds" "_holds" (defArgs s__holds) (defBody s__holds) (defScope s__holds) .none kV__holds dc__holds pm__holds an__holds cd__holds ct__holds), sl__holds⟩)
    (c__holds : PySem.W.codeIn K cd__holds "_holds" = true)
    (k__holds : PySem.W.keepIn K (.ref f__holds) = true)
    (a__comes_to : PySem.W.nsIn K mainGlobals "_comes_to" = some (some (.ref f__comes_to)))
    (l__comes_to : K.lookup f__comes_to = some ⟨oc__comes_to, od__comes_to, .func (PySem.W.fnOf "_comes_to" "_comes_to" (defArgs s__comes_to) (defBody s__comes_to) (defScope s__comes_to) .none kV__comes_to dc__comes_to pm__comes_to an__comes_to cd__comes_to ct__comes_to), sl__comes_to⟩)
    (c__comes_to : PySem.W.codeIn K cd__comes_to "_comes_to" = true)
    (k__comes_to : PySem.W.keepIn K (.ref f__comes_to) = true)
    (a__is_beginning : PySem.W.nsIn K mainGlobals "_is_beginning" = some (some (.ref f__is_beginning)))
    (l__is_beginning : K.lookup f__is_beginning = some ⟨oc__is_beginning, od__is_beginning, .func (PySem.W.fnOf "_is_beginning" "_is_beginning" (defArgs s__is_beginning) (defBody s__is_beginning) (defScope s__is_beginning) .none kV__is_beginning dc__is_beginning pm__is_beginning an__is_beginning cd__is_beginning ct__is_beginning), sl__is_beginning⟩)
    (c__is_beginning : PySem.W.codeIn K cd__is_beginning "_is_beginning" = true)
    (k__is_beginning : PySem.W.keepIn K (.ref f__is_beginning) = true)
    (a__follows : PySem.W.nsIn K mainGlobals "_follows" = some (some (.ref f__follows)))
    (l__follows : K.lookup f__follows = some ⟨oc__follows, od__follows, .func (PySem.W.fnOf "_follows" "_follows" (defArgs s__follows) (defBody s__follows) (defScope s__follows) .none kV__follows dc__follows pm__follows an__follows cd__follows ct__follows), sl__follows⟩)
    (c__follows : PySem.W.codeIn K cd__follows "_follows" = true)
    (k__follows : PySem.W.keepIn K (.ref f__follows) = true)
    (a_is_name : PySem.W.nsIn K mainGlobals "is_name" = some (some (.ref f_is_name)))
    (l_is_name : K.lookup f_is_name = some ⟨oc_is_name, od_is_name, .func (PySem.W.fnOf "is_name" "is_name" (defArgs s_is_name) (defBody s_is_name) (defScope s_is_name) .none kV_is_name dc_is_name pm_is_name an_is_name cd_is_name ct_is_name), sl_is_name⟩)
    (c_is_name : PySem.W.codeIn K cd_is_name "is_name" = true)
    (k_is_name : PySem.W.keepIn K (.ref f_is_name) = true)
    (a__check_count : PySem.W.nsIn K mainGlobals "_check_count" = some (some (.ref f__check_count)))
    (l__check_count : K.lookup f__check_count = some ⟨oc__check_count, od__check_count, .func (PySem.W.fnOf "_check_count" "_check_count" (defArgs s__check_count) (defBody s__check_count) (defScope s__check_count) .none kV__check_count dc__check_count pm__check_count an__check_count cd__check_count ct__check_count), sl__check_count⟩)
    (c__check_count : PySem.W.codeIn K cd__check_count "_check_count" = true)
    (k__check_count : PySem.W.keepIn K (.ref f__check_count) = true)
    (a__check_names : PySem.W.nsIn K mainGlobals "_check_names" = some (some (.ref f__check_names)))
    (l__check_names : K.lookup f__check_names = some ⟨oc__check_names, od__check_names, .func (PySem.W.fnOf "_check_names" "_check_names" (defArgs s__check_names) (defBody s__check_names) (defScope s__check_names) .none kV__check_names dc__check_names pm__check_names an__check_names cd__check_names ct__check_names), sl__check_names⟩)
    (c__check_names : PySem.W.codeIn K cd__check_names "_check_names" = true)
    (k__check_names : PySem.W.keepIn K (.ref f__check_names) = true)
    (a__check_ends : PySem.W.nsIn K mainGlobals "_check_ends" = some (some (.ref f__check_ends)))
    (l__check_ends : K.lookup f__check_ends = some ⟨oc__check_ends, od__check_ends, .func (PySem.W.fnOf "_check_ends" "_check_ends" (defArgs s__check_ends) (defBody s__check_ends) (defScope s__check_ends) .none kV__check_ends dc__check_ends pm__check_ends an__check_ends cd__check_ends ct__check_ends), sl__check_ends⟩)
    (c__check_ends : PySem.W.codeIn K cd__check_ends "_check_ends" = true)
    (k__check_ends : PySem.W.keepIn K (.ref f__check_ends) = true)
    (a__as_bounds : PySem.W.nsIn K mainGlobals "_as_bounds" = some (some (.ref f__as_bounds)))
    (l__as_bounds : K.lookup f__as_bounds = some ⟨oc__as_bounds, od__as_bounds, .func (PySem.W.fnOf "_as_bounds" "_as_bounds" (defArgs s__as_bounds) (defBody s__as_bounds) (defScope s__as_bounds) .none kV__as_bounds dc__as_bounds pm__as_bounds an__as_bounds cd__as_bounds ct__as_bounds), sl__as_bounds⟩)
    (c__as_bounds : PySem.W.codeIn K cd__as_bounds "_as_bounds" = true)
    (k__as_bounds : PySem.W.keepIn K (.ref f__as_bounds) = true)
    (a__as_link : PySem.W.nsIn K mainGlobals "_as_link" = some (some (.ref f__as_link)))
    (l__as_link : K.lookup f__as_link = some ⟨oc__as_link, od__as_link, .func (PySem.W.fnOf "_as_link" "_as_link" (defArgs s__as_link) (defBody s__as_link) (defScope s__as_link) .none kV__as_link dc__as_link pm__as_link an__as_link cd__as_link ct__as_link), sl__as_link⟩)
    (c__as_link : PySem.W.codeIn K cd__as_link "_as_link" = true)
    (k__as_link : PySem.W.keepIn K (.ref f__as_link) = true)
    (a__as_path : PySem.W.nsIn K mainGlobals "_as_path" = some (some (.ref f__as_path)))
    (l__as_path : K.lookup f__as_path = some ⟨oc__as_path, od__as_path, .func (PySem.W.fnOf "_as_path" "_as_path" (defArgs s__as_path) (defBody s__as_path) (defScope s__as_path) .none kV__as_path dc__as_path pm__as_path an__as_path cd__as_path ct__as_path), sl__as_path⟩)
    (c__as_path : PySem.W.codeIn K cd__as_path "_as_path" = true)
    (k__as_path : PySem.W.keepIn K (.ref f__as_path) = true)
    (a__check_single_paths : PySem.W.nsIn K mainGlobals "_check_single_paths" = some (some (.ref f__check_single_paths)))
    (l__check_single_paths : K.lookup f__check_single_paths = some ⟨oc__check_single_paths, od__check_single_paths, .func (PySem.W.fnOf "_check_single_paths" "_check_single_paths" (defArgs s__check_single_paths) (defBody s__check_single_paths) (defScope s__check_single_paths) .none kV__check_single_paths dc__check_single_paths pm__check_single_paths an__check_single_paths cd__check_single_paths ct__check_single_paths), sl__check_single_paths⟩)
    (c__check_single_paths : PySem.W.codeIn K cd__check_single_paths "_check_single_paths" = true)
    (k__check_single_paths : PySem.W.keepIn K (.ref f__check_single_paths) = true)
    (a_init : PySem.W.findIn K (.ref C) "__init__" = some (some (.ref f_init)))
    (i_init : PySem.W.isFn K (.ref f_init) = true)
    (l_init : K.lookup f_init = some ⟨oc_init, od_init, .func (PySem.W.fnOf "__init__" "Land.__init__" (defArgs s_init) (defBody s_init) (defScope s_init) .none (.ref D) dc_init pm_init an_init cd_init ct_init), sl_init⟩)
    (c_init : PySem.W.codeIn K cd_init "Land.__init__" = true)
    (k_init : PySem.W.keepIn K (.ref f_init) = true)
    (tl1 : PySem.W.nsIn K D "links" = some (some (.ref tl)))
    (te1 : PySem.W.nsIn K D "paths" = some (some (.ref te)))
    (tl2 : K.lookup tl = some ⟨.type "tuple", dd_tl, .seq #[] n_tl, sl_tl⟩)
    (te2 : K.lookup te = some ⟨.type "tuple", dd_te, .seq #[] n_te, sl_te⟩)
    (pr1 : PySem.W.findIn K (.ref C) "link_names" = some (some (.ref pr)))
    (pr2 : PySem.W.specialIn K (.ref pr) "__get__" = some (some (.builtin "property.__get__")))
    (pr3 : PySem.W.takesIn K (.ref pr) = some true)
    (pr4 : PySem.W.recIn K pr "property" = some (.ref f_link_names :: rest_pr))
    (l_link_names : K.lookup f_link_names = some ⟨oc_link_names, od_link_names, .func (PySem.W.fnOf "link_names" "Land.link_names" (defArgs s_link_names) (defBody s_link_names) (defScope s_link_names) .none kV_link_names dc_link_names pm_link_names an_link_names cd_link_names ct_link_names), sl_link_names⟩)
    (c_link_names : PySem.W.codeIn K cd_link_names "Land.link_names" = true)
    (k_link_names : PySem.W.keepIn K (.ref f_link_names) = true)
    (a_check_place : PySem.W.findIn K (.ref C) "check_place" = some (some (.ref f_check_place)))
    (i_check_place : PySem.W.isFn K (.ref f_check_place) = true)
    (l_check_place : K.lookup f_check_place = some ⟨oc_check_place, od_check_place, .func (PySem.W.fnOf "check_place" "Land.check_place" (defArgs s_check_place) (defBody s_check_place) (defScope s_check_place) .none kV_check_place dc_check_place pm_check_place an_check_place cd_check_place ct_check_place), sl_check_place⟩)
    (c_check_place : PySem.W.codeIn K cd_check_place "Land.check_place" = true)
    (k_check_place : PySem.W.keepIn K (.ref f_check_place) = true)
    (a_check_wind : PySem.W.findIn K (.ref C) "check_wind" = some (some (.ref f_check_wind)))
    (i_check_wind : PySem.W.isFn K (.ref f_check_wind) = true)
    (l_check_wind : K.lookup f_check_wind = some ⟨oc_check_wind, od_check_wind, .func (PySem.W.fnOf "check_wind" "Land.check_wind" (defArgs s_check_wind) (defBody s_check_wind) (defScope s_check_wind) .none kV_check_wind dc_check_wind pm_check_wind an_check_wind cd_check_wind ct_check_wind), sl_check_wind⟩)
    (c_check_wind : PySem.W.codeIn K cd_check_wind "Land.check_wind" = true)
    (k_check_wind : PySem.W.keepIn K (.ref f_check_wind) = true)
    (a_link : PySem.W.findIn K (.ref C) "link" = some (some (.ref f_link)))
    (i_link : PySem.W.isFn K (.ref f_link) = true)
    (l_link : K.lookup f_link = some ⟨oc_link, od_link, .func (PySem.W.fnOf "link" "Land.link" (defArgs s_link) (defBody s_link) (defScope s_link) .none kV_link dc_link pm_link an_link cd_link ct_link), sl_link⟩)
    (c_link : PySem.W.codeIn K cd_link "Land.link" = true)
    (k_link : PySem.W.keepIn K (.ref f_link) = true)
    (a__law_row : PySem.W.nsIn K mainGlobals "_law_row" = some (some (.ref f__law_row)))
    (l__law_row : K.lookup f__law_row = some ⟨oc__law_row, od__law_row, .func (PySem.W.fnOf "_law_row" "_law_row" (defArgs s__law_row) (defBody s__law_row) (defScope s__law_row) .none kV__law_row dc__law_row pm__law_row an__law_row cd__law_row ct__law_row), sl__law_row⟩)
    (c__law_row : PySem.W.codeIn K cd__law_row "_law_row" = true)
    (k__law_row : PySem.W.keepIn K (.ref f__law_row) = true)
    (a__law_numbers : PySem.W.nsIn K mainGlobals "_law_numbers" = some (some (.ref f__law_numbers)))
    (l__law_numbers : K.lookup f__law_numbers = some ⟨oc__law_numbers, od__law_numbers, .func (PySem.W.fnOf "_law_numbers" "_law_numbers" (defArgs s__law_numbers) (defBody s__law_numbers) (defScope s__law_numbers) .none kV__law_numbers dc__law_numbers pm__law_numbers an__law_numbers cd__law_numbers ct__law_numbers), sl__law_numbers⟩)
    (c__law_numbers : PySem.W.codeIn K cd__law_numbers "_law_numbers" = true)
    (k__law_numbers : PySem.W.keepIn K (.ref f__law_numbers) = true)
    (a__law_pick : PySem.W.nsIn K mainGlobals "_law_pick" = some (some (.ref f__law_pick)))
    (l__law_pick : K.lookup f__law_pick = some ⟨oc__law_pick, od__law_pick, .func (PySem.W.fnOf "_law_pick" "_law_pick" (defArgs s__law_pick) (defBody s__law_pick) (defScope s__law_pick) .none kV__law_pick dc__law_pick pm__law_pick an__law_pick cd__law_pick ct__law_pick), sl__law_pick⟩)
    (c__law_pick : PySem.W.codeIn K cd__law_pick "_law_pick" = true)
    (k__law_pick : PySem.W.keepIn K (.ref f__law_pick) = true)
    (a__law_names : PySem.W.nsIn K mainGlobals "_law_names" = some (some (.ref f__law_names)))
    (l__law_names : K.lookup f__law_names = some ⟨oc__law_names, od__law_names, .func (PySem.W.fnOf "_law_names" "_law_names" (defArgs s__law_names) (defBody s__law_names) (defScope s__law_names) .none kV__law_names dc__law_names pm__law_names an__law_names cd__law_names ct__law_names), sl__law_names⟩)
    (c__law_names : PySem.W.codeIn K cd__law_names "_law_names" = true)
    (k__law_names : PySem.W.keepIn K (.ref f__law_names) = true)
    (a__law_parts : PySem.W.nsIn K mainGlobals "_law_parts" = some (some (.ref f__law_parts)))
    (l__law_parts : K.lookup f__law_parts = some ⟨oc__law_parts, od__law_parts, .func (PySem.W.fnOf "_law_parts" "_law_parts" (defArgs s__law_parts) (defBody s__law_parts) (defScope s__law_parts) .none kV__law_parts dc__law_parts pm__law_parts an__law_parts cd__law_parts ct__law_parts), sl__law_parts⟩)
    (c__law_parts : PySem.W.codeIn K cd__law_parts "_law_parts" = true)
    (k__law_parts : PySem.W.keepIn K (.ref f__law_parts) = true)
    (a__law_weather : PySem.W.nsIn K mainGlobals "_law_weather" = some (some (.ref f__law_weather)))
    (l__law_weather : K.lookup f__law_weather = some ⟨oc__law_weather, od__law_weather, .func (PySem.W.fnOf "_law_weather" "_law_weather" (defArgs s__law_weather) (defBody s__law_weather) (defScope s__law_weather) .none kV__law_weather dc__law_weather pm__law_weather an__law_weather cd__law_weather ct__law_weather), sl__law_weather⟩)
    (c__law_weather : PySem.W.codeIn K cd__law_weather "_law_weather" = true)
    (k__law_weather : PySem.W.keepIn K (.ref f__law_weather) = true)
    (a__law_wind : PySem.W.nsIn K mainGlobals "_law_wind" = some (some (.ref f__law_wind)))
    (l__law_wind : K.lookup f__law_wind = some ⟨oc__law_wind, od__law_wind, .func (PySem.W.fnOf "_law_wind" "_law_wind" (defArgs s__law_wind) (defBody s__law_wind) (defScope s__law_wind) .none kV__law_wind dc__law_wind pm__law_wind an__law_wind cd__law_wind ct__law_wind), sl__law_wind⟩)
    (c__law_wind : PySem.W.codeIn K cd__law_wind "_law_wind" = true)
    (k__law_wind : PySem.W.keepIn K (.ref f__law_wind) = true)
    (a__law_caught : PySem.W.nsIn K mainGlobals "_law_caught" = some (some (.ref f__law_caught)))
    (l__law_caught : K.lookup f__law_caught = some ⟨oc__law_caught, od__law_caught, .func (PySem.W.fnOf "_law_caught" "_law_caught" (defArgs s__law_caught) (defBody s__law_caught) (defScope s__law_caught) .none kV__law_caught dc__law_caught pm__law_caught an__law_caught cd__law_caught ct__law_caught), sl__law_caught⟩)
    (c__law_caught : PySem.W.codeIn K cd__law_caught "_law_caught" = true)
    (k__law_caught : PySem.W.keepIn K (.ref f__law_caught) = true)
    (a__law_rows : PySem.W.nsIn K mainGlobals "_law_rows" = some (some (.ref f__law_rows)))
    (l__law_rows : K.lookup f__law_rows = some ⟨oc__law_rows, od__law_rows, .func (PySem.W.fnOf "_law_rows" "_law_rows" (defArgs s__law_rows) (defBody s__law_rows) (defScope s__law_rows) .none kV__law_rows dc__law_rows pm__law_rows an__law_rows cd__law_rows ct__law_rows), sl__law_rows⟩)
    (c__law_rows : PySem.W.codeIn K cd__law_rows "_law_rows" = true)
    (k__law_rows : PySem.W.keepIn K (.ref f__law_rows) = true)
    (a__law_land : PySem.W.nsIn K mainGlobals "_law_land" = some (some (.ref f__law_land)))
    (l__law_land : K.lookup f__law_land = some ⟨oc__law_land, od__law_land, .func (PySem.W.fnOf "_law_land" "_law_land" (defArgs s__law_land) (defBody s__law_land) (defScope s__law_land) .none kV__law_land dc__law_land pm__law_land an__law_land cd__law_land ct__law_land), sl__law_land⟩)
    (c__law_land : PySem.W.codeIn K cd__law_land "_law_land" = true)
    (k__law_land : PySem.W.keepIn K (.ref f__law_land) = true)
    (a__law_case : PySem.W.nsIn K mainGlobals "_law_case" = some (some (.ref f__law_case)))
    (l__law_case : K.lookup f__law_case = some ⟨oc__law_case, od__law_case, .func (PySem.W.fnOf "_law_case" "_law_case" (defArgs s__law_case) (defBody s__law_case) (defScope s__law_case) .none kV__law_case dc__law_case pm__law_case an__law_case cd__law_case ct__law_case), sl__law_case⟩)
    (c__law_case : PySem.W.codeIn K cd__law_case "_law_case" = true)
    (k__law_case : PySem.W.keepIn K (.ref f__law_case) = true)
    (a__law_ends : PySem.W.nsIn K mainGlobals "_law_ends" = some (some (.ref f__law_ends)))
    (l__law_ends : K.lookup f__law_ends = some ⟨oc__law_ends, od__law_ends, .func (PySem.W.fnOf "_law_ends" "_law_ends" (defArgs s__law_ends) (defBody s__law_ends) (defScope s__law_ends) .none kV__law_ends dc__law_ends pm__law_ends an__law_ends cd__law_ends ct__law_ends), sl__law_ends⟩)
    (c__law_ends : PySem.W.codeIn K cd__law_ends "_law_ends" = true)
    (k__law_ends : PySem.W.keepIn K (.ref f__law_ends) = true)
    (a__law_ahead : PySem.W.nsIn K mainGlobals "_law_ahead" = some (some (.ref f__law_ahead)))
    (l__law_ahead : K.lookup f__law_ahead = some ⟨oc__law_ahead, od__law_ahead, .func (PySem.W.fnOf "_law_ahead" "_law_ahead" (defArgs s__law_ahead) (defBody s__law_ahead) (defScope s__law_ahead) .none kV__law_ahead dc__law_ahead pm__law_ahead an__law_ahead cd__law_ahead ct__law_ahead), sl__law_ahead⟩)
    (c__law_ahead : PySem.W.codeIn K cd__law_ahead "_law_ahead" = true)
    (k__law_ahead : PySem.W.keepIn K (.ref f__law_ahead) = true)
    (a__law_is_chain : PySem.W.nsIn K mainGlobals "_law_is_chain" = some (some (.ref f__law_is_chain)))
    (l__law_is_chain : K.lookup f__law_is_chain = some ⟨oc__law_is_chain, od__law_is_chain, .func (PySem.W.fnOf "_law_is_chain" "_law_is_chain" (defArgs s__law_is_chain) (defBody s__law_is_chain) (defScope s__law_is_chain) .none kV__law_is_chain dc__law_is_chain pm__law_is_chain an__law_is_chain cd__law_is_chain ct__law_is_chain), sl__law_is_chain⟩)
    (c__law_is_chain : PySem.W.codeIn K cd__law_is_chain "_law_is_chain" = true)
    (k__law_is_chain : PySem.W.keepIn K (.ref f__law_is_chain) = true)
    (a__law_bounds : PySem.W.nsIn K mainGlobals "_law_bounds" = some (some (.ref f__law_bounds)))
    (l__law_bounds : K.lookup f__law_bounds = some ⟨oc__law_bounds, od__law_bounds, .func (PySem.W.fnOf "_law_bounds" "_law_bounds" (defArgs s__law_bounds) (defBody s__law_bounds) (defScope s__law_bounds) .none kV__law_bounds dc__law_bounds pm__law_bounds an__law_bounds cd__law_bounds ct__law_bounds), sl__law_bounds⟩)
    (c__law_bounds : PySem.W.codeIn K cd__law_bounds "_law_bounds" = true)
    (k__law_bounds : PySem.W.keepIn K (.ref f__law_bounds) = true)
    (a__law_is_right : PySem.W.nsIn K mainGlobals "_law_is_right" = some (some (.ref f__law_is_right)))
    (l__law_is_right : K.lookup f__law_is_right = some ⟨oc__law_is_right, od__law_is_right, .func (PySem.W.fnOf "_law_is_right" "_law_is_right" (defArgs s__law_is_right) (defBody s__law_is_right) (defScope s__law_is_right) .none kV__law_is_right dc__law_is_right pm__law_is_right an__law_is_right cd__law_is_right ct__law_is_right), sl__law_is_right⟩)
    (c__law_is_right : PySem.W.codeIn K cd__law_is_right "_law_is_right" = true)
    (k__law_is_right : PySem.W.keepIn K (.ref f__law_is_right) = true)
    (a__law_spoilt : PySem.W.nsIn K mainGlobals "_law_spoilt" = some (some (.ref f__law_spoilt)))
    (l__law_spoilt : K.lookup f__law_spoilt = some ⟨oc__law_spoilt, od__law_spoilt, .func (PySem.W.fnOf "_law_spoilt" "_law_spoilt" (defArgs s__law_spoilt) (defBody s__law_spoilt) (defScope s__law_spoilt) .none kV__law_spoilt dc__law_spoilt pm__law_spoilt an__law_spoilt cd__law_spoilt ct__law_spoilt), sl__law_spoilt⟩)
    (c__law_spoilt : PySem.W.codeIn K cd__law_spoilt "_law_spoilt" = true)
    (k__law_spoilt : PySem.W.keepIn K (.ref f__law_spoilt) = true)
    (a_law : PySem.W.nsIn K mainGlobals "law" = some (some (.ref f_law)))
    (l_law : K.lookup f_law = some ⟨oc_law, od_law, .func (PySem.W.fnOf "law" "law" (defArgs s_law) (defBody s_law) (defScope s_law) .none kV_law dc_law pm_law an_law cd_law ct_law), sl_law⟩)
    (c_law : PySem.W.codeIn K cd_law "law" = true)
    (k_law : PySem.W.keepIn K (.ref f_law) = true)
    (gh_heapify : PySem.W.nsIn K mainGlobals "heapify" = some (some (.builtin "_heapq.heapify")))
    (gh_heappush : PySem.W.nsIn K mainGlobals "heappush" = some (some (.builtin "_heapq.heappush")))
    (gh_heappop : PySem.W.nsIn K mainGlobals "heappop" = some (some (.builtin "_heapq.heappop")))
    (z_abs : PySem.W.nsIn K mainGlobals "abs" = some none)
    (z_all : PySem.W.nsIn K mainGlobals "all" = some none)
    (z_any : PySem.W.nsIn K mainGlobals "any" = some none)
    (z_bool : PySem.W.nsIn K mainGlobals "bool" = some none)
    (z_enumerate : PySem.W.nsIn K mainGlobals "enumerate" = some none)
    (z_int : PySem.W.nsIn K mainGlobals "int" = some none)
    (z_isinstance : PySem.W.nsIn K mainGlobals "isinstance" = some none)
    (z_len : PySem.W.nsIn K mainGlobals "len" = some none)
    (z_list : PySem.W.nsIn K mainGlobals "list" = some none)
    (z_max : PySem.W.nsIn K mainGlobals "max" = some none)
    (z_min : PySem.W.nsIn K mainGlobals "min" = some none)
    (z_range : PySem.W.nsIn K mainGlobals "range" = some none)
    (z_set : PySem.W.nsIn K mainGlobals "set" = some none)
    (z_sorted : PySem.W.nsIn K mainGlobals "sorted" = some none)
    (z_tuple : PySem.W.nsIn K mainGlobals "tuple" = some none)
    (z_zip : PySem.W.nsIn K mainGlobals "zip" = some none)
    (g_DIGITS : PySem.W.nsIn K mainGlobals "DIGITS" = some (some (.str "0123456789" t_DIGITS)))
    (g_LAST_CHANGE : PySem.W.nsIn K mainGlobals "LAST_CHANGE" = some (some (.int 100000 t_LAST_CHANGE)))
    (g_LETTERS : PySem.W.nsIn K mainGlobals "LETTERS" = some (some (.str "abcdefghijklmnopqrstuvwxyz" t_LETTERS)))
    (g_LONGEST_NAME : PySem.W.nsIn K mainGlobals "LONGEST_NAME" = some (some (.int 12 t_LONGEST_NAME)))
    (g_MAYBE : PySem.W.nsIn K mainGlobals "MAYBE" = some (some (.str "maybe" t_MAYBE)))
    (g_MOST_LINKS : PySem.W.nsIn K mainGlobals "MOST_LINKS" = some (some (.int 60 t_MOST_LINKS)))
    (g_MOST_MINUTES : PySem.W.nsIn K mainGlobals "MOST_MINUTES" = some (some (.int 1000 t_MOST_MINUTES)))
    (g_MOST_PATHS : PySem.W.nsIn K mainGlobals "MOST_PATHS" = some (some (.int 60 t_MOST_PATHS)))
    (g_MOST_PLACES : PySem.W.nsIn K mainGlobals "MOST_PLACES" = some (some (.int 24 t_MOST_PLACES)))
    (g_MOST_ROWS : PySem.W.nsIn K mainGlobals "MOST_ROWS" = some (some (.int 40 t_MOST_ROWS)))
    (g_MOST_WINDS : PySem.W.nsIn K mainGlobals "MOST_WINDS" = some (some (.int 4 t_MOST_WINDS)))
    (g_NEVER : PySem.W.nsIn K mainGlobals "NEVER" = some (some (.str "never" t_NEVER)))
    (g_SURELY : PySem.W.nsIn K mainGlobals "SURELY" = some (some (.str "surely" t_SURELY)))
    (pg : PySem.W.plainGet K C Str.empty = true)
    (hd : PySem.W.hasDictIn K C = true)
    (po : PySem.W.plainOver K C = true)
    (sa : PySem.W.findIn K (.ref C) "__setattr__" = some (some (.builtin "object.__setattr__")))
    (mk : PySem.W.makesIn K C = true)
    (kc : PySem.W.keepIn K (.ref C) = true)
    (nW : PySem.W.findIn K (.ref C) "winds" = some none)
    (nP : PySem.W.findIn K (.ref C) "places" = some none)
    (nL : PySem.W.findIn K (.ref C) "links" = some none)
    (nA : PySem.W.findIn K (.ref C) "paths" = some none)
    : ∃ fd : FuncData, (∀ (s : Shared) (v : Value), BindsTo s fd ⟨[v], []⟩ [("script", v)]) ∧ ∀ base : Heap, K.In base → base.Ns mainGlobals mg → FnOk l.prog w K mg base CX0 8 fa fd ["script"] (spLaw K) := by
  have e := hfa.symm.trans (PySem.W.mg_of X G a_law)
  cases e
  have F_check_winds := fun_mk (st := s_check_winds) l_check_winds c_check_winds k_check_winds
  have B_check_winds := F_check_winds.binds (ps := ["land", "weather"]) fun _ _ _ _ _ _ us hl => match us, hl with | [_, _], _ => rfl
  have F_check_rows := fun_mk (st := s_check_rows) l_check_rows c_check_rows k_check_rows
  have B_check_rows := F_check_rows.binds (ps := ["weather"]) fun _ _ _ _ _ _ us hl => match us, hl with | [_], _ => rfl
  have F_spells_of := fun_mk (st := s_spells_of) l_spells_of c_spells_of k_spells_of
  have B_spells_of := F_spells_of.binds (ps := ["land", "weather"]) fun _ _ _ _ _ _ us hl => match us, hl with | [_, _], _ => rfl
  have F_ask : FunD K "ask" "ask" (defArgs s_ask) (defBody s_ask) (defScope s_ask) [.ref te_ask] [] f_ask _ := ⟨⟨_, _, _, _, _, _, _, _, _, _, rfl, l_ask, c_ask, .inr ⟨by simp, dT_ask, _, [.ref te_ask], _, rfl, dt1_ask, rfl, .cons rfl .nil⟩, .inl rfl⟩, k_ask⟩
  obtain ⟨dsB_ask, hvB_ask, B_ask⟩ := F_ask.binds1 (ps := ["land", "weather", "starts", "breaks", "places"]) 5 1 (by simp) rfl fun T kV doc pm an cdv ct us its hu hi => match us, its, hu, hi with | [_, _, _, _, _], [_], _, _ => ⟨_, rfl, rfl⟩
  cases hvB_ask
  obtain ⟨dsB1_ask, hvB1_ask, B1_ask⟩ := F_ask.binds1 (ps := ["land", "weather", "starts", "breaks", "places"]) 4 0 (by simp) rfl fun T kV doc pm an cdv ct us its hu hi => match us, its, hu, hi with | [_, _, _, _], [_], _, _ => ⟨_, rfl, rfl⟩
  cases hvB1_ask with
  | cons r1 r2 =>
  cases r2
  cases r1
  have F_ask_all : FunD K "ask_all" "ask_all" (defArgs s_ask_all) (defBody s_ask_all) (defScope s_ask_all) [.ref te_ask_all] [] f_ask_all _ := ⟨⟨_, _, _, _, _, _, _, _, _, _, rfl, l_ask_all, c_ask_all, .inr ⟨by simp, dT_ask_all, _, [.ref te_ask_all], _, rfl, dt1_ask_all, rfl, .cons rfl .nil⟩, .inl rfl⟩, k_ask_all⟩
  obtain ⟨dsB_ask_all, hvB_ask_all, B_ask_all⟩ := F_ask_all.binds1 (ps := ["land", "weathers", "starts", "breaks", "places"]) 5 1 (by simp) rfl fun T kV doc pm an cdv ct us its hu hi => match us, its, hu, hi with | [_, _, _, _, _], [_], _, _ => ⟨_, rfl, rfl⟩
  cases hvB_ask_all
  obtain ⟨dsB1_ask_all, hvB1_ask_all, B1_ask_all⟩ := F_ask_all.binds1 (ps := ["land", "weathers", "starts", "breaks", "places"]) 4 0 (by simp) rfl fun T kV doc pm an cdv ct us its hu hi => match us, its, hu, hi with | [_, _, _, _], [_], _, _ => ⟨_, rfl, rfl⟩
  cases hvB1_ask_all with
  | cons r1 r2 =>
  cases r2
  cases r1
  have F_least_minutes := fun_mk (st := s_least_minutes) l_least_minutes c_least_minutes k_least_minutes
  have B_least_minutes := F_least_minutes.binds (ps := ["rows"]) fun _ _ _ _ _ _ us hl => match us, hl with | [_], _ => rfl
  have F_Question_init := fun_mk (st := s_Question_init) l_Question_init c_Question_init k_Question_init
  have B_Question_init := F_Question_init.binds (ps := ["self", "land", "weather", "starts", "breaks"]) fun _ _ _ _ _ _ us hl => match us, hl with | [_, _, _, _, _], _ => rfl
  have F_Question_is_ahead := fun_mk (st := s_Question_is_ahead) l_Question_is_ahead c_Question_is_ahead k_Question_is_ahead
  have B_Question_is_ahead := F_Question_is_ahead.binds (ps := ["self", "minute", "place"]) fun _ _ _ _ _ _ us hl => match us, hl with | [_, _, _], _ => rfl
  have F_Question_through := fun_mk (st := s_Question_through) l_Question_through c_Question_through k_Question_through
  have B_Question_through := F_Question_through.binds (ps := ["self", "row", "minute"]) fun _ _ _ _ _ _ us hl => match us, hl with | [_, _, _], _ => rfl
  have F_Question_catches := fun_mk (st := s_Question_catches) l_Question_catches c_Question_catches k_Question_catches
  have B_Question_catches := F_Question_catches.binds (ps := ["self", "numbers"]) fun _ _ _ _ _ _ us hl => match us, hl with | [_, _], _ => rfl
  have F_Question_chain_to := fun_mk (st := s_Question_chain_to) l_Question_chain_to c_Question_chain_to k_Question_chain_to
  have B_Question_chain_to := F_Question_chain_to.binds (ps := ["self", "caught", "place"]) fun _ _ _ _ _ _ us hl => match us, hl with | [_, _, _], _ => rfl
  have F_least_numbers := fun_mk (st := s_least_numbers) l_least_numbers c_least_numbers k_least_numbers
  have B_least_numbers := F_least_numbers.binds (ps := ["land"]) fun _ _ _ _ _ _ us hl => match us, hl with | [_], _ => rfl
  have F_most_numbers := fun_mk (st := s_most_numbers) l_most_numbers c_most_numbers k_most_numbers
  have B_most_numbers := F_most_numbers.binds (ps := ["land"]) fun _ _ _ _ _ _ us hl => match us, hl with | [_], _ => rfl
  have F_Paper_init := fun_mk (st := s_Paper_init) l_Paper_init c_Paper_init k_Paper_init
  have B_Paper_init := F_Paper_init.binds (ps := ["self", "word", "labels", "chain"]) fun _ _ _ _ _ _ us hl => match us, hl with | [_, _, _, _], _ => rfl
  have F_paper := fun_mk (st := s_paper) l_paper c_paper k_paper
  have B_paper := F_paper.binds (ps := ["land", "weather", "starts", "breaks", "place"]) fun _ _ _ _ _ _ us hl => match us, hl with | [_, _, _, _, _], _ => rfl
  have F__labels_of := fun_mk (st := s__labels_of) l__labels_of c__labels_of k__labels_of
  have B__labels_of := F__labels_of.binds (ps := ["land", "caught"]) fun _ _ _ _ _ _ us hl => match us, hl with | [_, _], _ => rfl
  have F_check_paper := fun_mk (st := s_check_paper) l_check_paper c_check_paper k_check_paper
  have B_check_paper := F_check_paper.binds (ps := ["land", "weather", "starts", "breaks", "place", "told"]) fun _ _ _ _ _ _ us hl => match us, hl with | [_, _, _, _, _, _], _ => rfl
  have F__keep_off := fun_mk (st := s__keep_off) l__keep_off c__keep_off k__keep_off
  have B__keep_off := F__keep_off.binds (ps := ["question", "numbers", "labels", "place"]) fun _ _ _ _ _ _ us hl => match us, hl with | [_, _, _, _], _ => rfl
  have F__hold_starts := fun_mk (st := s__hold_starts) l__hold_starts c__hold_starts k__hold_starts
  have B__hold_starts := F__hold_starts.binds (ps := ["question", "bounds"]) fun _ _ _ _ _ _ us hl => match us, hl with | [_, _], _ => rfl
  have F__hold_links := fun_mk (st := s__hold_links) l__hold_links c__hold_links k__hold_links
  have B__hold_links := F__hold_links.binds (ps := ["question", "numbers", "bounds"]) fun _ _ _ _ _ _ us hl => match us, hl with | [_, _, _], _ => rfl
  have F__holds := fun_mk (st := s__holds) l__holds c__holds k__holds
  have B__holds := F__holds.binds (ps := ["question", "bounds", "place", "minute"]) fun _ _ _ _ _ _ us hl => match us, hl with | [_, _, _, _], _ => rfl
  have F__comes_to := fun_mk (st := s__comes_to) l__comes_to c__comes_to k__comes_to
  have B__comes_to := F__comes_to.binds (ps := ["question", "numbers", "chain", "place"]) fun _ _ _ _ _ _ us hl => match us, hl with | [_, _, _, _], _ => rfl
  have F__is_beginning := fun_mk (st := s__is_beginning) l__is_beginning c__is_beginning k__is_beginning
  have B__is_beginning := F__is_beginning.binds (ps := ["question", "row"]) fun _ _ _ _ _ _ us hl => match us, hl with | [_, _], _ => rfl
  have F__follows := fun_mk (st := s__follows) l__follows c__follows k__follows
  have B__follows := F__follows.binds (ps := ["question", "numbers", "before", "row"]) fun _ _ _ _ _ _ us hl => match us, hl with | [_, _, _, _], _ => rfl
  have F_is_name := fun_mk (st := s_is_name) l_is_name c_is_name k_is_name
  have B_is_name := F_is_name.binds (ps := ["text"]) fun _ _ _ _ _ _ us hl => match us, hl with | [_], _ => rfl
  have F__check_count := fun_mk (st := s__check_count) l__check_count c__check_count k__check_count
  have B__check_count := F__check_count.binds (ps := ["sort", "rows", "least", "most"]) fun _ _ _ _ _ _ us hl => match us, hl with | [_, _, _, _], _ => rfl
  have F__check_names := fun_mk (st := s__check_names) l__check_names c__check_names k__check_names
  have B__check_names := F__check_names.binds (ps := ["sort", "names"]) fun _ _ _ _ _ _ us hl => match us, hl with | [_, _], _ => rfl
  have F__check_ends := fun_mk (st := s__check_ends) l__check_ends c__check_ends k__check_ends
  have B__check_ends := F__check_ends.binds (ps := ["sort", "one", "other", "places"]) fun _ _ _ _ _ _ us hl => match us, hl with | [_, _, _, _], _ => rfl
  have F__as_bounds := fun_mk (st := s__as_bounds) l__as_bounds c__as_bounds k__as_bounds
  have B__as_bounds := F__as_bounds.binds (ps := ["bounds"]) fun _ _ _ _ _ _ us hl => match us, hl with | [_], _ => rfl
  have F__as_link := fun_mk (st := s__as_link) l__as_link c__as_link k__as_link
  have B__as_link := F__as_link.binds (ps := ["link", "winds", "places"]) fun _ _ _ _ _ _ us hl => match us, hl with | [_, _, _], _ => rfl
  have F__as_path := fun_mk (st := s__as_path) l__as_path c__as_path k__as_path
  have B__as_path := F__as_path.binds (ps := ["path", "places"]) fun _ _ _ _ _ _ us hl => match us, hl with | [_, _], _ => rfl
  have F__check_single_paths := fun_mk (st := s__check_single_paths) l__check_single_paths c__check_single_paths k__check_single_paths
  have B__check_single_paths := F__check_single_paths.binds (ps := ["paths"]) fun _ _ _ _ _ _ us hl => match us, hl with | [_], _ => rfl
  have F_init : FunD K "__init__" "Land.__init__" (defArgs s_init) (defBody s_init) (defScope s_init) [] [("links", .ref tl), ("paths", .ref te)] f_init _ := ⟨⟨_, _, _, _, _, _, _, _, _, _, rfl, l_init, c_init, .inl ⟨rfl, rfl⟩, .inr ⟨D, rfl, fun q hq => by
    rcases List.mem_cons.mp hq with z | z
    · rw [z]; exact ⟨_, tl1, rfl⟩
    · rw [List.mem_singleton.mp z]; exact ⟨_, te1, rfl⟩⟩⟩, k_init⟩
  have F_link_names := fun_mk (st := s_link_names) l_link_names c_link_names k_link_names
  have B_link_names := F_link_names.binds (ps := ["self"]) fun _ _ _ _ _ _ us hl => match us, hl with | [_], _ => rfl
  have F_check_place := fun_mk (st := s_check_place) l_check_place c_check_place k_check_place
  have B_check_place := F_check_place.binds (ps := ["self", "place"]) fun _ _ _ _ _ _ us hl => match us, hl with | [_, _], _ => rfl
  have F_check_wind := fun_mk (st := s_check_wind) l_check_wind c_check_wind k_check_wind
  have B_check_wind := F_check_wind.binds (ps := ["self", "wind"]) fun _ _ _ _ _ _ us hl => match us, hl with | [_, _], _ => rfl
  have F_link := fun_mk (st := s_link) l_link c_link k_link
  have B_link := F_link.binds (ps := ["self", "name"]) fun _ _ _ _ _ _ us hl => match us, hl with | [_, _], _ => rfl
  have F__law_row := fun_mk (st := s__law_row) l__law_row c__law_row k__law_row
  have B__law_row := F__law_row.binds (ps := ["cell", "many"]) fun _ _ _ _ _ _ us hl => match us, hl with | [_, _], _ => rfl
  have F__law_numbers := fun_mk (st := s__law_numbers) l__law_numbers c__law_numbers k__law_numbers
  have B__law_numbers := F__law_numbers.binds (ps := ["script", "many"]) fun _ _ _ _ _ _ us hl => match us, hl with | [_, _], _ => rfl
  have F__law_pick := fun_mk (st := s__law_pick) l__law_pick c__law_pick k__law_pick
  have B__law_pick := F__law_pick.binds (ps := ["numbers", "at", "most"]) fun _ _ _ _ _ _ us hl => match us, hl with | [_, _, _], _ => rfl
  have F__law_names := fun_mk (st := s__law_names) l__law_names c__law_names k__law_names
  have B__law_names := F__law_names.binds (ps := ["number", "many"]) fun _ _ _ _ _ _ us hl => match us, hl with | [_, _], _ => rfl
  have F__law_parts := fun_mk (st := s__law_parts) l__law_parts c__law_parts k__law_parts
  have B__law_parts := F__law_parts.binds (ps := ["numbers", "at"]) fun _ _ _ _ _ _ us hl => match us, hl with | [_, _], _ => rfl
  have F__law_weather := fun_mk (st := s__law_weather) l__law_weather c__law_weather k__law_weather
  have B__law_weather := F__law_weather.binds (ps := ["numbers", "at", "parts"]) fun _ _ _ _ _ _ us hl => match us, hl with | [_, _, _], _ => rfl
  have F__law_wind := fun_mk (st := s__law_wind) l__law_wind c__law_wind k__law_wind
  have B__law_wind := F__law_wind.binds (ps := ["parts", "weather", "minute"]) fun _ _ _ _ _ _ us hl => match us, hl with | [_, _, _], _ => rfl
  have F__law_caught := fun_mk (st := s__law_caught) l__law_caught c__law_caught k__law_caught
  have B__law_caught := F__law_caught.binds (ps := ["parts", "weather", "link", "minute", "side"]) fun _ _ _ _ _ _ us hl => match us, hl with | [_, _, _, _, _], _ => rfl
  have F__law_rows := fun_mk (st := s__law_rows) l__law_rows c__law_rows k__law_rows
  have B__law_rows := F__law_rows.binds (ps := ["numbers", "at", "many", "parts", "most"]) fun _ _ _ _ _ _ us hl => match us, hl with | [_, _, _, _, _], _ => rfl
  have F__law_land := fun_mk (st := s__law_land) l__law_land c__law_land k__law_land
  have B__law_land := F__law_land.binds (ps := ["parts"]) fun _ _ _ _ _ _ us hl => match us, hl with | [_], _ => rfl
  have F__law_case := fun_mk (st := s__law_case) l__law_case c__law_case k__law_case
  have B__law_case := F__law_case.binds (ps := ["numbers"]) fun _ _ _ _ _ _ us hl => match us, hl with | [_], _ => rfl
  have F__law_ends := fun_mk (st := s__law_ends) l__law_ends c__law_ends k__law_ends
  have B__law_ends := F__law_ends.binds (ps := ["breaks"]) fun _ _ _ _ _ _ us hl => match us, hl with | [_], _ => rfl
  have F__law_ahead := fun_mk (st := s__law_ahead) l__law_ahead c__law_ahead k__law_ahead
  have B__law_ahead := F__law_ahead.binds (ps := ["ends", "place", "minute"]) fun _ _ _ _ _ _ us hl => match us, hl with | [_, _, _], _ => rfl
  have F__law_is_chain := fun_mk (st := s__law_is_chain) l__law_is_chain c__law_is_chain k__law_is_chain
  have B__law_is_chain := F__law_is_chain.binds (ps := ["parts", "weather", "starts", "breaks", "side", "chain", "place"]) fun _ _ _ _ _ _ us hl => match us, hl with | [_, _, _, _, _, _, _], _ => rfl
  have F__law_bounds := fun_mk (st := s__law_bounds) l__law_bounds c__law_bounds k__law_bounds
  have B__law_bounds := F__law_bounds.binds (ps := ["parts", "weather", "starts", "breaks", "side", "labels"]) fun _ _ _ _ _ _ us hl => match us, hl with | [_, _, _, _, _, _], _ => rfl
  have F__law_is_right := fun_mk (st := s__law_is_right) l__law_is_right c__law_is_right k__law_is_right
  have B__law_is_right := F__law_is_right.binds (ps := ["parts", "weather", "starts", "breaks", "place", "told"]) fun _ _ _ _ _ _ us hl => match us, hl with | [_, _, _, _, _, _], _ => rfl
  have F__law_spoilt := fun_mk (st := s__law_spoilt) l__law_spoilt c__law_spoilt k__law_spoilt
  have B__law_spoilt := F__law_spoilt.binds (ps := ["numbers", "at", "parts", "word", "labels", "chain"]) fun _ _ _ _ _ _ us hl => match us, hl with | [_, _, _, _, _, _], _ => rfl
  have F_law := fun_mk (st := s_law) l_law c_law k_law
  have B_law := F_law.binds (ps := ["script"]) fun _ _ _ _ _ _ us hl => match us, hl with | [_], _ => rfl
  have T : Txt K mg { C := C, tl := tl, te := te, pr := pr, C_Question := C_Question, C_Paper := C_Paper, f_check_winds := f_check_winds, d_check_winds := _, f_check_rows := f_check_rows, d_check_rows := _, f_spells_of := f_spells_of, d_spells_of := _, f_ask := f_ask, d_ask := _, te_ask := te_ask, f_ask_all := f_ask_all, d_ask_all := _, te_ask_all := te_ask_all, f_least_minutes := f_least_minutes, d_least_minutes := _, f_Question_init := f_Question_init, d_Question_init := _, f_Question_is_ahead := f_Question_is_ahead, d_Question_is_ahead := _, f_Question_through := f_Question_through, d_Question_through := _, f_Question_catches := f_Question_catches, d_Question_catches := _, f_Question_chain_to := f_Question_chain_to, d_Question_chain_to := _, f_least_numbers := f_least_numbers, d_least_numbers := _, f_most_numbers := f_most_numbers, d_most_numbers := _, f_Paper_init := f_Paper_init, d_Paper_init := _, f_paper := f_paper, d_paper := _, f__labels_of := f__labels_of, d__labels_of := _, f_check_paper := f_check_paper, d_check_paper := _, f__keep_off := f__keep_off, d__keep_off := _, f__hold_starts := f__hold_starts, d__hold_starts := _, f__hold_links := f__hold_links, d__hold_links := _, f__holds := f__holds, d__holds := _, f__comes_to := f__comes_to, d__comes_to := _, f__is_beginning := f__is_beginning, d__is_beginning := _, f__follows := f__follows, d__follows := _, f_is_name := f_is_name, d_is_name := _, f__check_count := f__check_count, d__check_count := _, f__check_names := f__check_names, d__check_names := _, f__check_ends := f__check_ends, d__check_ends := _, f__as_bounds := f__as_bounds, d__as_bounds := _, f__as_link := f__as_link, d__as_link := _, f__as_path := f__as_path, d__as_path := _, f__check_single_paths := f__check_single_paths, d__check_single_paths := _, f_init := f_init, d_init := _, f_link_names := f_link_names, d_link_names := _, f_check_place := f_check_place, d_check_place := _, f_check_wind := f_check_wind, d_check_wind := _, f_link := f_link, d_link := _, f__law_row := f__law_row, d__law_row := _, f__law_numbers := f__law_numbers, d__law_numbers := _, f__law_pick := f__law_pick, d__law_pick := _, f__law_names := f__law_names, d__law_names := _, f__law_parts := f__law_parts, d__law_parts := _, f__law_weather := f__law_weather, d__law_weather := _, f__law_wind := f__law_wind, d__law_wind := _, f__law_caught := f__law_caught, d__law_caught := _, f__law_rows := f__law_rows, d__law_rows := _, f__law_land := f__law_land, d__law_land := _, f__law_case := f__law_case, d__law_case := _, f__law_ends := f__law_ends, d__law_ends := _, f__law_ahead := f__law_ahead, d__law_ahead := _, f__law_is_chain := f__law_is_chain, d__law_is_chain := _, f__law_bounds := f__law_bounds, d__law_bounds := _, f__law_is_right := f__law_is_right, d__law_is_right := _, f__law_spoilt := f__law_spoilt, d__law_spoilt := _, f_law := fa, d_law := _ } := {
    F_check_winds := F_check_winds
    B_check_winds := B_check_winds
    k_check_winds := k_check_winds
    g_check_winds := PySem.W.mg_of X G a_check_winds
    F_check_rows := F_check_rows
    B_check_rows := B_check_rows
    k_check_rows := k_check_rows
    g_check_rows := PySem.W.mg_of X G a_check_rows
    F_spells_of := F_spells_of
    B_spells_of := B_spells_of
    k_spells_of := k_spells_of
    g_spells_of := PySem.W.mg_of X G a_spells_of
    F_ask := F_ask
    B_ask := B_ask
    B1_ask := B1_ask
    k_ask := k_ask
    g_ask := PySem.W.mg_of X G a_ask
    teT_ask := fun H => .inr ⟨_, #[], _, dt2_ask, rfl, rfl, Nat.zero_le _, .nil⟩
    F_ask_all := F_ask_all
    B_ask_all := B_ask_all
    B1_ask_all := B1_ask_all
    k_ask_all := k_ask_all
    g_ask_all := PySem.W.mg_of X G a_ask_all
    teT_ask_all := fun H => .inr ⟨_, #[], _, dt2_ask_all, rfl, rfl, Nat.zero_le _, .nil⟩
    F_least_minutes := F_least_minutes
    B_least_minutes := B_least_minutes
    k_least_minutes := k_least_minutes
    g_least_minutes := PySem.W.mg_of X G a_least_minutes
    F_Question_init := F_Question_init
    B_Question_init := B_Question_init
    k_Question_init := k_Question_init
    mk_Question := ⟨mk_C_Question, a_Question_init, i_Question_init, kc_C_Question⟩
    F_Question_is_ahead := F_Question_is_ahead
    B_Question_is_ahead := B_Question_is_ahead
    k_Question_is_ahead := k_Question_is_ahead
    m_Question_is_ahead := ⟨a_Question_is_ahead, i_Question_is_ahead, k_Question_is_ahead⟩
    F_Question_through := F_Question_through
    B_Question_through := B_Question_through
    k_Question_through := k_Question_through
    m_Question_through := ⟨a_Question_through, i_Question_through, k_Question_through⟩
    F_Question_catches := F_Question_catches
    B_Question_catches := B_Question_catches
    k_Question_catches := k_Question_catches
    m_Question_catches := ⟨a_Question_catches, i_Question_catches, k_Question_catches⟩
    F_Question_chain_to := F_Question_chain_to
    B_Question_chain_to := B_Question_chain_to
    k_Question_chain_to := k_Question_chain_to
    m_Question_chain_to := ⟨a_Question_chain_to, i_Question_chain_to, k_Question_chain_to⟩
    F_least_numbers := F_least_numbers
    B_least_numbers := B_least_numbers
    k_least_numbers := k_least_numbers
    g_least_numbers := PySem.W.mg_of X G a_least_numbers
    F_most_numbers := F_most_numbers
    B_most_numbers := B_most_numbers
    k_most_numbers := k_most_numbers
    g_most_numbers := PySem.W.mg_of X G a_most_numbers
    F_Paper_init := F_Paper_init
    B_Paper_init := B_Paper_init
    k_Paper_init := k_Paper_init
    mk_Paper := ⟨mk_C_Paper, a_Paper_init, i_Paper_init, kc_C_Paper⟩
    F_paper := F_paper
    B_paper := B_paper
    k_paper := k_paper
    g_paper := PySem.W.mg_of X G a_paper
    F__labels_of := F__labels_of
    B__labels_of := B__labels_of
    k__labels_of := k__labels_of
    g__labels_of := PySem.W.mg_of X G a__labels_of
    F_check_paper := F_check_paper
    B_check_paper := B_check_paper
    k_check_paper := k_check_paper
    g_check_paper := PySem.W.mg_of X G a_check_paper
    F__keep_off := F__keep_off
    B__keep_off := B__keep_off
    k__keep_off := k__keep_off
    g__keep_off := PySem.W.mg_of X G a__keep_off
    F__hold_starts := F__hold_starts
    B__hold_starts := B__hold_starts
    k__hold_starts := k__hold_starts
    g__hold_starts := PySem.W.mg_of X G a__hold_starts
    F__hold_links := F__hold_links
    B__hold_links := B__hold_links
    k__hold_links := k__hold_links
    g__hold_links := PySem.W.mg_of X G a__hold_links
    F__holds := F__holds
    B__holds := B__holds
    k__holds := k__holds
    g__holds := PySem.W.mg_of X G a__holds
    F__comes_to := F__comes_to
    B__comes_to := B__comes_to
    k__comes_to := k__comes_to
    g__comes_to := PySem.W.mg_of X G a__comes_to
    F__is_beginning := F__is_beginning
    B__is_beginning := B__is_beginning
    k__is_beginning := k__is_beginning
    g__is_beginning := PySem.W.mg_of X G a__is_beginning
    F__follows := F__follows
    B__follows := B__follows
    k__follows := k__follows
    g__follows := PySem.W.mg_of X G a__follows
    F_is_name := F_is_name
    B_is_name := B_is_name
    k_is_name := k_is_name
    g_is_name := PySem.W.mg_of X G a_is_name
    F__check_count := F__check_count
    B__check_count := B__check_count
    k__check_count := k__check_count
    g__check_count := PySem.W.mg_of X G a__check_count
    F__check_names := F__check_names
    B__check_names := B__check_names
    k__check_names := k__check_names
    g__check_names := PySem.W.mg_of X G a__check_names
    F__check_ends := F__check_ends
    B__check_ends := B__check_ends
    k__check_ends := k__check_ends
    g__check_ends := PySem.W.mg_of X G a__check_ends
    F__as_bounds := F__as_bounds
    B__as_bounds := B__as_bounds
    k__as_bounds := k__as_bounds
    g__as_bounds := PySem.W.mg_of X G a__as_bounds
    F__as_link := F__as_link
    B__as_link := B__as_link
    k__as_link := k__as_link
    g__as_link := PySem.W.mg_of X G a__as_link
    F__as_path := F__as_path
    B__as_path := B__as_path
    k__as_path := k__as_path
    g__as_path := PySem.W.mg_of X G a__as_path
    F__check_single_paths := F__check_single_paths
    B__check_single_paths := B__check_single_paths
    k__check_single_paths := k__check_single_paths
    g__check_single_paths := PySem.W.mg_of X G a__check_single_paths
    F_init := F_init
    F_link_names := F_link_names
    B_link_names := B_link_names
    k_link_names := k_link_names
    F_check_place := F_check_place
    B_check_place := B_check_place
    k_check_place := k_check_place
    m_check_place := ⟨a_check_place, i_check_place, k_check_place⟩
    F_check_wind := F_check_wind
    B_check_wind := B_check_wind
    k_check_wind := k_check_wind
    m_check_wind := ⟨a_check_wind, i_check_wind, k_check_wind⟩
    F_link := F_link
    B_link := B_link
    k_link := k_link
    m_link := ⟨a_link, i_link, k_link⟩
    F__law_row := F__law_row
    B__law_row := B__law_row
    k__law_row := k__law_row
    g__law_row := PySem.W.mg_of X G a__law_row
    F__law_numbers := F__law_numbers
    B__law_numbers := B__law_numbers
    k__law_numbers := k__law_numbers
    g__law_numbers := PySem.W.mg_of X G a__law_numbers
    F__law_pick := F__law_pick
    B__law_pick := B__law_pick
    k__law_pick := k__law_pick
    g__law_pick := PySem.W.mg_of X G a__law_pick
    F__law_names := F__law_names
    B__law_names := B__law_names
    k__law_names := k__law_names
    g__law_names := PySem.W.mg_of X G a__law_names
    F__law_parts := F__law_parts
    B__law_parts := B__law_parts
    k__law_parts := k__law_parts
    g__law_parts := PySem.W.mg_of X G a__law_parts
    F__law_weather := F__law_weather
    B__law_weather := B__law_weather
    k__law_weather := k__law_weather
    g__law_weather := PySem.W.mg_of X G a__law_weather
    F__law_wind := F__law_wind
    B__law_wind := B__law_wind
    k__law_wind := k__law_wind
    g__law_wind := PySem.W.mg_of X G a__law_wind
    F__law_caught := F__law_caught
    B__law_caught := B__law_caught
    k__law_caught := k__law_caught
    g__law_caught := PySem.W.mg_of X G a__law_caught
    F__law_rows := F__law_rows
    B__law_rows := B__law_rows
    k__law_rows := k__law_rows
    g__law_rows := PySem.W.mg_of X G a__law_rows
    F__law_land := F__law_land
    B__law_land := B__law_land
    k__law_land := k__law_land
    g__law_land := PySem.W.mg_of X G a__law_land
    F__law_case := F__law_case
    B__law_case := B__law_case
    k__law_case := k__law_case
    g__law_case := PySem.W.mg_of X G a__law_case
    F__law_ends := F__law_ends
    B__law_ends := B__law_ends
    k__law_ends := k__law_ends
    g__law_ends := PySem.W.mg_of X G a__law_ends
    F__law_ahead := F__law_ahead
    B__law_ahead := B__law_ahead
    k__law_ahead := k__law_ahead
    g__law_ahead := PySem.W.mg_of X G a__law_ahead
    F__law_is_chain := F__law_is_chain
    B__law_is_chain := B__law_is_chain
    k__law_is_chain := k__law_is_chain
    g__law_is_chain := PySem.W.mg_of X G a__law_is_chain
    F__law_bounds := F__law_bounds
    B__law_bounds := B__law_bounds
    k__law_bounds := k__law_bounds
    g__law_bounds := PySem.W.mg_of X G a__law_bounds
    F__law_is_right := F__law_is_right
    B__law_is_right := B__law_is_right
    k__law_is_right := k__law_is_right
    g__law_is_right := PySem.W.mg_of X G a__law_is_right
    F__law_spoilt := F__law_spoilt
    B__law_spoilt := B__law_spoilt
    k__law_spoilt := k__law_spoilt
    g__law_spoilt := PySem.W.mg_of X G a__law_spoilt
    F_law := F_law
    B_law := B_law
    k_law := k_law
    g_law := PySem.W.mg_of X G a_law
    g_heapify := PySem.W.mg_of X G gh_heapify
    g_heappush := PySem.W.mg_of X G gh_heappush
    g_heappop := PySem.W.mg_of X G gh_heappop
    z_abs := PySem.W.mg_none_of X G z_abs
    z_all := PySem.W.mg_none_of X G z_all
    z_any := PySem.W.mg_none_of X G z_any
    z_bool := PySem.W.mg_none_of X G z_bool
    z_enumerate := PySem.W.mg_none_of X G z_enumerate
    z_int := PySem.W.mg_none_of X G z_int
    z_isinstance := PySem.W.mg_none_of X G z_isinstance
    z_len := PySem.W.mg_none_of X G z_len
    z_list := PySem.W.mg_none_of X G z_list
    z_max := PySem.W.mg_none_of X G z_max
    z_min := PySem.W.mg_none_of X G z_min
    z_range := PySem.W.mg_none_of X G z_range
    z_set := PySem.W.mg_none_of X G z_set
    z_sorted := PySem.W.mg_none_of X G z_sorted
    z_tuple := PySem.W.mg_none_of X G z_tuple
    z_zip := PySem.W.mg_none_of X G z_zip
    c_DIGITS := ⟨_, PySem.W.mg_of X G g_DIGITS⟩
    c_LAST_CHANGE := ⟨_, PySem.W.mg_of X G g_LAST_CHANGE⟩
    c_LETTERS := ⟨_, PySem.W.mg_of X G g_LETTERS⟩
    c_LONGEST_NAME := ⟨_, PySem.W.mg_of X G g_LONGEST_NAME⟩
    c_MAYBE := ⟨_, PySem.W.mg_of X G g_MAYBE⟩
    c_MOST_LINKS := ⟨_, PySem.W.mg_of X G g_MOST_LINKS⟩
    c_MOST_MINUTES := ⟨_, PySem.W.mg_of X G g_MOST_MINUTES⟩
    c_MOST_PATHS := ⟨_, PySem.W.mg_of X G g_MOST_PATHS⟩
    c_MOST_PLACES := ⟨_, PySem.W.mg_of X G g_MOST_PLACES⟩
    c_MOST_ROWS := ⟨_, PySem.W.mg_of X G g_MOST_ROWS⟩
    c_MOST_WINDS := ⟨_, PySem.W.mg_of X G g_MOST_WINDS⟩
    c_NEVER := ⟨_, PySem.W.mg_of X G g_NEVER⟩
    c_SURELY := ⟨_, PySem.W.mg_of X G g_SURELY⟩
    cl_Question := ⟨pg_C_Question, hd_C_Question, po_C_Question, sa_C_Question⟩
    g_Question := PySem.W.mg_of X G aC_Question
    na_Question_land := na_Question_land
    na_Question_weather := na_Question_weather
    na_Question_starts := na_Question_starts
    na_Question_breaks := na_Question_breaks
    na_Question_spells := na_Question_spells
    na_Question_stops := na_Question_stops
    na_Question_leaving := na_Question_leaving
    cl_Paper := ⟨pg_C_Paper, hd_C_Paper, po_C_Paper, sa_C_Paper⟩
    g_Paper := PySem.W.mg_of X G aC_Paper
    ha_C_Paper := ha_C_Paper
    hm_C_Paper := hm_C_Paper
    hn_C_Paper := hn_C_Paper
    ht_C_Paper := ht_C_Paper
    ki_C_Paper := ki_C_Paper
    na_Paper_word := na_Paper_word
    na_Paper_labels := na_Paper_labels
    na_Paper_chain := na_Paper_chain
    cl := ⟨pg, hd, po, sa⟩
    mk_Land := ⟨mk, a_init, i_init, kc⟩
    g_Land := PySem.W.mg_of X G aC
    nW := nW
    nP := nP
    nL := nL
    nA := nA
    p_link_names := ⟨pr1, pr2, pr3, ⟨_, pr4⟩⟩
    tlT := fun H => .inr ⟨_, #[], _, tl2, rfl, rfl, Nat.zero_le _, .nil⟩
    teT := fun H => .inr ⟨_, #[], _, te2, rfl, rfl, Nat.zero_le _, .nil⟩ }
  exact ⟨_, fun s v => .of_eq rfl, fun base _ _ => G_law T⟩
theorem walk {l : PySem.W.OpenLaw} {q : Program} {loose : List Str} {XP : (Str → Option Value) → Heap → Prop} {YP : World → Heap → Prop} {d : DefRec} {K : Params → PySem.W.Frag} (hn : l.most = some 63) (hdf : d.params.defaults = [])
    (hY : ∀ (w : World) (h : Heap), YP w h → (K w.params).In h)
    (F : ∀ (w : World) (mg : Str → Option Value) (fa : Addr) (h : Heap), (K w.params).In h → h.Ns mainGlobals mg → mg d.name = some (.ref fa) →
      ∃ fd : FuncData, (∀ (s : Shared) (u : Value), BindsTo s fd ⟨[u], []⟩ [("script", u)]) ∧ ∀ base : Heap, (K w.params).In base → base.Ns mainGlobals mg → FnOk l.prog w (K w.params) mg base CX0 8 fa fd ["script"] (spLaw (K w.params))) :
    PySem.W.WalkO q loose XP YP l.row.toRowW d [] (fun f vs => PySem.call f vs) :=
  L2.walk_of (n := 63) (k := 8) (x := "script") (CX := fun _ => CX0) (sp := fun w => spLaw (K w.params)) hn (by decide) hdf ⟨rfl, by decide, by decide⟩ hY F (fun _ _ a ns hl _ hS => ⟨a, ns, rfl, hS, fun _ => rfl⟩) fun _ _ _ _ _ z => z
end EV
open PySem PySem.W PyProof.Rows in
set_option maxRecDepth 100000 in
set_option maxHeartbeats 0 in
theorem PySem.Challenge.cw_everyfire_k21_check_paper_holds : PySem.Challenge.rw_everyfire_k21_check_paper.Holds := by
  w_on; o_law; k_head; (case hw => w_witness2)
  k_fill
  refine EV.walk (l := PySem.Challenge.rw_everyfire_k21_check_paper) rfl rfl (fun w h Y => PySem.W.kIn_of Y) ?F
  case F =>
    intro w mg fa h KX G hmg
    refine' EV.all_mk KX G hmg ?aC ?aC_Question ?pg_C_Question ?hd_C_Question ?po_C_Question ?sa_C_Question ?mk_C_Question ?kc_C_Question ?na_Question_land ?na_Question_weather ?na_Question_starts ?na_Question_breaks ?na_Question_spells ?na_Question_stops ?na_Question_leaving ?aC_Paper ?pg_C_Paper ?hd_C_Paper ?po_C_Paper ?sa_C_Paper ?mk_C_Paper ?kc_C_Paper ?ha_C_Paper ?hm_C_Paper ?hn_C_Paper ?ht_C_Paper ?ki_C_Paper ?na_Paper_word ?na_Paper_labels ?na_Paper_chain ?a_check_winds ?l_check_winds ?c_check_winds ?k_check_winds ?a_check_rows ?l_check_rows ?c_check_rows ?k_check_rows ?a_spells_of ?l_spells_of ?c_spells_of ?k_spells_of ?a_ask ?l_ask ?dt1_ask ?dt2_ask ?c_ask ?k_ask ?a_ask_all ?l_ask_all ?dt1_ask_all ?dt2_ask_all ?c_ask_all ?k_ask_all ?a_least_minutes ?l_least_minutes ?c_least_minutes ?k_least_minutes ?a_Question_init ?i_Question_init ?l_Question_init ?c_Question_init ?k_Question_init ?a_Question_is_ahead ?i_Question_is_ahead ?l_Question_is_ahead ?c_Question_is_ahead ?k_Question_is_ahead ?a_Question_through ?i_Question_through ?l_Question_through ?c_Question_through ?k_Question_through ?a_Question_catches ?i_Question_catches ?l_Question_catches ?c_Question_catches ?k_Question_catches ?a_Question_chain_to ?i_Question_chain_to ?l_Question_chain_to ?c_Question_chain_to ?k_Question_chain_to ?a_least_numbers ?l_least_numbers ?c_least_numbers ?k_least_numbers ?a_most_numbers ?l_most_numbers ?c_most_numbers ?k_most_numbers ?a_Paper_init ?i_Paper_init ?l_Paper_init ?c_Paper_init ?k_Paper_init ?a_paper ?l_paper ?c_paper ?k_paper ?a__labels_of ?l__labels_of ?c__labels_of ?k__labels_of ?a_check_paper ?l_check_paper ?c_check_paper ?k_check_paper ?a__keep_off ?l__keep_off ?c__keep_off ?k__keep_off ?a__hold_starts ?l__hold_starts ?c__hold_starts ?k__hold_starts ?a__hold_links ?l__hold_links ?c__hold_links ?k__hold_links ?a__holds ?l__holds ?c__holds ?k__holds ?a__comes_to ?l__comes_to ?c__comes_to ?k__comes_to ?a__is_beginning ?l__is_beginning ?c__is_beginning ?k__is_beginning ?a__follows ?l__follows ?c__follows ?k__follows ?a_is_name ?l_is_name ?c_is_name ?k_is_name ?a__check_count ?l__check_count ?c__check_count ?k__check_count ?a__check_names ?l__check_names ?c__check_names ?k__check_names ?a__check_ends ?l__check_ends ?c__check_ends ?k__check_ends ?a__as_bounds ?l__as_bounds ?c__as_bounds ?k__as_bounds ?a__as_link ?l__as_link ?c__as_link ?k__as_link ?a__as_path ?l__as_path ?c__as_path ?k__as_path ?a__check_single_paths ?l__check_single_paths ?c__check_single_paths ?k__check_single_paths ?a_init ?i_init ?l_init ?c_init ?k_init ?tl1 ?te1 ?tl2 ?te2 ?pr1 ?pr2 ?pr3 ?pr4 ?l_link_names ?c_link_names ?k_link_names ?a_check_place ?i_check_place ?l_check_place ?c_check_place ?k_check_place ?a_check_wind ?i_check_wind ?l_check_wind ?c_check_wind ?k_check_wind ?a_link ?i_link ?l_link ?c_link ?k_link ?a__law_row ?l__law_row ?c__law_row ?k__law_row ?a__law_numbers ?l__law_numbers ?c__law_numbers ?k__law_numbers ?a__law_pick ?l__law_pick ?c__law_pick ?k__law_pick ?a__law_names ?l__law_names ?c__law_names ?k__law_names ?a__law_parts ?l__law_parts ?c__law_parts ?k__law_parts ?a__law_weather ?l__law_weather ?c__law_weather ?k__law_weather ?a__law_wind ?l__law_wind ?c__law_wind ?k__law_wind ?a__law_caught ?l__law_caught ?c__law_caught ?k__law_caught ?a__law_rows ?l__law_rows ?c__law_rows ?k__law_rows ?a__law_land ?l__law_land ?c__law_land ?k__law_land ?a__law_case ?l__law_case ?c__law_case ?k__law_case ?a__law_ends ?l__law_ends ?c__law_ends ?k__law_ends ?a__law_ahead ?l__law_ahead ?c__law_ahead ?k__law_ahead ?a__law_is_chain ?l__law_is_chain ?c__law_is_chain ?k__law_is_chain ?a__law_bounds ?l__law_bounds ?c__law_bounds ?k__law_bounds ?a__law_is_right ?l__law_is_right ?c__law_is_right ?k__law_is_right ?a__law_spoilt ?l__law_spoilt ?c__law_spoilt ?k__law_spoilt ?a_law ?l_law ?c_law ?k_law ?gh_heapify ?gh_heappush ?gh_heappop ?z_abs ?z_all ?z_any ?z_bool ?z_enumerate ?z_int ?z_isinstance ?z_len ?z_list ?z_max ?z_min ?z_range ?z_set ?z_sorted ?z_tuple ?z_zip ?g_DIGITS ?g_LAST_CHANGE ?g_LETTERS ?g_LONGEST_NAME ?g_MAYBE ?g_MOST_LINKS ?g_MOST_MINUTES ?g_MOST_PATHS ?g_MOST_PLACES ?g_MOST_ROWS ?g_MOST_WINDS ?g_NEVER ?g_SURELY ?pg ?hd ?po ?sa ?mk ?kc ?nW ?nP ?nL ?nA
    (case aC => k_is)
    (case aC_Question => k_is)
    (case pg_C_Question => k_is)
    (case hd_C_Question => k_is)
    (case po_C_Question => k_is)
    (case sa_C_Question => k_is)
    (case mk_C_Question => k_is)
    (case kc_C_Question => k_is)
    (case na_Question_land => k_is)
    (case na_Question_weather => k_is)
    (case na_Question_starts => k_is)
    (case na_Question_breaks => k_is)
    (case na_Question_spells => k_is)
    (case na_Question_stops => k_is)
    (case na_Question_leaving => k_is)
    (case aC_Paper => k_is)
    (case pg_C_Paper => k_is)
    (case hd_C_Paper => k_is)
    (case po_C_Paper => k_is)
    (case sa_C_Paper => k_is)
    (case mk_C_Paper => k_is)
    (case kc_C_Paper => k_is)
    (case ha_C_Paper => k_is)
    (case hm_C_Paper => k_is)
    (case hn_C_Paper => k_is)
    (case ht_C_Paper => k_is)
    (case ki_C_Paper => kit_is)
    (case na_Paper_word => k_is)
    (case na_Paper_labels => k_is)
    (case na_Paper_chain => k_is)
    (case a_check_winds => k_is)
    (case l_check_winds => k_is)
    (case c_check_winds => k_is)
    (case k_check_winds => k_is)
    (case a_check_rows => k_is)
    (case l_check_rows => k_is)
    (case c_check_rows => k_is)
    (case k_check_rows => k_is)
    (case a_spells_of => k_is)
    (case l_spells_of => k_is)
    (case c_spells_of => k_is)
    (case k_spells_of => k_is)
    (case a_ask => k_is)
    (case l_ask => k_is)
    (case dt1_ask => k_is)
    (case dt2_ask => k_is)
    (case c_ask => k_is)
    (case k_ask => k_is)
    (case a_ask_all => k_is)
    (case l_ask_all => k_is)
    (case dt1_ask_all => k_is)
    (case dt2_ask_all => k_is)
    (case c_ask_all => k_is)
    (case k_ask_all => k_is)
    (case a_least_minutes => k_is)
    (case l_least_minutes => k_is)
    (case c_least_minutes => k_is)
    (case k_least_minutes => k_is)
    (case a_Question_init => k_is)
    (case i_Question_init => k_is)
    (case l_Question_init => k_is)
    (case c_Question_init => k_is)
    (case k_Question_init => k_is)
    (case a_Question_is_ahead => k_is)
    (case i_Question_is_ahead => k_is)
    (case l_Question_is_ahead => k_is)
    (case c_Question_is_ahead => k_is)
    (case k_Question_is_ahead => k_is)
    (case a_Question_through => k_is)
    (case i_Question_through => k_is)
    (case l_Question_through => k_is)
    (case c_Question_through => k_is)
    (case k_Question_through => k_is)
    (case a_Question_catches => k_is)
    (case i_Question_catches => k_is)
    (case l_Question_catches => k_is)
    (case c_Question_catches => k_is)
    (case k_Question_catches => k_is)
    (case a_Question_chain_to => k_is)
    (case i_Question_chain_to => k_is)
    (case l_Question_chain_to => k_is)
    (case c_Question_chain_to => k_is)
    (case k_Question_chain_to => k_is)
    (case a_least_numbers => k_is)
    (case l_least_numbers => k_is)
    (case c_least_numbers => k_is)
    (case k_least_numbers => k_is)
    (case a_most_numbers => k_is)
    (case l_most_numbers => k_is)
    (case c_most_numbers => k_is)
    (case k_most_numbers => k_is)
    (case a_Paper_init => k_is)
    (case i_Paper_init => k_is)
    (case l_Paper_init => k_is)
    (case c_Paper_init => k_is)
    (case k_Paper_init => k_is)
    (case a_paper => k_is)
    (case l_paper => k_is)
    (case c_paper => k_is)
    (case k_paper => k_is)
    (case a__labels_of => k_is)
    (case l__labels_of => k_is)
    (case c__labels_of => k_is)
    (case k__labels_of => k_is)
    (case a_check_paper => k_is)
    (case l_check_paper => k_is)
    (case c_check_paper => k_is)
    (case k_check_paper => k_is)
    (case a__keep_off => k_is)
    (case l__keep_off => k_is)
    (case c__keep_off => k_is)
    (case k__keep_off => k_is)
    (case a__hold_starts => k_is)
    (case l__hold_starts => k_is)
    (case c__hold_starts => k_is)
    (case k__hold_starts => k_is)
    (case a__hold_links => k_is)
    (case l__hold_links => k_is)
    (case c__hold_links => k_is)
    (case k__hold_links => k_is)
    (case a__holds => k_is)
    (case l__holds => k_is)
    (case c__holds => k_is)
    (case k__holds => k_is)
    (case a__comes_to => k_is)
    (case l__comes_to => k_is)
    (case c__comes_to => k_is)
    (case k__comes_to => k_is)
    (case a__is_beginning => k_is)
    (case l__is_beginning => k_is)
    (case c__is_beginning => k_is)
    (case k__is_beginning => k_is)
    (case a__follows => k_is)
    (case l__follows => k_is)
    (case c__follows => k_is)
    (case k__follows => k_is)
    (case a_is_name => k_is)
    (case l_is_name => k_is)
    (case c_is_name => k_is)
    (case k_is_name => k_is)
    (case a__check_count => k_is)
    (case l__check_count => k_is)
    (case c__check_count => k_is)
    (case k__check_count => k_is)
    (case a__check_names => k_is)
    (case l__check_names => k_is)
    (case c__check_names => k_is)
    (case k__check_names => k_is)
    (case a__check_ends => k_is)
    (case l__check_ends => k_is)
    (case c__check_ends => k_is)
    (case k__check_ends => k_is)
    (case a__as_bounds => k_is)
    (case l__as_bounds => k_is)
    (case c__as_bounds => k_is)
    (case k__as_bounds => k_is)
    (case a__as_link => k_is)
    (case l__as_link => k_is)
    (case c__as_link => k_is)
    (case k__as_link => k_is)
    (case a__as_path => k_is)
    (case l__as_path => k_is)
    (case c__as_path => k_is)
    (case k__as_path => k_is)
    (case a__check_single_paths => k_is)
    (case l__check_single_paths => k_is)
    (case c__check_single_paths => k_is)
    (case k__check_single_paths => k_is)
    (case a_init => k_is)
    (case i_init => k_is)
    (case l_init => k_is)
    (case c_init => k_is)
    (case k_init => k_is)
    (case tl1 => k_is)
    (case te1 => k_is)
    (case tl2 => k_is)
    (case te2 => k_is)
    (case pr1 => k_is)
    (case pr2 => k_is)
    (case pr3 => k_is)
    (case pr4 => k_is)
    (case l_link_names => k_is)
    (case c_link_names => k_is)
    (case k_link_names => k_is)
    (case a_check_place => k_is)
    (case i_check_place => k_is)
    (case l_check_place => k_is)
    (case c_check_place => k_is)
    (case k_check_place => k_is)
    (case a_check_wind => k_is)
    (case i_check_wind => k_is)
    (case l_check_wind => k_is)
    (case c_check_wind => k_is)
    (case k_check_wind => k_is)
    (case a_link => k_is)
    (case i_link => k_is)
    (case l_link => k_is)
    (case c_link => k_is)
    (case k_link => k_is)
    (case a__law_row => k_is)
    (case l__law_row => k_is)
    (case c__law_row => k_is)
    (case k__law_row => k_is)
    (case a__law_numbers => k_is)
    (case l__law_numbers => k_is)
    (case c__law_numbers => k_is)
    (case k__law_numbers => k_is)
    (case a__law_pick => k_is)
    (case l__law_pick => k_is)
    (case c__law_pick => k_is)
    (case k__law_pick => k_is)
    (case a__law_names => k_is)
    (case l__law_names => k_is)
    (case c__law_names => k_is)
    (case k__law_names => k_is)
    (case a__law_parts => k_is)
    (case l__law_parts => k_is)
    (case c__law_parts => k_is)
    (case k__law_parts => k_is)
    (case a__law_weather => k_is)
    (case l__law_weather => k_is)
    (case c__law_weather => k_is)
    (case k__law_weather => k_is)
    (case a__law_wind => k_is)
    (case l__law_wind => k_is)
    (case c__law_wind => k_is)
    (case k__law_wind => k_is)
    (case a__law_caught => k_is)
    (case l__law_caught => k_is)
    (case c__law_caught => k_is)
    (case k__law_caught => k_is)
    (case a__law_rows => k_is)
    (case l__law_rows => k_is)
    (case c__law_rows => k_is)
    (case k__law_rows => k_is)
    (case a__law_land => k_is)
    (case l__law_land => k_is)
    (case c__law_land => k_is)
    (case k__law_land => k_is)
    (case a__law_case => k_is)
    (case l__law_case => k_is)
    (case c__law_case => k_is)
    (case k__law_case => k_is)
    (case a__law_ends => k_is)
    (case l__law_ends => k_is)
    (case c__law_ends => k_is)
    (case k__law_ends => k_is)
    (case a__law_ahead => k_is)
    (case l__law_ahead => k_is)
    (case c__law_ahead => k_is)
    (case k__law_ahead => k_is)
    (case a__law_is_chain => k_is)
    (case l__law_is_chain => k_is)
    (case c__law_is_chain => k_is)
    (case k__law_is_chain => k_is)
    (case a__law_bounds => k_is)
    (case l__law_bounds => k_is)
    (case c__law_bounds => k_is)
    (case k__law_bounds => k_is)
    (case a__law_is_right => k_is)
    (case l__law_is_right => k_is)
    (case c__law_is_right => k_is)
    (case k__law_is_right => k_is)
    (case a__law_spoilt => k_is)
    (case l__law_spoilt => k_is)
    (case c__law_spoilt => k_is)
    (case k__law_spoilt => k_is)
    (case a_law => k_is)
    (case l_law => k_is)
    (case c_law => k_is)
    (case k_law => k_is)
    (case gh_heapify => k_is)
    (case gh_heappush => k_is)
    (case gh_heappop => k_is)
    (case z_abs => k_is)
    (case z_all => k_is)
    (case z_any => k_is)
    (case z_bool => k_is)
    (case z_enumerate => k_is)
    (case z_int => k_is)
    (case z_isinstance => k_is)
    (case z_len => k_is)
    (case z_list => k_is)
    (case z_max => k_is)
    (case z_min => k_is)
    (case z_range => k_is)
    (case z_set => k_is)
    (case z_sorted => k_is)
    (case z_tuple => k_is)
    (case z_zip => k_is)
    (case g_DIGITS => k_is)
    (case g_LAST_CHANGE => k_is)
    (case g_LETTERS => k_is)
    (case g_LONGEST_NAME => k_is)
    (case g_MAYBE => k_is)
    (case g_MOST_LINKS => k_is)
    (case g_MOST_MINUTES => k_is)
    (case g_MOST_PATHS => k_is)
    (case g_MOST_PLACES => k_is)
    (case g_MOST_ROWS => k_is)
    (case g_MOST_WINDS => k_is)
    (case g_NEVER => k_is)
    (case g_SURELY => k_is)
    (case pg => k_is)
    (case hd => k_is)
    (case po => k_is)
    (case sa => k_is)
    (case mk => k_is)
    (case kc => k_is)
    (case nW => k_is)
    (case nP => k_is)
    (case nL => k_is)
    (case nA => k_is)

