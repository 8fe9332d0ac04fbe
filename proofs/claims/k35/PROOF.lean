import PyProof.Rows.All
import Wide.All
import OpenK.AllK
import Wide.FinOn
import PyProof.EqAt
import PyProof.EqKinds
import PyProof.TupleCall
import HandS.Base
import HandS.Call
import HandS.List
import HandS.ForMost
import HandS.ForExc
import HandS.RaiseMore
import HandS.FStr
import HandS.MakeKwOnly
import HandS.Property
import HandS.IsInst
import HandS.Evl
import HandS.Deep
import HandS.TupSets
import HandS.SetFor
import KE.KExcSuper
import HandS.ExcInit
import HandS.Nested
import HandS.ExcIs
import HandS.ExcField
import HandS.TryMany
import KE.KExcIs
import KE.LtSeq
import HandS.Struct
import HandS.Iter
import HandS.Dict
import HandS.DictComp
import HandS.Walk
import HandS.More
import KE.GoesEnum
import PyProof.EnumMake
import HandS.DeepEq
import KE.KEqNest
import HandS.Strs
import HandS.Star
import HandS.Zip
import HandS.TupAny
import PySem.Challenge.RW_everyfire_k35_whole_weathers_and_cuts
set_option Elab.async false
set_option linter.all false
set_option maxRecDepth 100000
set_option maxHeartbeats 4000000
/-! len(set(xs)) of any number of texts -/
namespace EvS
open PySem PySem.Spec PyProof.Rows
/-- the different ones, each where it came first -/
def dd {α : Type} [DecidableEq α] : List α → List α → List α
  | acc, [] => acc
  | acc, x :: r => dd (if x ∈ acc then acc else acc ++ [x]) r
theorem dd_len_le {α : Type} [DecidableEq α] : ∀ (l acc : List α), (dd acc l).length ≤ acc.length + l.length
  | [], acc => Nat.le_refl _
  | x :: r, acc => by
    unfold dd
    by_cases h : x ∈ acc
    · rw [if_pos h]
      have := dd_len_le r acc
      simp only [List.length_cons]
      omega
    · rw [if_neg h]
      have := dd_len_le r (acc ++ [x])
      simp only [List.length_cons, List.length_append, List.length_nil] at this ⊢
      omega
theorem dd_len_eq {α : Type} [DecidableEq α] : ∀ (l acc : List α), acc.Nodup → ((dd acc l).length = acc.length + l.length ↔ (acc ++ l).Nodup)
  | [], acc, h => by simp [dd, h]
  | x :: r, acc, h => by
    unfold dd
    by_cases hx : x ∈ acc
    · rw [if_pos hx]
      have h1 := dd_len_le r acc
      constructor
      · intro e
        simp only [List.length_cons] at e
        omega
      · intro e
        have := (List.nodup_append.mp e).2.2 x hx x (List.mem_cons_self ..)
        exact absurd rfl this
    · rw [if_neg hx]
      have hn : (acc ++ [x]).Nodup := by
        rw [List.nodup_append]
        refine ⟨h, by simp, fun a ha b hb => ?_⟩
        rw [List.mem_singleton] at hb
        subst hb
        exact fun e => hx (e ▸ ha)
      have ih := dd_len_eq r (acc ++ [x]) hn
      simp only [List.length_cons, List.length_append, List.length_nil, List.append_assoc, List.singleton_append] at ih ⊢
      rw [← ih]
      omega
theorem dd_snoc {α : Type} [DecidableEq α] (x : α) : ∀ (l acc : List α), dd acc (l ++ [x]) = (if x ∈ dd acc l then dd acc l else dd acc l ++ [x])
  | [], acc => rfl
  | y :: r, acc => by
    show dd _ (r ++ [x]) = _
    rw [dd_snoc x r]
    rfl
section
variable {prog : Program} {w : World} {A : Around} {R : Result → Shared → Prop} {I : Addr} {fp wr : List Addr} {G : Array GenState → Array GenState → Prop} {n : Nat} {P : Nat → Value → Prop} {St : Nat → Shared → Prop}
variable {κ : Type} [DecidableEq κ] {kd : KeyKind prog w κ}
theorem turnK (W : WalksS prog w A.in1 I fp wr G n P St) (S : Addr) (hSf : S ∉ fp) (ks : List κ) (hlen : ks.length = n) (hmax : n < 4000)
    (hat : ∀ i v k, P i v → ks[i]? = some k → kd.is k v = true ∧ v.scannable = true) :
    ∀ (m i : Nat) (s : Shared), n - i = m → i ≤ n → St i s →
      Heap.SetOf kd s.heap S (fun k => decide (k ∈ dd [] (ks.take i))) (dd [] (ks.take i)).length →
      (∀ s', Moved (S :: wr) G s s' → Heap.SetOf kd s'.heap S (fun k => decide (k ∈ dd [] ks)) (dd [] ks).length → R (.ok (.ret .none)) s') →
      codeAny (model prog w) A (.builtin "set.update.loop" ⟨[.ref S, .ref I], []⟩) R s := by
  have nw : S ∉ wr := fun q => hSf (W.sub _ q)
  have up : ∀ c ∈ wr, c ∈ S :: wr := fun c hc => List.mem_cons_of_mem _ hc
  intro m
  induction m with
  | zero =>
    intro i s hm hi hst hS hR
    obtain rfl : i = n := by omega
    refine codeAny_builtin PyProof.Rows.F.entry_set_update_loop ?_
    rw [Around.under_plainId PyProof.Rows.F.plain_set_update_loop _]
    show wpAny _ A.in1 (pyNext (.ref I) >>= _) _ _ s
    refine wpAny_bind (W.done s _ _ hst fun s1 mv => ?_)
    refine wpAny_pure (hR s1 (mv.mono up) ?_)
    rw [← hlen, List.take_length] at hS
    obtain ⟨o, es, ep, t, ho, more⟩ := hS
    exact ⟨o, es, ep, t, mv.heap S _ nw ho, more⟩
  | succ m ih =>
    intro i s hm hi hst hS hR
    have lt : i < n := by omega
    obtain ⟨k0, hk0⟩ : ∃ k, ks[i]? = some k := ⟨ks[i]'(by omega), List.getElem?_eq_getElem (by omega)⟩
    refine codeAny_builtin PyProof.Rows.F.entry_set_update_loop ?_
    rw [Around.under_plainId PyProof.Rows.F.plain_set_update_loop _]
    show wpAny _ A.in1 (pyNext (.ref I) >>= _) _ _ s
    refine wpAny_bind (W.item i s _ _ lt hst fun v s1 hP hst1 mv => ?_)
    obtain ⟨hv, hsc⟩ := hat i v k0 hP hk0
    have hS1 : Heap.SetOf kd s1.heap S (fun k => decide (k ∈ dd [] (ks.take i))) (dd [] (ks.take i)).length := by
      obtain ⟨o, es, ep, t, ho, more⟩ := hS
      exact ⟨o, es, ep, t, mv.heap S _ nw ho, more⟩
    show wpAny _ A.in1 (holding [v] (setAdd S v) >>= _) _ _ s1
    refine wpAny_bind (wpAny_holding ?_)
    unfold setAdd
    refine wpAny_holding ?_
    refine wpAny_bind (kd.pyHash (k := k0) hv ?_)
    have small : (dd [] (ks.take i)).length + 1 < scanBound := by
      have q := dd_len_le (ks.take i) []
      rw [List.length_take, List.length_nil] at q
      unfold scanBound
      omega
    refine wpAny_setAddHashed_of (knd := kd) (s := { s1 with toks := s1.toks + 1 }) hv hsc hS1 small fun h2 sb hS2 => ?_
    have et : ks.take (i + 1) = ks.take i ++ [k0] := by
      rw [List.take_add_one, hk0] <;> rfl
    have hS3 : Heap.SetOf kd h2 S (fun k => decide (k ∈ dd [] (ks.take (i + 1)))) (dd [] (ks.take (i + 1))).length := by
      rw [et, dd_snoc]
      by_cases hin : k0 ∈ dd [] (ks.take i)
      · rw [if_pos hin]
        rw [if_pos (decide_eq_true hin)] at hS2
        have e : (fun k' => decide (k' ∈ dd [] (ks.take i)) || decide (k' = k0)) = fun k => decide (k ∈ dd [] (ks.take i)) := by
          funext k'
          by_cases q : k' = k0
          · subst q
            simp [hin]
          · simp [q]
        rw [e] at hS2
        exact hS2
      · rw [if_neg hin]
        rw [if_neg (by simpa using hin)] at hS2
        have e : (fun k' => decide (k' ∈ dd [] (ks.take i)) || decide (k' = k0)) = fun k => decide (k ∈ dd [] (ks.take i) ++ [k0]) := by
          funext k'
          simp [List.mem_append]
        rw [e] at hS2
        rw [List.length_append]
        exact hS2
    refine wpAny_pure ⟨plainId_quiet PyProof.Rows.F.plain_set_update_loop _, ih (i + 1) _ (by omega) lt (W.frame _ s1 _ _ hst1 (Nat.le_succ _) fun c hc o e => ?_) hS3 fun s3 mv3 hS4 => ?_⟩
    · rw [sb.2 c (fun z : c = S => hSf (by rw [← z]; exact hc))]
      exact e
    · refine hR s3 (Moved.trans W.gtrans ((mv.mono up).then_heap (Nat.le_succ _) fun c o hc e => ?_) mv3) hS4
      rw [sb.2 c (fun z : c = S => hc (by rw [z]; exact List.mem_cons_self))]
      exact e
end
section
variable {prog : Program} {w : World} {A : Around} {E : Value → Shared → Prop} {s : Shared} {κ : Type} [DecidableEq κ] {kd : KeyKind prog w κ}
def blankSet (led : Bool) : Obj := { cls := .type "set", dict := none, data := .set #[] 0 (.fresh 0 0 led) }
/-- set(l), l a list (isT false) or a tuple (isT true) -/
theorem call_setK {l : Addr} {its : Array Value} {ks : List κ} {Q : Value → Shared → Prop} (hA : A.handled = none) (hl : s.heap.IsList l its ∨ s.heap.IsTuple l its)
    (hlen : ks.length = its.size) (hmax : its.size < 4000) (hat : ∀ (i : Nat) (v : Value) (k : κ), its[i]? = some v → ks[i]? = some k → kd.is k v = true ∧ v.scannable = true)
    (h : ∀ (h' : Heap) (tk : Nat), Heap.SetOf kd h' s.heap.objs.size (fun k => decide (k ∈ dd [] ks)) (dd [] ks).length →
      (∀ c o, c < s.heap.objs.size → s.heap.get? c = some o → h'.get? c = some o) → Q (.ref s.heap.objs.size) { s with heap := h', toks := tk }) :
    wpAny (model prog w) A (call (.type "set") [.ref l]) Q E s := by
  obtain ⟨c, tl, hmro⟩ := PySem.F.called_set.mro
  have hmade := PySem.F.called_set.made
  have hsub := PySem.F.called_set.sub
  refine wpAny_call (codeAny_of_tree ?_)
  show wpAny _ _ (callAny (.type "set") _) _ _ _
  refine wpAny_pure ⟨Code.quiet_builtin _ (by decide +kernel), codeAny_builtin PySem.F.entry_type_call ?_⟩
  rw [Around.under_plain (weight_type_call_type "set" [.ref l] []) rfl]
  have h1 := PySem.F.called_set.notType
  have h2 := PySem.F.called_set.canCreate
  have hct := PySem.F.typeCall_set_1 (.ref l)
  repeat (any_goals (first | assumption | wp_step))
  refine codeAny_mono (code_set_new_1 (.ref l) (E := E) (Q₁ := fun b s₁ => ∃ led : Bool, b = .ref s.heap.objs.size ∧ s₁ = { s with heap := s.heap.push (blankSet led) }) fun led => ⟨led, rfl, rfl⟩) fun r s₁ hr => ?_
  cases r with
  | error e => exact hr
  | ok fl =>
    cases fl with
    | ret b =>
      obtain ⟨led, rfl, rfl⟩ := hr
      have hS : (s.heap.push (blankSet led)).get? s.heap.objs.size = some (blankSet led) := Heap.get?_push_size _ rfl
      have hT : Shared.TypeIs { s with heap := s.heap.push (blankSet led) } (.ref s.heap.objs.size) "set" := ⟨_, hS, rfl⟩
      have hli := PySem.F.called_set.init.lookup
      have hbi := PySem.F.called_set.init.bind (.ref s.heap.objs.size)
      repeat (any_goals (first | assumption | wp_step))
      refine codeAny_mono (codeAny_call_builtin (R := wants (fun r s₂ => r = .none ∧ ∃ h' tk, s₂ = { s with heap := h', toks := tk } ∧
          Heap.SetOf kd h' s.heap.objs.size (fun k => decide (k ∈ dd [] ks)) (dd [] ks).length ∧
          (∀ c o, c < s.heap.objs.size → s.heap.get? c = some o → h'.get? c = some o)) E) PySem.F.called_set.init.plain PySem.F.entry_set_init (check_set_init_1 hT ?_)) fun r₂ s₂ hr₂ => ?_
      · have fin : ∀ (s1 : Shared) (I : Addr), I ≠ s.heap.objs.size → s.heap.objs.size < I → Moved [s.heap.objs.size, I] (fun a b => a = b) { s with heap := (s.heap.push (blankSet led)) } s1 → True := fun _ _ _ _ _ => trivial
        clear fin
        rcases hl with hl | hl
        · obtain ⟨ol, hol, hcl, nl, hdl⟩ := hl
          obtain ⟨ocls, odict, odata, oslots⟩ := ol
          simp only at hcl hdl
          subst hcl; subst hdl
          have hol' : (s.heap.push (blankSet led)).get? l = some { cls := .type "list", dict := odict, data := .seq its nl, slots := oslots } := Heap.get?_push_of_some _ hol
          have hsls := PySem.F.sub_list_set
          have hslf := PySem.F.sub_list_frozenset
          have hne : (Value.type "list" == Value.type "dict") = false := by decide
          have hl1 : (s.heap.push (blankSet led)).IsList l its := ⟨_, hol', rfl, nl, rfl⟩
          unfold Builtin.«set.__init__» noKeywords Builtin.Frozenset.updateFrom
          generalize hPI : pyIter = PI
          wp_walk
          subst hPI
          refine wpAny_pyIter_list hl1 ?_
          refine wpAny_bind (wpAny_runValue ?_)
          have hlS : l < s.heap.objs.size := Heap.lt_size hol
          have h3 : A.in1.in1.in1.handled = none := by simp [hA]
          have nI : l ≠ (s.heap.push (blankSet led)).objs.size := by
            rw [Heap.size_push]; exact Nat.ne_of_lt (Nat.lt_succ_of_lt hlS)
          have nS : s.heap.objs.size ∉ [(s.heap.push (blankSet led)).objs.size, l] := by
            rw [Heap.size_push]; simp only [List.mem_cons, List.mem_singleton, List.not_mem_nil, or_false, not_or]
            exact ⟨Nat.ne_of_lt (Nat.lt_succ_self _), Nat.ne_of_gt hlS⟩
          refine turnK (kd := kd) ((Walks.list h3 _ l nI its).toS) s.heap.objs.size nS ks hlen hmax (fun i v k hv hk => hat i v k hv hk) (its.size - 0) 0 _ (by omega) (Nat.zero_le _) ⟨⟨_, Heap.get?_push_size _ rfl, rfl, rfl⟩, (hl1.push _)⟩ ?hS0 ?hR
          case hS0 =>
            have hget : ((s.heap.push (blankSet led)).push { cls := .type "list_iterator", data := .fields #[.ref l, .int 0 0] }).get? s.heap.objs.size = some (blankSet led) := Heap.get?_push_of_some _ hS
            exact PyProof.Rows.SetOf_congr ((PyProof.Rows.setObjOf_fresh (knd := kd) led).setOf hget (by unfold scanBound; omega)) (fun _ => rfl) rfl
          case hR =>
            intro s' mv hS'
            obtain ⟨h', g', d', tk', os'⟩ := s'
            obtain rfl : g' = s.gens := mv.gens
            obtain rfl : d' = s.drawn := mv.drawn
            obtain rfl : os' = s.os := mv.os
            show wpAny _ _ _ _ _ _
            refine wpAny_pure ?_
            show wpAny _ _ (ret Value.none) _ _ _
            refine wpAny_pure ⟨rfl, h', tk', rfl, hS', fun c o hc e => ?_⟩
            have n1 : c ≠ s.heap.objs.size := Nat.ne_of_lt hc
            have n2 : c ≠ (s.heap.push (blankSet led)).objs.size := by
              rw [Heap.size_push]; exact Nat.ne_of_lt (Nat.lt_succ_of_lt hc)
            exact mv.heap c o (by simp only [List.mem_cons, List.mem_singleton, List.not_mem_nil, or_false, not_or]; exact ⟨n1, n2⟩) (Heap.get?_push_of_some _ (Heap.get?_push_of_some _ e))
        · obtain ⟨ol, hol, hcl, nl, hdl⟩ := hl
          obtain ⟨ocls, odict, odata, oslots⟩ := ol
          simp only at hcl hdl
          subst hcl; subst hdl
          have hol' : (s.heap.push (blankSet led)).get? l = some { cls := .type "tuple", dict := odict, data := .seq its nl, slots := oslots } := Heap.get?_push_of_some _ hol
          have hsls := PySem.F.sub_tuple_set
          have hslf := PySem.F.sub_tuple_frozenset
          have hne : (Value.type "tuple" == Value.type "dict") = false := by decide
          have hl1 : (s.heap.push (blankSet led)).IsTuple l its := ⟨_, hol', rfl, nl, rfl⟩
          unfold Builtin.«set.__init__» noKeywords Builtin.Frozenset.updateFrom
          generalize hPI : pyIter = PI
          wp_walk
          subst hPI
          refine wpAny_pyIter_tuple hl1 ?_
          refine wpAny_bind (wpAny_runValue ?_)
          have hlS : l < s.heap.objs.size := Heap.lt_size hol
          have h3 : A.in1.in1.in1.handled = none := by simp [hA]
          have nI : l ≠ (s.heap.push (blankSet led)).objs.size := by
            rw [Heap.size_push]; exact Nat.ne_of_lt (Nat.lt_succ_of_lt hlS)
          have nS : s.heap.objs.size ∉ [(s.heap.push (blankSet led)).objs.size, l] := by
            rw [Heap.size_push]; simp only [List.mem_cons, List.mem_singleton, List.not_mem_nil, or_false, not_or]
            exact ⟨Nat.ne_of_lt (Nat.lt_succ_self _), Nat.ne_of_gt hlS⟩
          refine turnK (kd := kd) ((Walks.tuple h3 _ l nI its).toS) s.heap.objs.size nS ks hlen hmax (fun i v k hv hk => hat i v k hv hk) (its.size - 0) 0 _ (by omega) (Nat.zero_le _) ⟨⟨_, Heap.get?_push_size _ rfl, rfl, rfl⟩, (hl1.push _)⟩ ?hS0 ?hR
          case hS0 =>
            have hget : ((s.heap.push (blankSet led)).push { cls := .type "tuple_iterator", data := .fields #[.ref l, .int 0 0] }).get? s.heap.objs.size = some (blankSet led) := Heap.get?_push_of_some _ hS
            exact PyProof.Rows.SetOf_congr ((PyProof.Rows.setObjOf_fresh (knd := kd) led).setOf hget (by unfold scanBound; omega)) (fun _ => rfl) rfl
          case hR =>
            intro s' mv hS'
            obtain ⟨h', g', d', tk', os'⟩ := s'
            obtain rfl : g' = s.gens := mv.gens
            obtain rfl : d' = s.drawn := mv.drawn
            obtain rfl : os' = s.os := mv.os
            show wpAny _ _ _ _ _ _
            refine wpAny_pure ?_
            show wpAny _ _ (ret Value.none) _ _ _
            refine wpAny_pure ⟨rfl, h', tk', rfl, hS', fun c o hc e => ?_⟩
            have n1 : c ≠ s.heap.objs.size := Nat.ne_of_lt hc
            have n2 : c ≠ (s.heap.push (blankSet led)).objs.size := by
              rw [Heap.size_push]; exact Nat.ne_of_lt (Nat.lt_succ_of_lt hc)
            exact mv.heap c o (by simp only [List.mem_cons, List.mem_singleton, List.not_mem_nil, or_false, not_or]; exact ⟨n1, n2⟩) (Heap.get?_push_of_some _ (Heap.get?_push_of_some _ e))
      · cases r₂ with
        | error e => exact hr₂
        | ok fl₂ =>
          cases fl₂ with
          | ret r =>
            obtain ⟨rfl, h', tk, rfl, hS', hk'⟩ := hr₂
            repeat (any_goals (first | assumption | wp_step))
            exact h _ _ hS' hk'
          | _ => exact hr₂.elim
    | _ => exact hr.elim
end
end EvS
namespace L2
open PySem PySem.Spec PyProof.Rows EvS
section
variable {X : Cx}
/-- len(set(xs)), xs a list or a tuple of texts -/
def tLenSetS (K : PySem.W.Frag) (ta : TE) : TE := fun σ H Q => ta σ H fun x H1 => ∃ (l : Addr) (xs : List Str), x = .ref l ∧ (SqL K H1 l (xs.map V.str) ∨ SqT K H1 l (xs.map V.str)) ∧ xs.length < 4000 ∧ Q (.int ((dd [] xs).length : Nat)) H1
theorem texts_at : ∀ {xs : List Str} {us : List Value}, Vals (xs.map V.str) us → ∀ (i : Nat) (v : Value) (k : Str), us[i]? = some v → xs[i]? = some k → ∃ t, v = Value.str k t
  | [], _, _, i, v, k, _, h => by simp at h
  | x :: xs, _, .cons r t, 0, v, k, h1, h2 => by
    obtain ⟨tk, rfl⟩ := r
    simp only [List.getElem?_cons_zero, Option.some.injEq] at h1 h2
    subst h1 h2
    exact ⟨tk, rfl⟩
  | x :: xs, _, .cons r t, i + 1, v, k, h1, h2 => by
    simp only [List.getElem?_cons_succ] at h1 h2
    exact texts_at t i v k h1 h2
theorem pe_lenSetS {a : Expr} {ta : TE} {p p2 q pos : Pos} (hc : X.calm = true) (hg : Gl X "len") (hm : X.mg "len" = none) (hg2 : Gl X "set") (hm2 : X.mg "set" = none) (ha : PE X a ta)
    (na : starEach [a] X.env = (false, eval a X.env) :: starEach [] X.env := by rfl) : PE X (.Call (.Name "len" p) [.Call (.Name "set" p2) [a] [] q] [] pos) (tLenSetS X.K ta) := by
  refine ⟨fun pins s σ H Q I h => ?_⟩
  refine Call_ (ld_blt I hg hm boot_len ?_)
  refine PyProof.Rows.callWith_builtin1 (PyProof.Rows.args_cons ?_ rfl) rfl rfl
  refine Call_ (ld_blt I hg2 hm2 boot_set ?_)
  refine PyProof.Rows.callWith_type1 (PyProof.Rows.args_cons (thn (ha.run pins s σ H _ I h) fun v s1 ⟨x, H1, I1, r1, q1⟩ => PyProof.Rows.args_nil ?_) na) na rfl
  obtain ⟨l, xs, rfl, hq, hmax, q1⟩ := q1
  cases r1
  have go : ∀ (its : List Value), Vals (xs.map V.str) its → (s1.heap.IsList l its.toArray ∨ s1.heap.IsTuple l its.toArray) →
      wpAny (model X.prog X.w) X.A (call (.type "set") [.ref l]) (fun v s₂ => wpAny (model X.prog X.w) X.A (spliced (backTo pos (starEach [] X.env))) (fun vs s₃ => wpAny (model X.prog X.w) X.A (call (.builtin "len") (v :: vs)) (EP X pins σ Q) X.xe s₃) X.xe s₂) X.xe s1 := fun its r pl => by
    have hl : its.toArray.size = xs.length := by rw [List.size_toArray, ← r.length, List.length_map]
    refine call_setK (kd := PySem.strKind X.prog X.w) (ks := xs) (I1.ok.hd hc) pl hl.symm (by rw [hl]; exact hmax) (fun i v k hv hk => ?_) fun h' tk hS hk => ?_
    · obtain ⟨t, rfl⟩ := texts_at r i v k (by rw [List.getElem?_toArray] at hv; exact hv) hk
      exact ⟨strKind_is _ _ _ _, rfl⟩
    · refine PyProof.Rows.args_nil ?_
      obtain ⟨o, es, ep, t, ho, hex, hd, _, _, _, hf, hn⟩ := hS
      have I2 : Inv X pins σ H1 { s1 with heap := h', toks := tk } := I1.kept fun c o e => hk c o (Heap.lt_size e) e
      have sm := dd_len_le xs []
      rw [List.length_nil] at sm
      exact call_len_set ho hex hd hf (by rw [hn] <;> omega) ⟨.int ((dd [] xs).length : Nat), H1, I2.tok _, ⟨_, by rw [hn]⟩, q1⟩
  rcases hq with hq | hq
  · obtain ⟨its, r, pl, hz⟩ := I1.list hq
    exact go its r (.inl pl.isList)
  · obtain ⟨its, r, pl, hz⟩ := I1.tuple hq
    exact go its r (.inr pl)
end
end L2

set_option Elab.async false
set_option linter.all false
set_option maxRecDepth 100000
set_option maxHeartbeats 4000000
namespace EvS
open PySem PySem.Spec PyProof.Rows L2
section
variable {X : Cx}
def rTupK (K : PySem.W.Frag) : List V → Hp → VK → Prop := fun xs H Q => ∃ p ys, xs = [.ref p] ∧ ((SqL K H p ys ∧ ∀ l, H l = none → Q (.ref l) (upd H l (.tup ys))) ∨ (SqT K H p ys ∧ Q (.ref p) H))
theorem call_tupK : CallR X (.type "tuple") (rTupK X.K) := call_tuple_of
/-- tuple(xs), xs a list or a tuple -/
def rTupS (K : PySem.W.Frag) : List V → Hp → VK → Prop := fun xs H Q => ∃ p ys, xs = [.ref p] ∧ (SqL K H p ys ∨ SqT K H p ys) ∧ ∀ u H', Evl.Ex H H' → SqT K H' u ys → Q (.ref u) H'
theorem call_tupS : CallR X (.type "tuple") (rTupS X.K) := fun pins s σ H xs us Q I r h => by
  obtain ⟨p, ys, e, hs, q⟩ := h
  refine call_tuple_of pins s σ H xs us Q I r ⟨p, ys, e, ?_⟩
  rcases hs with hs | hs
  · exact .inl ⟨hs, fun l hl => q l _ (Evl.Ex.new hl) (Evl.st_of upd_same)⟩
  · exact .inr ⟨hs, q p H (Evl.Ex.refl H) hs⟩
def rLstK (K : PySem.W.Frag) : List V → Hp → VK → Prop := fun xs H Q => ∃ p ys, xs = [.ref p] ∧ (SqL K H p ys ∨ SqT K H p ys) ∧ ∀ l, H l = none → Q (.ref l) (upd H l (.lst ys))
theorem call_lstK : CallR X (.type "list") (rLstK X.K) := call_list_of
/-- what is never reached -/
theorem pss_any {b : List Stmt} : PSs X b (fun _ _ _ => False) := ⟨fun _ _ _ _ _ _ q => q.elim⟩
theorem ps_any {b : Stmt} : PS X b (fun _ _ _ => False) := ⟨fun _ _ _ _ _ _ q => q.elim⟩
theorem pe_any {e : Expr} : PE X e (fun _ _ _ => False) := ⟨fun _ _ _ _ _ _ q => q.elim⟩
theorem pt_any {e : Expr} : PT X e (fun _ _ _ => False) := ⟨fun _ _ _ _ _ _ q => q.elim⟩
/-- the one way or the other -/
theorem pi_or {tg it : Expr} {w1 w2 : TI} (a : PI X tg it w1) (b : PI X tg it w2) : PI X tg it (fun σ H R => w1 σ H R ∨ w2 σ H R) :=
  ⟨fun pins s σ H R I h => h.elim (fun q => a.run pins s σ H R I q) (fun q => b.run pins s σ H R I q)⟩
theorem pe_or2 {e : Expr} {t1 t2 : TE} (a : PE X e t1) (b : PE X e t2) : PE X e (fun σ H Q => t1 σ H Q ∨ t2 σ H Q) :=
  ⟨fun pins s σ H Q I h => h.elim (fun q => a.run pins s σ H Q I q) (fun q => b.run pins s σ H Q I q)⟩
end
section
variable {X : Cx}
theorem pe_gI {x : Str} {n : Int} {pos : Pos} (hg : Gl X x) (h : ∃ t, X.mg x = some (.int n t)) (hd : (x == ("__debug__" : Str)) = false := by decide) : PE X (.Name x pos) (tC (.int n)) := by
  obtain ⟨t, e⟩ := h
  exact pe_glob hg e ⟨t, rfl⟩ hd
theorem pe_gS {x : Str} {z : Str} {pos : Pos} (hg : Gl X x) (h : ∃ t, X.mg x = some (.str z t)) (hd : (x == ("__debug__" : Str)) = false := by decide) : PE X (.Name x pos) (tC (.str z)) := by
  obtain ⟨t, e⟩ := h
  exact pe_glob hg e ⟨t, rfl⟩ hd
end
/-- a op b op c op d, as a test -/
def tChain3 (r1 r2 r3 : R2) (ta tb tc td : TE) : TE := fun σ H Q => ta σ H fun x H1 => tb σ H1 fun y H2 => r1 x y H2 fun z H3 => ∃ k, z = .bl k ∧ (if k = true then tc σ H3 fun u H4 => r2 y u H4 fun z' H5 => ∃ k', z' = .bl k' ∧ (if k' = true then td σ H5 fun v H6 => r3 u v H6 Q else Q (.bl false) H5) else Q (.bl false) H3)
theorem pt_chain3 {X : Cx} {a b c d : Expr} {ta tb tc td : TE} {pos : Pos} {o1 o2 o3 : CmpOp} {r1 r2 r3 : R2} (h1 : OpR X (compareOp o1) r1) (h2 : OpR X (compareOp o2) r2) (h3 : OpR X (compareOp o3) r3) (ha : PE X a ta) (hb : PE X b tb) (hc : PE X c tc) (hd : PE X d td)
    (hm : lastMarks [o1, o2, o3] [b, c, d] = false := by with_unfolding_all rfl) : PT X (.Compare a [o1, o2, o3] [b, c, d] pos) (tTest (tChain3 r1 r2 r3 ta tb tc td)) := by
  refine ⟨fun pins s σ H Q I h => ?_⟩
  refine isTrue_chain (thn (ha.run pins s σ H _ I h) fun v1 s1 ⟨x, H1, I1, y1, q1⟩ => test_link (thn (hb.run pins s1 σ H1 _ I1 q1) fun v2 s2 ⟨y, H2, I2, y2, q2⟩ => thn (h1 pins s2 σ H2 x y v1 v2 _ I2 y1 y2 q2) fun v3 s3 ⟨z, H3, I3, y3, k, e, q3⟩ => ?_)) hm
  subst e
  cases y3
  refine wpAny_truthy_bool ?_
  cases k with
  | false =>
    obtain ⟨k', e', q'⟩ := q3
    cases e'
    exact ite_ff ⟨H3, I3, q'⟩
  | true =>
    refine ite_tt (test_link (thn (hc.run pins s3 σ H3 _ I3 q3) fun v4 s4 ⟨u, H4, I4, y4, q4⟩ => thn (h2 pins s4 σ H4 y u v2 v4 _ I4 y2 y4 q4) fun v5 s5 ⟨z', H5, I5, y5, k', e', q5⟩ => ?_))
    subst e'
    cases y5
    refine wpAny_truthy_bool ?_
    cases k' with
    | false =>
      obtain ⟨k2, e2, q2'⟩ := q5
      cases e2
      exact ite_ff ⟨H5, I5, q2'⟩
    | true =>
      refine ite_tt (test_last (thn (hd.run pins s5 σ H5 _ I5 q5) fun v6 s6 ⟨v, H6, I6, y6, q6⟩ => thn (h3 pins s6 σ H6 u v v4 v6 _ I6 y4 y6 q6) fun v7 s7 ⟨z2, H7, I7, y7, k2, e2, q7⟩ => ?_))
      subst e2
      cases y7
      exact wpAny_truthy_bool ⟨H7, I7, q7⟩
theorem for_sign {x : Str} {g : TG} {tb : TS} {D : Ends} {σ : L2.St} {H : Hp} (Pv : Nat → L2.St → Hp → Prop) (h0 : Pv 0 σ H)
    (hs : ∀ i c σ H, x.cps[i]? = some c → Pv i σ H → g (.str ⟨#[c]⟩) σ H fun σ2 H2 => tb { D with nx := Pv (i + 1), ct := Pv (i + 1), bk := D.nx } σ2 H2) (hd : ∀ σ H, Pv x.cps.size σ H → D.nx σ H) :
    ∃ W : Nat → Nat → L2.St → Hp → Prop, (∃ m, W 0 m σ H) ∧ ∀ i m σ H, W i m σ H → ((Its x).stop i H ∧ D.nx σ H) ∨
      ((Its x).go i H ∧ ∃ N : L2.St → Hp → Prop, (∀ σ' H', N σ' H' → ∃ m', m' < m ∧ W (i + 1) m' σ' H') ∧ ∀ v H', (Its x).yld i H v H' → g v σ H' fun σ2 H2 => tb { D with nx := N, ct := N, bk := D.nx } σ2 H2) := by
  refine ⟨fun i m σ H => m = x.cps.size - i ∧ i ≤ x.cps.size ∧ Pv i σ H, ⟨x.cps.size, rfl, Nat.zero_le _, h0⟩, ?_⟩
  rintro i m σ H ⟨rfl, hi, p⟩
  by_cases lt : i < x.cps.size
  · refine .inr ⟨lt, Pv (i + 1), fun σ' H' p' => ⟨x.cps.size - (i + 1), by omega, rfl, lt, p'⟩, fun v H' y => ?_⟩
    obtain ⟨rfl, c, hc, rfl⟩ := y
    exact hs i c σ _ hc p
  · obtain rfl : i = x.cps.size := by omega
    exact .inl ⟨Nat.le_refl _, hd σ H p⟩
theorem lc_sign {x : Str} {g : TG} {tt : TT} {te : TE} {vs : List Nat} {σ : L2.St} {H1 : Hp} {D : Addr} {Qd : Hp → Prop} (Pv : Nat → Hp → Prop) (h0 : Pv 0 (upd H1 D (.lst [])))
    (hs : ∀ i c H, x.cps[i]? = some c → Pv i H → g (.str ⟨#[c]⟩) (wipe σ vs) H fun σ2 H2 => wipe σ2 vs = wipe σ vs ∧ tt σ2 H2 fun b H3 =>
      if b = true then te σ2 H3 fun y H4 => ∃ acc, H4 D = some (.lst acc) ∧ acc.length < sizeLine ∧ Pv (i + 1) (upd H4 D (.lst (acc ++ [y]))) else Pv (i + 1) H3) (hd : ∀ H, Pv x.cps.size H → Qd H) :
    ∃ W : Nat → Nat → Hp → Prop, (∃ m, W 0 m (upd H1 D (.lst []))) ∧ ∀ i m H, W i m H → ((Its x).stop i H ∧ Qd H) ∨
      ((Its x).go i H ∧ ∃ Nx : Hp → Prop, (∀ H', Nx H' → ∃ m', m' < m ∧ W (i + 1) m' H') ∧ ∀ v H', (Its x).yld i H v H' → g v (wipe σ vs) H' fun σ2 H2 => wipe σ2 vs = wipe σ vs ∧ tt σ2 H2 fun b H3 =>
        if b = true then te σ2 H3 fun y H4 => ∃ acc, H4 D = some (.lst acc) ∧ acc.length < sizeLine ∧ Nx (upd H4 D (.lst (acc ++ [y]))) else Nx H3) := by
  refine ⟨fun i m H => m = x.cps.size - i ∧ i ≤ x.cps.size ∧ Pv i H, ⟨x.cps.size, rfl, Nat.zero_le _, h0⟩, ?_⟩
  rintro i m H ⟨rfl, hi, p⟩
  by_cases lt : i < x.cps.size
  · refine .inr ⟨lt, Pv (i + 1), fun H' p' => ⟨x.cps.size - (i + 1), by omega, rfl, lt, p'⟩, fun v H' y => ?_⟩
    obtain ⟨rfl, c, hc, rfl⟩ := y
    exact hs i c _ hc p
  · obtain rfl : i = x.cps.size := by omega
    exact .inl ⟨Nat.le_refl _, hd H p⟩
/-- the same of a comprehension without a test -/
theorem lcY_sign {x : Str} {g : TG} {te : TE} {vs : List Nat} {σ : L2.St} {H1 : Hp} {D : Addr} {Qd : Hp → Prop} (Pv : Nat → Hp → Prop) (h0 : Pv 0 (upd H1 D (.lst [])))
    (hs : ∀ i c H, x.cps[i]? = some c → Pv i H → g (.str ⟨#[c]⟩) (wipe σ vs) H fun σ2 H2 => wipe σ2 vs = wipe σ vs ∧ te σ2 H2 fun y H4 => ∃ acc, H4 D = some (.lst acc) ∧ acc.length < sizeLine ∧ Pv (i + 1) (upd H4 D (.lst (acc ++ [y])))) (hd : ∀ H, Pv x.cps.size H → Qd H) :
    ∃ W : Nat → Nat → Hp → Prop, (∃ m, W 0 m (upd H1 D (.lst []))) ∧ ∀ i m H, W i m H → ((Its x).stop i H ∧ Qd H) ∨
      ((Its x).go i H ∧ ∃ Nx : Hp → Prop, (∀ H', Nx H' → ∃ m', m' < m ∧ W (i + 1) m' H') ∧ ∀ v H', (Its x).yld i H v H' → g v (wipe σ vs) H' fun σ2 H2 => wipe σ2 vs = wipe σ vs ∧ tYes σ2 H2 fun b H3 =>
        if b = true then te σ2 H3 fun y H4 => ∃ acc, H4 D = some (.lst acc) ∧ acc.length < sizeLine ∧ Nx (upd H4 D (.lst (acc ++ [y]))) else Nx H3) :=
  lc_sign Pv h0 (fun i c H hc p => hs i c H hc p) hd
theorem lcY_list {K : PySem.W.Frag} {a : Addr} {xs : List V} {g : TG} {te : TE} {vs : List Nat} {σ : L2.St} {H1 : Hp} {D : Addr} {Qd : Hp → Prop} (Pv : Nat → Hp → Prop) (h0 : Pv 0 (upd H1 D (.lst []))) (hl : ∀ i H, i ≤ xs.length → Pv i H → SqL K H a xs)
    (hs : ∀ i x H, xs[i]? = some x → Pv i H → g x (wipe σ vs) H fun σ2 H2 => wipe σ2 vs = wipe σ vs ∧ te σ2 H2 fun y H4 => ∃ acc, H4 D = some (.lst acc) ∧ acc.length < sizeLine ∧ Pv (i + 1) (upd H4 D (.lst (acc ++ [y])))) (hd : ∀ H, Pv xs.length H → Qd H) :
    ∃ W : Nat → Nat → Hp → Prop, (∃ m, W 0 m (upd H1 D (.lst []))) ∧ ∀ i m H, W i m H → ((Itl K a).stop i H ∧ Qd H) ∨
      ((Itl K a).go i H ∧ ∃ Nx : Hp → Prop, (∀ H', Nx H' → ∃ m', m' < m ∧ W (i + 1) m' H') ∧ ∀ x H', (Itl K a).yld i H x H' → g x (wipe σ vs) H' fun σ2 H2 => wipe σ2 vs = wipe σ vs ∧ tYes σ2 H2 fun b H3 =>
        if b = true then te σ2 H3 fun y H4 => ∃ acc, H4 D = some (.lst acc) ∧ acc.length < sizeLine ∧ Nx (upd H4 D (.lst (acc ++ [y]))) else Nx H3) :=
  lc_list Pv h0 hl (fun i c H hc p => hs i c H hc p) hd
theorem lcY_tup {K : PySem.W.Frag} {a : Addr} {xs : List V} {g : TG} {te : TE} {vs : List Nat} {σ : L2.St} {H1 : Hp} {D : Addr} {Qd : Hp → Prop} (Pv : Nat → Hp → Prop) (h0 : Pv 0 (upd H1 D (.lst []))) (hl : ∀ i H, i ≤ xs.length → Pv i H → SqT K H a xs)
    (hs : ∀ i x H, xs[i]? = some x → Pv i H → g x (wipe σ vs) H fun σ2 H2 => wipe σ2 vs = wipe σ vs ∧ te σ2 H2 fun y H4 => ∃ acc, H4 D = some (.lst acc) ∧ acc.length < sizeLine ∧ Pv (i + 1) (upd H4 D (.lst (acc ++ [y])))) (hd : ∀ H, Pv xs.length H → Qd H) :
    ∃ W : Nat → Nat → Hp → Prop, (∃ m, W 0 m (upd H1 D (.lst []))) ∧ ∀ i m H, W i m H → ((Itt K a).stop i H ∧ Qd H) ∨
      ((Itt K a).go i H ∧ ∃ Nx : Hp → Prop, (∀ H', Nx H' → ∃ m', m' < m ∧ W (i + 1) m' H') ∧ ∀ x H', (Itt K a).yld i H x H' → g x (wipe σ vs) H' fun σ2 H2 => wipe σ2 vs = wipe σ vs ∧ tYes σ2 H2 fun b H3 =>
        if b = true then te σ2 H3 fun y H4 => ∃ acc, H4 D = some (.lst acc) ∧ acc.length < sizeLine ∧ Nx (upd H4 D (.lst (acc ++ [y]))) else Nx H3) :=
  lc_tup Pv h0 hl (fun i c H hc p => hs i c H hc p) hd
theorem exc_self {K : PySem.W.Frag} {S : Addr} (h1 : PySem.W.subIn K (.ref S) (.type "BaseException") = some true) (h2 : PySem.W.isClsIn K S = true) (h3 : PySem.W.typeIn K (.ref S) = some (.type "type")) (h4 : PySem.W.subIn K (.ref S) (.ref S) = some true) :
    PySem.W.exmOne K (.ref S) (.ref S) = some true := by
  have e1 : (PySem.W.subIn K (.ref S) (.type "BaseException") == some true) = true := by rw [h1] <;> rfl
  have e2 : ((PySem.W.clsIn K S).isSome && PySem.W.typeIn K (.ref S) == some (.type "type")) = true := by
    have h2' : (PySem.W.clsIn K S).isSome = true := h2
    rw [h2', h3] <;> rfl
  show (if (PySem.W.subIn K (.ref S) (.type "BaseException") == some true) = true then (if ((PySem.W.clsIn K S).isSome && PySem.W.typeIn K (.ref S) == some (.type "type")) = true then PySem.W.subIn K (.ref S) (.ref S) else none) else none) = some true
  rw [if_pos e1, if_pos e2]
  exact h4
end EvS
namespace EvS
open PySem PySem.Spec PyProof.Rows L2
theorem r65 {k : Nat} {A : Around} (r : Room k A) : A.units + 65 < cLine := by have := r.un; omega
theorem blkOk_nest {X : Cx} {s : Shared} {H : Hp} {scope inner : Scope} {C : Addr} {cl : List (Str × Addr)} {fp : List Addr} {own : List (Str × Nat)} {N : List Str} {sc : Scope} (hN : X.N = N) (hs : X.env.scope = sc) (h : blkC N (relS scope sc) inner own = true) :
    BlkOk (X.blk s H scope (compEnvC scope cl C X.env) fp).N (X.blk s H scope (compEnvC scope cl C X.env) fp).env.scope inner own := by
  subst hN hs
  exact blkOk_by h
end EvS

set_option Elab.async false
set_option linter.all false
set_option maxRecDepth 100000
set_option maxHeartbeats 4000000
/-! len(set(xs)), xs a list of different tuples of texts (fewer than 64) -/
namespace TxSet
open PySem PySem.Spec PyProof.Rows L2
section
variable {P : Program} {w : World} {A : Around} {E : Value → Shared → Prop} {s : Shared}
abbrev TwAt (P : Program) (w : World) (h : Heap) (k : List Str) (b : Addr) : Prop := IsTupleKey (PySem.strKind P w) h k b
abbrev hs (P : Program) (w : World) (k : List Str) : Int := tupleKeyHash (PySem.strKind P w) k
abbrev go0 (t : SetTable) (h : Int) : SetTable.Probe := runAt t.mask (SetTable.bits h % (t.mask + 1)) (SetTable.bits h)
theorem words_of {k : List Str} {vs : List Value} (h : ItemsAre (PySem.strKind P w) k vs) : ∀ v ∈ vs, ∃ z t, v = Value.str z t := by
  induction h with
  | nil => exact fun v hv => by cases hv
  | @cons k0 u ks us h1 _ ih =>
    intro v hv
    cases hv with
    | head =>
      obtain ⟨t, e⟩ := Value.isStrOf_shape h1
      exact ⟨k0, t, e⟩
    | tail _ q => exact ih v q
theorem noClass (n : Nat) (z : Str) (t : Tok) : ofAClassStatement n (.str z t) = pure false := by cases n <;> rfl
theorem byVal (n : Nat) (z : Str) (t : Tok) : hashByValue n (.str z t) = pure false := by cases n <;> rfl
theorem noClassT {k : List Str} {b : Addr} {Q : Bool → Shared → Prop} (hk : TwAt P w s.heap k b) (q : Q false s) : wpAny (model P w) A (ofAClassStatement 8 (.ref b)) Q E s := by
  have ty := hk.typeIs
  obtain ⟨o, its, n, ho, _, hd, hi⟩ := hk
  have all := words_of hi
  unfold ofAClassStatement
  refine wpAny_bind (wpAny_typeOf ty ?_)
  dsimp only
  simp only [show (("tuple" : String) == "tuple") = true by decide, if_true, Bool.not_true, Bool.false_eq_true, if_false]
  try refine wpAny_bind (wpAny_pure ?_)
  try simp only [Bool.not_true, Bool.false_eq_true, if_false]
  refine wpAny_bind (m := seqItems? (.ref b)) (wpAny_seqItems ho hd ?_)
  dsimp only
  refine wpAny_bind (m := forIn its _ _) ?_
  rw [← Array.forIn_toList]
  refine wpAny_forIn_list _ (fun l r s' => (∀ v ∈ l, ∃ z t, v = Value.str z t) ∧ r.1 = none ∧ s' = s) _ ?_ ?_ _ _ ⟨all, rfl, rfl⟩
  · rintro v l r s' ⟨hl, hr, rfl⟩
    obtain ⟨z, t, rfl⟩ := hl v List.mem_cons_self
    rw [noClass]
    refine wpAny_bind (wpAny_pure ?_)
    simp only [Bool.false_eq_true, if_false]
    exact wpAny_pure ⟨fun u hu => hl u (List.mem_cons_of_mem _ hu), rfl, rfl⟩
  · rintro ⟨r1, r2⟩ s' ⟨_, hr, rfl⟩
    simp only at hr
    subst hr
    exact wpAny_pure q
theorem byValT {k : List Str} {b : Addr} {Q : Bool → Shared → Prop} (hk : TwAt P w s.heap k b) (q : ∀ v, Q v s) : wpAny (model P w) A (hashByValue 8 (.ref b)) Q E s := by
  have ty := hk.typeIs
  obtain ⟨o, its, n, ho, _, hd, hi⟩ := hk
  have all := words_of hi
  unfold hashByValue
  refine wpAny_bind (wpAny_specialOf ty F.slot_tuple_hash.lookup ?_)
  refine wpAny_bind (m := seqItems? (.ref b)) (wpAny_seqItems ho hd ?_)
  refine wpAny_bind (m := forIn its _ _) ?_
  rw [← Array.forIn_toList]
  refine wpAny_forIn_list _ (fun l r s' => (∀ v ∈ l, ∃ z t, v = Value.str z t) ∧ r.1 = none ∧ s' = s) _ ?_ ?_ _ _ ⟨all, rfl, rfl⟩
  · rintro v l r s' ⟨hl, hr, rfl⟩
    obtain ⟨z, t, rfl⟩ := hl v List.mem_cons_self
    rw [byVal]
    refine wpAny_bind (wpAny_pure ?_)
    simp only [Bool.not_false, if_true]
    exact wpAny_pure (wpAny_pure (q false))
  · rintro ⟨r1, r2⟩ s' ⟨_, hr, rfl⟩
    simp only at hr
    subst hr
    exact wpAny_pure (q true)
/-- nothing of the table is shown -/
theorem hidden {k : List Str} {b : Addr} {Q : Bool → Shared → Prop} (hk : TwAt P w s.heap k b) {ys : List Value} (hy : ∀ y ∈ ys, ∃ c k2, y = Value.ref c ∧ TwAt P w s.heap k2 c) (q : Q false s) :
    wpAny (model P w) A (searchCouldBeSeen (.ref b) ys) Q E s := by
  unfold searchCouldBeSeen
  refine wpAny_bind (wpAny_forIn_list _ (fun l r s' => (∀ y ∈ l, ∃ c k2, y = Value.ref c ∧ TwAt P w s.heap k2 c) ∧ r.1 = none ∧ s' = s) _ ?_ ?_ _ _ ⟨hy, rfl, rfl⟩)
  · rintro v l r s' ⟨hl, hr, rfl⟩
    obtain ⟨c, k2, rfl, hc⟩ := hl v List.mem_cons_self
    have more := fun u hu => hl u (List.mem_cons_of_mem _ hu)
    dsimp only
    by_cases e : (b == c || (carriedByValue (.ref b) && carriedByValue (.ref c))) = true
    · exact wp_if_pos e (wpAny_pure ⟨more, rfl, rfl⟩)
    · refine wp_if_neg e (wpAny_bind (wpAny_eqIsQuiet_tuple hk ?_))
      simp only [Bool.not_true, Bool.false_eq_true, if_false]
      refine wpAny_bind (wpAny_eqIsQuiet_tuple hc ?_)
      simp only [Bool.not_true, Bool.false_eq_true, if_false]
      refine wpAny_bind (noClassT hk ?_)
      simp only [Bool.false_eq_true, if_false]
      refine wpAny_bind (noClassT hc ?_)
      simp only [Bool.false_eq_true, if_false]
      exact wpAny_pure ⟨more, rfl, rfl⟩
  · rintro ⟨r1, r2⟩ s' ⟨_, hr, rfl⟩
    simp only at hr
    subst hr
    exact wpAny_pure q
/-! ### the set as it grows -/
def cells (P : Program) (w : World) (L : List (Addr × List Str)) : List (Int × Value) := L.map fun p => (hs P w p.2, Value.ref p.1)
theorem cells_len (L : List (Addr × List Str)) : (cells P w L).length = L.length := List.length_map ..
structure Bag (P : Program) (w : World) (h : Heap) (a : Addr) (L : List (Addr × List Str)) (es : Array (Int × Value)) (ep : Nat) (t : SetTable) : Prop where
  obj : ∃ o, h.get? a = some o ∧ o.ExactSet ∧ o.data = .set es ep t
  cel : es.toList = cells P w L
  tab : TabOk t (L.map fun p => hs P w p.2)
  key : ∀ p ∈ L, TwAt P w h p.2 p.1
  lrn : w.params.followText "set-order" = true ∨ t.led = true
  rom : L.length * 5 < t.mask * 3
  sml : L.length < 64
variable {a : Addr} {L : List (Addr × List Str)} {es : Array (Int × Value)} {ep : Nat} {t : SetTable}
theorem Bag.size (B : Bag P w s.heap a L es ep t) : es.size = L.length := by
  rw [← Array.length_toList, B.cel, cells_len]
theorem Bag.places (B : Bag P w s.heap a L es ep t) : t.place.toList.length = L.length := by
  rw [Array.length_toList, B.tab.sz, List.length_map]
theorem Bag.fit (B : Bag P w s.heap a L es ep t) : t.fits es.size = true := by
  have q1 := B.places
  have q2 := B.size
  have q3 := B.rom
  rw [Array.length_toList] at q1
  unfold SetTable.fits SetTable.fill
  rw [B.tab.dm, Bool.and_eq_true, beq_iff_eq, decide_eq_true_eq]
  constructor
  · omega
  · show t.place.size + 0 ≤ t.mask
    omega
theorem Bag.cell (B : Bag P w s.heap a L es ep t) {i : Nat} {p : Addr × List Str} (h : L[i]? = some p) : es[i]? = some (hs P w p.2, Value.ref p.1) := by
  rw [← Array.getElem?_toList, B.cel]
  unfold cells
  rw [List.getElem?_map, h]
  rfl
theorem nth_plain (m : Nat) : ∀ (n : Nat) (p : SetTable.Probe), p.dummy = none → (nth m p n).dummy = none
  | 0, _, h => h
  | n + 1, p, h => by
    refine nth_plain m n (adv m p) ?_
    unfold adv
    split <;> exact h
/-- the search for what isn't there ends at the first empty slot of its way -/
theorem seek (B : Bag P w s.heap a L es ep t) {x : Addr} {k : List Str} (hx : TwAt P w s.heap k x) (hu : A.units < cLine) (away : ∀ p ∈ L, p.2 ≠ k) {K : Nat} (hK : K < 10 * SetTable.turns t.mask)
    (hfree : way t.mask (hs P w k) K ∉ t.place.toList) (hbusy : ∀ c, c < K → way t.mask (hs P w k) c ∈ t.place.toList) {Q : SetFound → Shared → Prop} (q : Q (.free (way t.mask (hs P w k) K) false) s) :
    ∀ (f c : Nat) (st : Option SetTable.Probe), st.getD (t.probeStart (hs P w k)) = nth t.mask (go0 t (hs P w k)) c → c ≤ K → K - c < f → wpAny (model P w) A (setSearchFrom a (.ref x) (hs P w k) true f st) Q E s := by
  intro f
  induction f with
  | zero => intro c st _ _ h; exact absurd h (Nat.not_lt_zero _)
  | succ f ih =>
    intro c st hst hc hf
    obtain ⟨o, ho, hex, hd⟩ := B.obj
    rw [setSearchFrom_succ]
    refine wpAny_bind (wpAny_setState_of ho hd B.fit ?_)
    dsimp only
    refine wp_if_neg (by unfold SetTable.gaveWay; rw [mask_odd B.tab.mok]; decide) ?_
    try refine wpAny_bind (wpAny_pure ?_)
    have shift : ∀ n, nth t.mask (nth t.mask (go0 t (hs P w k)) c) n = nth t.mask (go0 t (hs P w k)) (c + n) := fun n => (nth_add t.mask c _ n).symm
    have at_ : ∀ n, (nth t.mask (nth t.mask (go0 t (hs P w k)) c) n).j = way t.mask (hs P w k) (c + n) := fun n => congrArg SetTable.Probe.j (shift n)
    have back : c + (K - c) = K := by omega
    rcases go_spec t B.tab.ris B.tab.dm (fun i => (es[i]?.map (·.1)).getD 0) (hs P w k) (10 * SetTable.turns t.mask) (K - c) _ (nth_plain t.mask c _ rfl) (by omega) (fun n hn => by rw [at_]; exact hbusy _ (by omega)) (by rw [at_, back]; exact hfree) with ⟨n, i, hn, hi, _, _, e⟩ | ⟨_, e⟩
    · have e' : t.probe (fun i => (es[i]?.map (·.1)).getD 0) (hs P w k) (st.getD (t.probeStart (hs P w k))) = some (.candidate (way t.mask (hs P w k) (c + n)) i (nth t.mask (go0 t (hs P w k)) (c + (n + 1)))) := by
        rw [hst, ← at_, ← shift]
        exact e
      rw [e']
      dsimp only
      rw [at_] at hi
      have il : i < L.length := by
        rw [← B.places]
        exact (List.getElem?_eq_some_iff.mp hi).1
      obtain ⟨p, hp⟩ : ∃ p, L[i]? = some p := ⟨_, List.getElem?_eq_getElem il⟩
      have pin := List.mem_of_getElem? hp
      have other := away p pin
      have go : wpAny (model P w) A (searchRest a (.ref x) (hs P w k) true f es t (way t.mask (hs P w k) (c + n)) i (nth t.mask (go0 t (hs P w k)) (c + (n + 1)))) Q E s := by
        unfold searchRest
        rw [B.cell hp]
        dsimp only
        refine wpAny_bind (wpAny_holding (wpAny_eqBool_tuple hu (B.key p pin) hx ?_))
        refine wpAny_bind (wpAny_setState_of ho hd B.fit ?_)
        dsimp only
        refine wp_if_neg (by simp [other]) ?_
        try refine wpAny_bind (wpAny_pure ?_)
        rw [sameMem]
        dsimp only
        simp only [if_true, slot_live B.tab.ris hi, B.cell hp]
        refine wpAny_bind (wpAny_isSame_ref_self (wpAny_bind (wpAny_pure ?_)))
        simp only [if_true]
        refine wp_if_neg (by simp [other]) ?_
        exact ih (c + (n + 1)) _ rfl (by omega) (by omega)
      by_cases hl : t.led = true
      · refine wp_if_neg (by simp [hl]) ?_
        try refine wpAny_bind (wpAny_pure ?_)
        exact go
      · refine wp_if_pos (by simp [hl]) (wpAny_bind (hidden hx (fun y hy => ?_) ?_))
        · obtain ⟨d, hd1, hd2⟩ := List.mem_map.mp hy
          have m1 : d ∈ es.toList := by
            have : d ∈ es ∧ d.1 = hs P w k := by simpa using hd1
            simpa using this.1
          rw [B.cel] at m1
          obtain ⟨p2, m2, e2⟩ := List.mem_map.mp m1
          exact ⟨p2.1, p2.2, by rw [← hd2, ← e2], B.key p2 m2⟩
        · refine wp_if_neg (by decide) ?_
          try refine wpAny_bind (wpAny_pure ?_)
          exact go
    · have e' : t.probe (fun i => (es[i]?.map (·.1)).getD 0) (hs P w k) (st.getD (t.probeStart (hs P w k))) = some (.empty (way t.mask (hs P w k) K) none) := by
        have z := at_ (K - c)
        rw [back] at z
        rw [hst, ← z]
        exact e
      rw [e']
      dsimp only
      exact wpAny_pure q
/-! ### the set grows by one -/
theorem still {h h' : Heap} {k : List Str} {c : Addr} {o : Obj} (hk : TwAt P w h k c) (ho : h.get? a = some o) (hd : o.data = .set es ep t) (sb : Heap.SameBut a h h') : TwAt P w h' k c := by
  obtain ⟨u, its, n, hu, hc, hi, hw⟩ := hk
  refine ⟨u, its, n, ?_, hc, hi, hw⟩
  rw [sb.2 c fun z => ?_]
  · exact hu
  · rw [z, ho] at hu
    rw [← Option.some.inj hu, hd] at hi
    cases hi
theorem range_get {α : Type} (L : List α) : ∀ n, n ≤ L.length → (List.range n).filterMap (fun i => L[i]?) = L.take n
  | 0, _ => rfl
  | n + 1, h => by
    have lt : n < L.length := h
    rw [List.range_succ, List.filterMap_append, range_get L n (Nat.le_of_lt lt), List.take_add_one, List.getElem?_eq_getElem lt]
    simp [List.getElem?_eq_getElem lt]
theorem chosen (hc : es.toList = cells P w L) : ∀ l : List Nat, (∀ i ∈ l, i < L.length) → l.filterMap (fun i => es[i]?) = cells P w (l.filterMap fun i => L[i]?) ∧ (l.filterMap fun i => L[i]?).map (fun p => hs P w p.2) = l.map fun i => (es.map (·.1)).getD i 0
  | [], _ => ⟨rfl, rfl⟩
  | i :: l, h => by
    obtain ⟨e1, e2⟩ := chosen hc l fun j hj => h j (List.mem_cons_of_mem _ hj)
    have il := h i List.mem_cons_self
    have gL : L[i]? = some L[i] := List.getElem?_eq_getElem il
    have gE : es[i]? = some (hs P w (L[i]).2, Value.ref (L[i]).1) := by
      rw [← Array.getElem?_toList, hc]
      unfold cells
      rw [List.getElem?_map, gL]
      rfl
    have gD : (es.map (·.1)).getD i 0 = hs P w (L[i]).2 := by
      have z : (es.map (·.1))[i]? = some (hs P w (L[i]).2) := by
        rw [Array.getElem?_map, gE]
        rfl
      rw [Array.getD_eq_getD_getElem?, z]
      rfl
    rw [List.filterMap_cons_some gE, List.filterMap_cons_some gL, e1, List.map_cons, List.map_cons, e2, gD]
    exact ⟨rfl, rfl⟩
/-- the table is laid anew, larger -/
theorem relaid_new {o : Obj} (ho : s.heap.get? a = some o) (hex : o.ExactSet) (hd : o.data = .set es ep t) (hc : es.toList = cells P w L) (hp : t.place.size = es.size) (hdm : t.dummies = #[]) (hfl : es.size ≤ t.mask)
    (key : ∀ p ∈ L, TwAt P w s.heap p.2 p.1) (ld : w.params.followText "set-order" = true ∨ t.led = true) (few : L.length < 64) {wanted M : Nat} (hw : SetTable.sizeAbove wanted - 1 = M) (hM : MaskOk M) (hw2 : SetTable.sizeAbove wanted ≤ 128)
    (hn : L.length * 5 < M * 3) {Q : Unit → Shared → Prop} (q : ∀ h' L' es' ep' t', Heap.SameBut a s.heap h' → Bag P w h' a L' es' ep' t' → L'.Perm L → Q () { s with heap := h' }) : wpAny (model P w) A (setRelay a wanted) Q E s := by
  have hl : es.size = L.length := by rw [← Array.length_toList, hc, cells_len]
  have hfit : t.fits es.size = true := by
    unfold SetTable.fits SetTable.fill
    rw [hdm, Bool.and_eq_true, beq_iff_eq, decide_eq_true_eq]
    exact ⟨hp, by show t.place.size + 0 ≤ t.mask; omega⟩
  have hsz : (es.map (·.1)).size = L.length := by rw [Array.size_map, hl]
  obtain ⟨t', ord, e, pm, T, em, el, _, _⟩ := relaid_ok t (hs := es.map (·.1)) (wanted := wanted) hw hM (by rw [hsz]; omega)
  rw [hsz] at pm
  obtain ⟨c1, c2⟩ := chosen (P := P) (w := w) (L := L) hc ord.toList fun i hi => List.mem_range.mp (pm.mem_iff.mp hi)
  have pL : (ord.toList.filterMap fun i => L[i]?).Perm L := by
    have z := pm.filterMap fun i => L[i]?
    rw [range_get L L.length (Nat.le_refl _), List.take_length] at z
    exact z
  generalize ord.toList.filterMap (fun i => L[i]?) = L2 at c1 c2 pL
  rw [← c2] at T
  have cl : (ord.filterMap (es[·]?)).toList = cells P w L2 := by first | (rw [Array.toList_filterMap]; exact c1) | simpa using c1
  have sz2 : (ord.filterMap (es[·]?)).size = es.size := by rw [← Array.length_toList, cl, cells_len, pL.length_eq, hl]
  rw [setRelay_eq]
  refine wpAny_bind (wpAny_setState_of ho hd hfit ?_)
  dsimp only
  refine wp_if_neg (by rw [sizeLine_eq]; omega) ?_
  try refine wpAny_bind (wpAny_pure ?_)
  rw [e]
  dsimp only
  refine wpAny_bind ?_
  refine wp_if_neg (by rw [sz2]; simp) ?_
  try refine wpAny_bind (wpAny_pure ?_)
  refine wpAny_pure ?_
  dsimp only
  refine wpAny_storeSet_of ho hd ?_ (by rw [sz2, hl, sizeLine_eq]; omega)
  have sb : Heap.SameBut a s.heap (s.heap.update a (Obj.putSet (ord.filterMap (es[·]?)) t')) := Heap.SameBut.update ..
  refine q _ L2 (ord.filterMap (es[·]?)) (ep + 1) t' sb ⟨⟨_, store_at ho hd, ⟨hex.1, hex.2.1, hex.2.2⟩, rfl⟩, cl, T, fun p hp => still (key p (pL.mem_iff.mp hp)) ho hd sb, by rw [el]; exact ld, by rw [pL.length_eq, em]; exact hn, by rw [pL.length_eq]; exact few⟩ pL
theorem add_new (B : Bag P w s.heap a L es ep t) {x : Addr} {k : List Str} (hx : TwAt P w s.heap k x) (hu : A.units < cLine) (away : ∀ p ∈ L, p.2 ≠ k) (few : L.length + 1 < 64) {Q : Bool → Shared → Prop}
    (q : ∀ h' L' es' ep' t', Heap.SameBut a s.heap h' → Bag P w h' a L' es' ep' t' → L'.Perm ((x, k) :: L) → Q true { s with heap := h' }) : wpAny (model P w) A (setAddHashed a (.ref x) (hs P w k)) Q E s := by
  obtain ⟨o, ho, hex, hd⟩ := B.obj
  have hl := B.size
  have rom := B.rom
  have lenT : (L.map fun p => hs P w p.2).length = L.length := List.length_map ..
  obtain ⟨K, hK, hfree, hbusy⟩ := B.tab.first (by rw [lenT]; omega) (hs P w k)
  have big : K < 100000 := by
    have z : 10 * SetTable.turns t.mask ≤ 1420 := by
      unfold SetTable.turns
      rcases B.tab.mok with e | e | e <;> omega
    omega
  unfold setAddHashed
  refine wpAny_holding ?_
  rw [show (100000 : Nat) = 99999 + 1 from rfl, setAddHashedIn_succ]
  refine wpAny_bind (wpAny_setState_of ho hd B.fit ?_)
  dsimp only
  refine wp_if_neg (by simp [byScan, Value.scannable]) ?_
  try refine wpAny_bind (wpAny_pure ?_)
  refine wpAny_bind (m := setSearch a (.ref x) (hs P w k) true) ?_
  unfold setSearch
  refine seek B hx hu away hK hfree hbusy ?_ 100000 0 none rfl (Nat.zero_le _) (by omega)
  dsimp only
  refine wpAny_bind (wpAny_setState_of ho hd B.fit ?_)
  dsimp only
  obtain ⟨g1, g2, g3, g4, g5, _, _, _, g9⟩ := B.tab.put hfree hbusy
  generalize hpt : t.put (way t.mask (hs P w k) K) = pt at g1 g3 g4 g5 g9 ⊢
  obtain ⟨t1, p⟩ := pt
  dsimp only at g1 g3 g4 g5 g9 ⊢
  subst g1
  generalize SetTable.below t.place (way t.mask (hs P w k) K) = p at g2 g3 ⊢
  have pm : (L.take p ++ (x, k) :: L.drop p).Perm ((x, k) :: L) := put_perm L p (x, k)
  have cl : (SetTable.insertAt es p (hs P w k, Value.ref x)).toList = cells P w (L.take p ++ (x, k) :: L.drop p) := by
    rw [SetTable.toList_insertAt, B.cel]
    unfold cells
    rw [List.map_append, List.map_cons, List.map_take, List.map_drop]
  have ht : (L.take p ++ (x, k) :: L.drop p).map (fun p => hs P w p.2) = (L.map fun p => hs P w p.2).take p ++ hs P w k :: (L.map fun p => hs P w p.2).drop p := by
    rw [List.map_append, List.map_cons, List.map_take, List.map_drop]
  rw [← ht] at g3
  rw [lenT] at g9
  generalize L.take p ++ (x, k) :: L.drop p = L1 at pm cl g3
  have len1 : L1.length = L.length + 1 := pm.length_eq
  have sz1 : (SetTable.insertAt es p (hs P w k, Value.ref x)).size = L.length + 1 := by rw [← Array.length_toList, cl, cells_len, len1]
  generalize SetTable.insertAt es p (hs P w k, Value.ref x) = es1 at cl sz1 ⊢
  -- behind the question whether its hash goes by value
  have rest : ∀ t2 : SetTable, TabOk t2 (L1.map fun p => hs P w p.2) → t2.mask = t.mask → t2.led = t.led → t2.fill = L.length + 1 → wpAny (model P w) A (do
      storeSet a es1 t2
      if !false && t2.tooFull then setRelay a (SetTable.grown (es.size + 1))
      return true) Q E s := fun t2 T2 m2 l2 f2 => by
    refine wpAny_bind (wpAny_storeSet_of ho hd ?_ (by rw [sz1, sizeLine_eq]; omega))
    have sb : Heap.SameBut a s.heap (s.heap.update a (Obj.putSet es1 t2)) := Heap.SameBut.update ..
    have ho1 := store_at (es' := es1) (t' := t2) ho hd
    generalize s.heap.update a (Obj.putSet es1 t2) = h1 at sb ho1 ⊢
    have key1 : ∀ p ∈ L1, TwAt P w h1 p.2 p.1 := fun p hp => by
      rcases List.mem_cons.mp (pm.mem_iff.mp hp) with e | hp
      · rw [e]
        exact still hx ho hd sb
      · exact still (B.key p hp) ho hd sb
    have ld1 : w.params.followText "set-order" = true ∨ t2.led = true := by rw [l2]; exact B.lrn
    by_cases hf : t2.tooFull = true
    · have full : (L.length + 1) * 5 ≥ t2.mask * 3 := by
        have z := hf
        unfold SetTable.tooFull at z
        rw [decide_eq_true_eq, f2] at z
        exact z
      have places : t2.place.size = es1.size := by
        have z := T2.sz
        rw [List.length_map, len1] at z
        rw [z, sz1]
      have two : (t.mask = 7 ∧ L.length = 4) ∨ (t.mask = 31 ∧ L.length = 18) := by
        rw [m2] at full
        rcases B.tab.mok with e | e | e <;> rw [e] at full rom
        · exact .inl ⟨e, by omega⟩
        · exact .inr ⟨e, by omega⟩
        · omega
      have laid : ∀ M, SetTable.sizeAbove (SetTable.grown (es.size + 1)) - 1 = M → MaskOk M → SetTable.sizeAbove (SetTable.grown (es.size + 1)) ≤ 128 → (L.length + 1) * 5 < M * 3 →
          wpAny (model P w) A (setRelay a (SetTable.grown (es.size + 1))) (fun _ s' => wpAny (model P w) A (pure true) Q E s') E { s with heap := h1 } := fun M z1 z2 z3 z4 => by
        refine relaid_new (s := { s with heap := h1 }) ho1 ⟨hex.1, hex.2.1, hex.2.2⟩ rfl cl places T2.dm (by rw [sz1, m2]; rcases two with ⟨y1, y2⟩ | ⟨y1, y2⟩ <;> omega) key1 ld1 (by rw [len1]; exact few) z1 z2 z3 (by rw [len1]; exact z4) ?_
        exact fun h2 L2 es2 ep2 t3 sb2 B2 pm2 => wpAny_pure (q h2 L2 es2 ep2 t3 (sb.trans sb2) B2 (pm2.trans pm))
      have fin : wpAny (model P w) A (setRelay a (SetTable.grown (es.size + 1))) (fun _ s' => wpAny (model P w) A (pure true) Q E s') E { s with heap := h1 } := by
        rcases two with ⟨_, y⟩ | ⟨_, y⟩
        · exact laid 31 (by rw [hl, y, size_20]) (.inr (.inl rfl)) (by rw [hl, y, size_20]; decide) (by omega)
        · exact laid 127 (by rw [hl, y, size_76]) (.inr (.inr rfl)) (by rw [hl, y, size_76]; decide) (by omega)
      first
        | (refine wpAny_bind ?_; refine wp_if_pos (by simp [hf]) ?_; exact fin)
        | (refine wp_if_pos (by simp [hf]) ?_; refine wpAny_bind ?_; exact fin)
    · have done := q h1 L1 es1 (ep + 1) t2 sb ⟨⟨_, ho1, ⟨hex.1, hex.2.1, hex.2.2⟩, rfl⟩, cl, T2, key1, ld1, (by
          have z := hf
          unfold SetTable.tooFull at z
          rw [decide_eq_true_eq, f2] at z
          rw [len1]
          omega), by rw [len1]; exact few⟩ pm
      first
        | (refine wp_if_neg (by simp [hf]) ?_; exact wpAny_pure done)
        | (refine wpAny_bind ?_; refine wp_if_neg (by simp [hf]) ?_; refine wpAny_pure ?_; exact wpAny_pure done)
  have both : ∀ v : Bool, wpAny (model P w) A (do
      storeSet a es1 (if v then t1 else { t1 with plain := false })
      if !false && (if v then t1 else { t1 with plain := false }).tooFull then setRelay a (SetTable.grown (es.size + 1))
      return true) Q E s := fun v => by
    cases v with
    | true => exact rest t1 g3 g4 g5 g9
    | false => exact rest { t1 with plain := false } ⟨g3.ris, g3.dm, g3.sz, g3.mok, g3.bd, g3.reach⟩ g4 g5 g9
  by_cases hpl : t1.plain = true
  · first
      | (refine wpAny_bind ?_; refine wp_if_pos hpl ?_; exact byValT hx both)
      | exact wp_if_pos hpl (wpAny_bind (byValT hx both))
  · first
      | (refine wpAny_bind ?_; refine wp_if_neg hpl ?_; exact wpAny_pure (both true))
      | exact wp_if_neg hpl (wpAny_bind (wpAny_pure (both true)))
/-! ### set(xs) -/
def fresh0 (w : World) : Obj := { cls := .type "set", dict := none, data := .set #[] 0 (.fresh 0 0 (!w.params.followText "set-order")) }
theorem bag0 {h : Heap} (ho : h.get? a = some (fresh0 w)) : Bag P w h a [] #[] 0 (.fresh 0 0 (!w.params.followText "set-order")) where
  obj := ⟨_, ho, ⟨rfl, rfl, rfl⟩, rfl⟩
  cel := rfl
  tab := ⟨List.Pairwise.nil, rfl, rfl, .inl rfl, fun x hx => (by cases hx), fun i h j hi => (by simp at hi)⟩
  key := fun p hp => (by cases hp)
  lrn := by
    show _ ∨ (!w.params.followText "set-order") = true
    cases w.params.followText "set-order"
    · exact .inr rfl
    · exact .inl rfl
  rom := by
    show 0 * 5 < 7 * 3
    decide
  sml := by
    show 0 < 64
    decide
theorem there {h h' : Heap} {k : List Str} {c : Addr} (hk : TwAt P w h k c) (kp : ∀ b o, h.get? b = some o → h'.get? b = some o) : TwAt P w h' k c := by
  obtain ⟨u, its, n, hu, more⟩ := hk
  exact ⟨u, its, n, kp c u hu, more⟩
theorem grow {I : Addr} {fp wr : List Addr} {G : Array GenState → Array GenState → Prop} {n : Nat} {Pv : Nat → Value → Prop} {St : Nat → Shared → Prop} {R : Result → Shared → Prop}
    (W : WalksS P w A.in1 I fp wr G n Pv St) (S : Addr) (nf : S ∉ fp) (ks : List (Addr × List Str)) (hn : ks.length = n) (few : n < 64) (diff : (ks.map (·.2)).Nodup) (hat : ∀ i v, Pv i v → ∃ p, ks[i]? = some p ∧ v = .ref p.1)
    (g : Heap) (hk : ∀ p ∈ ks, TwAt P w g p.2 p.1) (gS : g.get? S = none) (gw : ∀ b ∈ wr, g.get? b = none) (hu : A.in1.units < cLine) :
    ∀ (m i : Nat) (s : Shared), n - i = m → i ≤ n → St i s → (∀ b o, g.get? b = some o → s.heap.get? b = some o) → (∃ L es ep t, Bag P w s.heap S L es ep t ∧ L.Perm (ks.take i)) →
      (∀ s' L es ep t, Moved (S :: wr) G s s' → Bag P w s'.heap S L es ep t → L.Perm ks → R (.ok (.ret .none)) s') → codeAny (model P w) A (.builtin "set.update.loop" ⟨[.ref S, .ref I], []⟩) R s := by
  have nw : S ∉ wr := fun q => nf (W.sub _ q)
  have up : ∀ c ∈ wr, c ∈ S :: wr := fun c hc => List.mem_cons_of_mem _ hc
  have onward : ∀ {s s' : Shared}, Moved wr G s s' → (∀ b o, g.get? b = some o → s.heap.get? b = some o) → ∀ b o, g.get? b = some o → s'.heap.get? b = some o := fun mv kp b o e => by
    refine mv.heap b o (fun hb => ?_) (kp b o e)
    rw [gw b hb] at e
    cases e
  have hold : ∀ {s s' : Shared} {L : List (Addr × List Str)} {es : Array (Int × Value)} {ep : Nat} {t : SetTable} {i : Nat}, Moved wr G s s' → (∀ b o, g.get? b = some o → s'.heap.get? b = some o) → L.Perm (ks.take i) → Bag P w s.heap S L es ep t → Bag P w s'.heap S L es ep t := fun {s s' L es ep t i} mv kp pm B => by
    obtain ⟨o, ho, more⟩ := B.obj
    exact ⟨⟨o, mv.heap S o nw ho, more⟩, B.cel, B.tab, fun p hp => there (hk p (List.mem_of_mem_take (pm.mem_iff.mp hp))) kp, B.lrn, B.rom, B.sml⟩
  intro m
  induction m with
  | zero =>
    intro i s hm hi hst kp ⟨L, es, ep, t, B, pm⟩ hR
    obtain rfl : i = n := by omega
    refine codeAny_builtin F.entry_set_update_loop ?_
    rw [Around.under_plainId F.plain_set_update_loop _]
    refine wpAny_bind (m := pyNext (.ref I)) (W.done s _ _ hst fun s1 mv => ?_)
    have B1 := hold mv (onward mv kp) pm B
    rw [← hn, List.take_length] at pm
    exact wpAny_pure (hR s1 L es ep t (mv.mono up) B1 pm)
  | succ m ih =>
    intro i s hm hi hst kp ⟨L, es, ep, t, B, pm⟩ hR
    have lt : i < n := by omega
    refine codeAny_builtin F.entry_set_update_loop ?_
    rw [Around.under_plainId F.plain_set_update_loop _]
    refine wpAny_bind (m := pyNext (.ref I)) (W.item i s _ _ lt hst fun v s1 hP hst1 mv => ?_)
    obtain ⟨p, hp, rfl⟩ := hat i v hP
    have kp1 := onward mv kp
    have B1 := hold mv kp1 pm B
    have hx : TwAt P w s1.heap p.2 p.1 := there (hk p (List.mem_of_getElem? hp)) kp1
    have nxt : ks.take (i + 1) = ks.take i ++ [p] := by
      rw [List.take_add_one, hp]
      rfl
    have away : ∀ q ∈ L, q.2 ≠ p.2 := fun q hq e => by
      have d := diff.sublist (((List.take_sublist (i + 1) ks).map (·.2)))
      rw [nxt, List.map_append, List.nodup_append] at d
      exact d.2.2 q.2 (List.mem_map.mpr ⟨q, pm.mem_iff.mp hq, rfl⟩) p.2 (by simp) e
    have ll : L.length ≤ i := by
      rw [pm.length_eq, List.length_take]
      omega
    show wpAny _ A.in1 (holding [Value.ref p.1] (setAdd S (.ref p.1)) >>= _) _ _ s1
    refine wpAny_bind (wpAny_holding ?_)
    unfold setAdd
    refine wpAny_holding (wpAny_bind (wpAny_pyHash_tuple hu hx ?_))
    refine add_new (s := { s1 with toks := s1.toks + (p.2.length + 1) }) B1 hx hu away (by omega) fun h2 L2 es2 ep2 t2 sb B2 pm2 => ?_
    have pm3 : L2.Perm (ks.take (i + 1)) := by
      rw [nxt]
      exact pm2.trans ((pm.cons p).trans (List.perm_append_singleton p (ks.take i)).symm)
    have kp2 : ∀ b o, g.get? b = some o → h2.get? b = some o := fun b o e => by
      refine (sb.2 b fun z => ?_).trans (kp1 b o e)
      rw [z, gS] at e
      cases e
    refine wpAny_pure ⟨plainId_quiet F.plain_set_update_loop _, ih (i + 1) _ (by omega) lt (W.frame _ s1 _ _ hst1 (Nat.le_add_right _ _) fun c hc o e => ?_) kp2 ⟨L2, es2, ep2, t2, B2, pm3⟩ fun s3 L3 es3 ep3 t3 mv3 B3 pm4 => ?_⟩
    · rw [sb.2 c (fun z : c = S => nf (by rw [← z]; exact hc))]
      exact e
    · refine hR s3 L3 es3 ep3 t3 (Moved.trans W.gtrans ((mv.mono up).then_heap (Nat.le_add_right _ _) fun c o hc e => ?_) mv3) B3 pm4
      rw [sb.2 c (fun z : c = S => hc (by rw [z]; exact List.mem_cons_self))]
      exact e
theorem call_setT {l : Addr} {its : Array Value} (ks : List (Addr × List Str)) {Q : Value → Shared → Prop} (hA : A.handled = none) (hl : s.heap.IsList l its) (hit : its.toList = ks.map fun p => Value.ref p.1) (hk : ∀ p ∈ ks, TwAt P w s.heap p.2 p.1)
    (few : ks.length < 64) (diff : (ks.map (·.2)).Nodup) (hu : A.units + 3 < cLine)
    (q : ∀ (h' : Heap) (tk : Nat) L es ep t, Bag P w h' s.heap.objs.size L es ep t → L.Perm ks → (∀ c o, c < s.heap.objs.size → s.heap.get? c = some o → h'.get? c = some o) → Q (.ref s.heap.objs.size) { s with heap := h', toks := tk }) :
    wpAny (model P w) A (call (.type "set") [.ref l]) Q E s := by
  have hlen : ks.length = its.size := by
    have z := congrArg List.length hit
    rw [Array.length_toList, List.length_map] at z
    exact z.symm
  obtain ⟨c, tl, hmro⟩ := PySem.F.called_set.mro
  have hmade := PySem.F.called_set.made
  have hsub := PySem.F.called_set.sub
  refine wpAny_call (codeAny_of_tree ?_)
  show wpAny _ _ (callAny (.type "set") _) _ _ _
  refine wpAny_pure ⟨Code.quiet_builtin _ (by decide +kernel), codeAny_builtin PySem.F.entry_type_call ?_⟩
  rw [Around.under_plain (weight_type_call_type "set" [.ref l] []) rfl]
  have h1 := PySem.F.called_set.notType
  have h2 := PySem.F.called_set.canCreate
  have hct := PySem.F.typeCall_set_1 (.ref l)
  repeat (any_goals (first | assumption | wp_step))
  refine codeAny_mono (code_set_led1 (.ref l) (E := E) (Q₁ := fun b s₁ => b = .ref s.heap.objs.size ∧ s₁ = { s with heap := s.heap.push (fresh0 w) }) ⟨rfl, rfl⟩) fun r s₁ hr => ?_
  cases r with
  | error e => exact hr
  | ok fl =>
    cases fl with
    | ret b =>
      obtain ⟨rfl, rfl⟩ := hr
      have hS : (s.heap.push (fresh0 w)).get? s.heap.objs.size = some (fresh0 w) := Heap.get?_push_size _ rfl
      have hT : Shared.TypeIs { s with heap := s.heap.push (fresh0 w) } (.ref s.heap.objs.size) "set" := ⟨_, hS, rfl⟩
      have hli := PySem.F.called_set.init.lookup
      have hbi := PySem.F.called_set.init.bind (.ref s.heap.objs.size)
      repeat (any_goals (first | assumption | wp_step))
      refine codeAny_mono (codeAny_call_builtin (R := wants (fun r s₂ => r = .none ∧ ∃ h' tk L es ep t, s₂ = { s with heap := h', toks := tk } ∧ Bag P w h' s.heap.objs.size L es ep t ∧ L.Perm ks ∧
          (∀ c o, c < s.heap.objs.size → s.heap.get? c = some o → h'.get? c = some o)) E) PySem.F.called_set.init.plain PySem.F.entry_set_init (check_set_init_1 hT ?_)) fun r₂ s₂ hr₂ => ?_
      · obtain ⟨ol, hol, hcl, nl, hdl⟩ := hl
        obtain ⟨ocls, odict, odata, oslots⟩ := ol
        simp only at hcl hdl
        subst hcl; subst hdl
        have hol' : (s.heap.push (fresh0 w)).get? l = some { cls := .type "list", dict := odict, data := .seq its nl, slots := oslots } := Heap.get?_push_of_some _ hol
        have hsls := PySem.F.sub_list_set
        have hslf := PySem.F.sub_list_frozenset
        have hne : (Value.type "list" == Value.type "dict") = false := by decide
        have hl1 : (s.heap.push (fresh0 w)).IsList l its := ⟨_, hol', rfl, nl, rfl⟩
        unfold Builtin.«set.__init__» noKeywords Builtin.Frozenset.updateFrom
        generalize hPI : pyIter = PI
        wp_walk
        subst hPI
        refine wpAny_pyIter_list hl1 ?_
        refine wpAny_bind (wpAny_runValue ?_)
        have hlS : l < s.heap.objs.size := Heap.lt_size hol
        have h3 : A.in1.in1.in1.handled = none := by simp [hA]
        have nI : l ≠ (s.heap.push (fresh0 w)).objs.size := by
          rw [Heap.size_push]; exact Nat.ne_of_lt (Nat.lt_succ_of_lt hlS)
        have nS : s.heap.objs.size ∉ [(s.heap.push (fresh0 w)).objs.size, l] := by
          rw [Heap.size_push]; simp only [List.mem_cons, List.mem_singleton, List.not_mem_nil, or_false, not_or]
          exact ⟨Nat.ne_of_lt (Nat.lt_succ_self _), Nat.ne_of_gt hlS⟩
        have none_of : ∀ b, s.heap.objs.size ≤ b → s.heap.get? b = none := fun b hb => by
          cases z : s.heap.get? b with
          | none => rfl
          | some o => exact absurd (Nat.lt_of_lt_of_le (Heap.lt_size z) hb) (Nat.lt_irrefl _)
        have hat : ∀ (i : Nat) (v : Value), its[i]? = some v → ∃ p, ks[i]? = some p ∧ v = .ref p.1 := fun i v hv => by
          have z : its.toList[i]? = some v := by rw [Array.getElem?_toList]; exact hv
          rw [hit, List.getElem?_map] at z
          cases y : ks[i]? with
          | none =>
            rw [y] at z
            cases z
          | some p =>
            rw [y] at z
            exact ⟨p, rfl, (Option.some.inj z).symm⟩
        refine grow ((Walks.list h3 _ l nI its).toS) s.heap.objs.size nS ks hlen (by rw [← hlen]; exact few) diff hat s.heap hk (none_of _ (Nat.le_refl _)) (fun b hb => none_of b (by
            rw [List.mem_singleton.mp hb, Heap.size_push]
            exact Nat.le_succ _)) hu (its.size - 0) 0 _ (by omega) (Nat.zero_le _) ⟨⟨_, Heap.get?_push_size _ rfl, rfl, rfl⟩, (hl1.push _)⟩ (fun b o e => Heap.get?_push_of_some _ (Heap.get?_push_of_some _ e)) ?hS0 ?hR
        case hS0 =>
          have hget : ((s.heap.push (fresh0 w)).push { cls := .type "list_iterator", data := .fields #[.ref l, .int 0 0] }).get? s.heap.objs.size = some (fresh0 w) := Heap.get?_push_of_some _ hS
          exact ⟨[], #[], 0, _, bag0 hget, by rw [List.take_zero]⟩
        case hR =>
          intro s' L es ep t mv B pm
          obtain ⟨h', g', d', tk', os'⟩ := s'
          obtain rfl : g' = s.gens := mv.gens
          obtain rfl : d' = s.drawn := mv.drawn
          obtain rfl : os' = s.os := mv.os
          show wpAny _ _ _ _ _ _
          refine wpAny_pure ?_
          show wpAny _ _ (ret Value.none) _ _ _
          refine wpAny_pure ⟨rfl, h', tk', L, es, ep, t, rfl, B, pm, fun c o hc e => ?_⟩
          have n1 : c ≠ s.heap.objs.size := Nat.ne_of_lt hc
          have n2 : c ≠ (s.heap.push (fresh0 w)).objs.size := by
            rw [Heap.size_push]; exact Nat.ne_of_lt (Nat.lt_succ_of_lt hc)
          exact mv.heap c o (by simp only [List.mem_cons, List.mem_singleton, List.not_mem_nil, or_false, not_or]; exact ⟨n1, n2⟩) (Heap.get?_push_of_some _ (Heap.get?_push_of_some _ e))
      · cases r₂ with
        | error e => exact hr₂
        | ok fl₂ =>
          cases fl₂ with
          | ret r =>
            obtain ⟨rfl, h', tk, L, es, ep, t, rfl, B, pm, hk'⟩ := hr₂
            repeat (any_goals (first | assumption | wp_step))
            exact q _ _ _ _ _ _ B pm hk'
          | _ => exact hr₂.elim
    | _ => exact hr.elim
end
section
variable {X : Cx}
/-- len(set(xs)), xs a list of different tuples of texts -/
def tLenSetT (K : PySem.W.Frag) (ta : TE) : TE := fun σ H Q => ta σ H fun x H1 => ∃ (l : Addr) (ks : List (Addr × List Str)), x = .ref l ∧ SqL K H1 l (ks.map fun p => V.ref p.1) ∧ (∀ p ∈ ks, SqT K H1 p.1 (p.2.map V.str)) ∧ ks.length < 64 ∧ (ks.map (·.2)).Nodup ∧ Q (.int (ks.length : Nat)) H1
theorem words_is {P : Program} {w : World} : ∀ {k : List Str} {us : List Value}, Vals (k.map V.str) us → ItemsAre (PySem.strKind P w) k us
  | [], _, .nil => .nil
  | z :: k, _, .cons r t => by
    obtain ⟨tk, rfl⟩ := r
    exact .cons (strKind_is _ _ _ _) (words_is t)
theorem refs_is : ∀ {ks : List (Addr × List Str)} {us : List Value}, Vals (ks.map fun p => V.ref p.1) us → us = ks.map fun p => Value.ref p.1
  | [], _, .nil => rfl
  | p :: ks, _, .cons r t => by
    cases r
    rw [List.map_cons, ← refs_is t]
theorem pe_lenSetT {a : Expr} {ta : TE} {p p2 q pos : Pos} {k : Nat} (hr : Room k X.A) (hc : X.calm = true) (hg : Gl X "len") (hm : X.mg "len" = none) (hg2 : Gl X "set") (hm2 : X.mg "set" = none) (ha : PE X a ta)
    (na : starEach [a] X.env = (false, eval a X.env) :: starEach [] X.env := by rfl) : PE X (.Call (.Name "len" p) [.Call (.Name "set" p2) [a] [] q] [] pos) (tLenSetT X.K ta) := by
  refine ⟨fun pins s σ H Q I h => ?_⟩
  refine Call_ (ld_blt I hg hm boot_len ?_)
  refine PyProof.Rows.callWith_builtin1 (PyProof.Rows.args_cons ?_ rfl) rfl rfl
  refine Call_ (ld_blt I hg2 hm2 boot_set ?_)
  refine PyProof.Rows.callWith_type1 (PyProof.Rows.args_cons (thn (ha.run pins s σ H _ I h) fun v s1 ⟨x, H1, I1, r1, q1⟩ => PyProof.Rows.args_nil ?_) na) na rfl
  obtain ⟨l, ks, rfl, hq, ht, few, diff, q1⟩ := q1
  cases r1
  obtain ⟨its, r, pl, hz⟩ := I1.list hq
  have hu := hr.units
  refine call_setT (P := X.prog) (w := X.w) ks (I1.ok.hd hc) pl.isList (by simpa using refs_is r) (fun p hp => ?_) few diff (by omega) fun h' tk L es ep t B pm hk => ?_
  · obtain ⟨ts, rt, pt, _⟩ := I1.tuple (ht p hp)
    obtain ⟨o, ho, hcl, n, hd⟩ := pt
    exact ⟨o, ts.toArray, n, ho, hcl, hd, words_is rt⟩
  · refine PyProof.Rows.args_nil ?_
    obtain ⟨o, ho, hex, hd⟩ := B.obj
    have I2 : Inv X pins σ H1 { s1 with heap := h', toks := tk } := I1.kept fun c o e => hk c o (Heap.lt_size e) e
    have hn : es.size = ks.length := by
      have z : es.size = L.length := by rw [← Array.length_toList, B.cel, cells_len]
      rw [z, pm.length_eq]
    refine call_len_set ho hex hd (B.fit (s := { s1 with heap := h', toks := tk })) (by rw [hn] <;> omega) ⟨.int (ks.length : Nat), H1, I2.tok _, ⟨_, by rw [hn]⟩, q1⟩
end
end TxSet

set_option Elab.async false
set_option linter.all false
set_option maxRecDepth 100000
set_option maxHeartbeats 4000000
/-! Tuples whose object is known: their methods can be found. -/
namespace TupX
open PySem PySem.Spec PyProof.Rows L2
/-- a tuple whose object is known to be bare -/
def Bare (H : Hp) (a : Addr) (xs : List V) : Prop := ∃ o : Obj, H a = some (.frz o (.tup xs)) ∧ o.cls = .type "tuple" ∧ o.dict = none
theorem Bare.ex {H H' : Hp} {a : Addr} {xs : List V} (e : Evl.Ex H H') (h : Bare H a xs) : Bare H' a xs := by
  obtain ⟨o, h1, h2⟩ := h
  exact ⟨o, e _ _ h1, h2⟩
theorem Bare.sq {K : PySem.W.Frag} {H : Hp} {a : Addr} {xs : List V} (h : Bare H a xs) : SqT K H a xs := by
  obtain ⟨o, h1, _⟩ := h
  exact .inl (.inr ⟨o, h1⟩)
/-- tuple(a list) -/
def rTupF (K : PySem.W.Frag) : List V → Hp → VK → Prop := fun xs H Q => ∃ p ys, xs = [.ref p] ∧ SqL K H p ys ∧ ∀ l H', H l = none → Evl.Ex H H' → Bare H' l ys → Q (.ref l) H'
theorem call_tupF {X : Cx} : CallR X (.type "tuple") (rTupF X.K) := by
  intro pins s σ H xs us Q I r h
  obtain ⟨p, ys, rfl, hq, q⟩ := h
  obtain ⟨u, rfl, rx⟩ := vals1 r
  cases rx
  obtain ⟨its, vs, pl, hz⟩ := I.list hq
  have hlen := vs.length
  apply call_tuple_list pl.isList _ (by simp only [List.size_toArray] <;> omega)
  intro h' kp
  have I1 : Inv X pins σ H { s with heap := h' } := I.kept (t' := s.toks) kp
  have fr : H h'.objs.size = none := I1.hok.fresh (Nat.le_refl _)
  refine ⟨.ref h'.objs.size, upd H h'.objs.size (.frz { cls := .type "tuple", data := .seq its.toArray } (.tup ys)), I1.laid (t' := s.toks) (fun b o e => Heap.get?_push_of_some _ e) (Nat.le_refl _) ⟨?_, hz, its, vs, IsTup.new _ _⟩, rfl, q _ _ fr (Evl.Ex.new fr) ⟨_, upd_same, rfl, rfl⟩⟩
  exact Heap.get?_push_size _ rfl
/-- the receiver of a tuple's method -/
theorem bare_ty {X : Cx} {pins : List (Addr × Obj)} {σ : L2.St} {H : Hp} {s : Shared} {p : Addr} {xs : List V} (I : Inv X pins σ H s) (h : Bare H p xs) : s.TypeIs (.ref p) "tuple" ∧ ∀ a, Value.ref p = .ref a → ∃ ob, s.heap.get? a = some ob ∧ ob.dict = none := by
  obtain ⟨o, h1, hc, hd⟩ := h
  have g : s.heap.get? p = some o := (I.hok p _ h1).1
  exact ⟨⟨o, g, hc⟩, fun a e => by cases e; exact ⟨o, g, hd⟩⟩
def tBMt (r : V → List V → Hp → VK → Prop) (to : TE) (t : TA) : TE := fun σ H Q => to σ H fun x H1 => ∃ (p : Addr) (ys : List V), x = .ref p ∧ Bare H1 p ys ∧ t σ H1 fun xs H2 => r x xs H2 Q
theorem pe_bmT {X : Cx} {o e : Expr} {es : List Expr} {to : TE} {t : TA} {name : Str} {apos cpos : Pos} {id : String} {r : V → List V → Hp → VK → Prop} (pa : PlainAttrs "tuple") (slot : Slot "tuple" name id) (hty : typeOf (.builtin id) = pure (.type "method_descriptor")) (hm : MtR X id r) (ho : PE X o to) (ha : PA X (e :: es) t)
    (hbase : attributeBase o name X.env (eval o X.env) = eval o X.env := by rfl)
    (hfew : ((backTo cpos (starEach (e :: es) X.env)).all (fun x => !x.1) && (backToKw cpos (keywordEach [] X.env)).all (fun x => x.1.isSome)
      && decide ((e :: es).length + ([] : List Keyword).length + (if ([] : List Keyword).isEmpty then 0 else 1) < 30)) = true := by rfl)
    (hline : (apos.endLine == cpos.line) = true := by rfl) (hs : starEach (e :: es) X.env = (false, eval e X.env) :: starEach es X.env := by rfl) (hplain : (backTo cpos (starEach es X.env)).any (·.1) = false := by rfl) :
    PE X (.Call (.Attribute o name apos) (e :: es) [] cpos) (tBMt r to t) := by
  constructor
  intro pins s σ H Q I h
  apply wpAny_Call_method_late hbase hfew hline rfl
  apply thn (ho.run pins s σ H _ I h)
  rintro v s1 ⟨x, H1, I1, r1, p, ys, rfl, hb, q1⟩
  cases r1
  obtain ⟨h1, h2⟩ := bare_ty I1 hb
  refine ⟨"tuple", id, pa, slot, hty, h1, h2, ?_⟩
  have hA := ha.run cpos pins s1 σ H1 _ I1 q1
  rw [hs] at hA ⊢
  refine Calls.callWith_builtin (by show (false || (backTo cpos (starEach es X.env)).any (·.1)) = false; rw [hplain] <;> rfl) (Calls.evalArgs_plain ?_)
  apply thn hA
  rintro us s2 ⟨vs, H2, I2, r2, q2⟩
  exact hm pins s2 σ H2 (.ref p) vs (.ref p) us Q I2 rfl r2 q2
end TupX

set_option Elab.async false
set_option linter.all false
set_option maxRecDepth 100000
set_option maxHeartbeats 4000000
/-! tuple(x) of a list, or of a tuple whose object is known. -/
namespace TupX
open PySem PySem.Spec PyProof.Rows L2
def rTupG (K : PySem.W.Frag) : List V → Hp → VK → Prop := fun xs H Q => ∃ p ys, xs = [.ref p] ∧ (SqL K H p ys ∨ Bare H p ys) ∧ ∀ l H', Evl.Ex H H' → Bare H' l ys → Q (.ref l) H'
theorem call_tupG {X : Cx} : CallR X (.type "tuple") (rTupG X.K) := by
  intro pins s σ H xs us Q I r h
  obtain ⟨p, ys, rfl, h, q⟩ := h
  rcases h with h | h
  · exact call_tupF pins s σ H _ us Q I r ⟨p, ys, rfl, h, fun l H' _ e b => q l H' e b⟩
  · exact call_tuple_of pins s σ H _ us Q I r ⟨p, ys, rfl, .inr ⟨h.sq, q p H (Evl.Ex.refl H) h⟩⟩
end TupX

set_option Elab.async false
set_option linter.all false
set_option maxRecDepth 100000
set_option maxHeartbeats 4000000
/-! An own exception's __init__ over ValueError: super().__init__(e), then one more statement. -/
namespace SupX
open PySem PySem.Spec PyProof.Rows L2 NdefX LamX
/-- the body of such an __init__ -/
abbrev supBody (e : Expr) (st2 : Stmt) (p0 p1 p2 p3 p4 : Pos) : List Stmt :=
  [.Expr (.Call (.Attribute (.Call (.Name "super" p0) [] [] p1) "__init__" p2) [e] [] p3) p4, st2]
abbrev supF (name qual : Str) (params : Arguments) (body : List Stmt) (scope : Scope) (cc cda : Addr) : NF := ⟨name, qual, params, body, scope, [("__class__", cc)], cda⟩
/-- what the written part says of it -/
structure SupC (P : Program) (K : PySem.W.Frag) (mg : Str → Option Value) (C f cc cda : Addr) (name qual arg2 : Str) (params : Arguments) (body : List Stmt) (scope : Scope) (fd : FuncData) : Prop where
  lk : ∃ (oc : Value) (od : Option Addr) (dV kV doc pm : Value) (an : Option Addr) (ct : Value) (osl : Array (Option Value)), fd = PySem.W.fnX name qual params body scope [("__class__", cc)] dV kV doc pm an (.ref cda) ct ∧ K.lookup f = some ⟨oc, od, .func fd, osl⟩
  hcd : PySem.W.codeIn K (.ref cda) qual = true
  code : ∃ (ccl : Value) (cdd : Option Addr) (vs : Array Value) (ccs : Array (Option Value)) (file : Str) (tf : Tok), K.lookup cda = some ⟨ccl, cdd, .fields vs, ccs⟩ ∧ vs[2]? = some (.str file tf) ∧ ((P.main.file : Str) == file) = true
  cell : ∃ (cl : Value) (cld : Option Addr) (csl : Array (Option Value)), K.lookup cc = some ⟨cl, cld, .cell (some (.ref C)), csl⟩
  S : NScope ["self", arg2, "__class__"] ["self", arg2] ["__class__"] scope
  hp : ∃ ar : Arg, (params.posonlyargs ++ params.args).head? = some ar ∧ ar.arg = "self"
  hsup : scope.names.lookup ("super" : Str) = some .globalImplicit
  T : OexC K C
  cls : ∃ cd, PySem.W.clsIn K C = some cd
  sub : PySem.W.mroIn K C (.ref C) = some true
  ve : PySem.W.subIn K (.ref C) (.type "ValueError") = some true
  along : PySem.W.ks_superIn K C C "__init__" = some (some (.builtin "ValueError.__init__"))
  opq : PySem.W.nsIn K cStatics "thirdparty.any" = some none
  msup : mg "super" = none
  top : (P.main.scope.names.lookup ("super" : Str)).isSome = false
section
variable {P : Program} {w : World} {K : PySem.W.Frag} {mg : Str → Option Value} {base : Heap} {CX : CXT} {k : Nat}
/-- the built-in __init__ by its method-wrapper, upon an exception that is being made -/
theorem call_mw {X : Cx} {pins : List (Addr × Obj)} {σ : L2.St} {H : Hp} {s : Shared} {a C u : Addr} {us : List Value} {A : Around} {E : Value → Shared → Prop} {Q : Value → Shared → Prop} (T : OexC X.K C) (I : Inv X pins σ H s) (e : H a = some (exo a C none)) (hl : us.length ≤ sizeLine)
    (hu : s.heap.get? u = some (PySem.W.kxs_mw "ValueError.__init__" a)) (h : ∀ s', Inv X pins σ H s' → Q .none s') : wpAny (model X.prog X.w) A (call (.ref u) us) Q E s := by
  obtain ⟨nm, q, N, bs, bm, sn, sub, ab, col, dd, k0, k1, k2, k3, k5, hC, hbm⟩ := T.cls
  obtain ⟨t1, ho⟩ := exo_at I.hok e
  have hC' := I.kIn _ _ hC
  obtain ⟨hh, g, d, t, os⟩ := s
  refine wpAny_call (codeAny_of_tree ?_)
  show wpAny _ A.in1 (callAny (.ref u) ⟨us, []⟩) _ _ _
  simp only [callAny]
  refine wpAny_bind (wpAny_load hu ?_)
  simp only [PySem.W.kxs_mw, show (Value.type "method-wrapper" == Value.type "method" || Value.type "method-wrapper" == Value.type "builtin_function_or_method" || Value.type "method-wrapper" == Value.type "method-wrapper") = true by decide, if_true]
  refine PySem.W.KFB.if_so (by decide) ?_
  refine wpAny_bind (PySem.W.check_bound_init PySem.F.excBase_ValueError.toExcCallFacts hC' ho rfl ?_)
  refine wpAny_bind (wpAny_pure (wpAny_pure ?_))
  refine ⟨plainId_quiet PySem.F.excBase_ValueError.init.plain _, codeAny_builtin PySem.F.excBase_ValueError.initEntry ?_⟩
  refine PySem.W.exc_init_tree (cls := .ref C) (t0 := t1) (dv := none) (c2 := .none) (c3 := .none) (b4 := .bool false) ho hl (fun h' k hx _ => ?_)
  have J := I.write (t' := t) (x := a) (e := a) (o := exo a C none) (by rw [e]; exact True.intro) (.inl rfl) k ⟨_, hx⟩ (exo_ok hx)
  have eu : upd H a (exo a C none) = H := by
    funext b
    by_cases hb : b = a
    · rw [hb, upd_same, e]
    · rw [upd_ne hb]
  rw [eu] at J
  exact h _ J
theorem callWith_mw {M : Model} {A : Around} {E : Value → Shared → Prop} {s : Shared} {i : String} {u x : Addr} {pos : Pos} {env : Env} {e : Expr} {Q : Value → Shared → Prop}
    (h : wpAny M A (spliced (backTo pos (starEach [e] env))) (fun vs s₁ => PySem.W.KxsAt i u x s₁.heap ∧ wpAny M A (call (.ref u) vs) Q E s₁) E s)
    (he : starEach [e] env = [(false, eval e env)]) : wpAny M A (callWith pos (.ref u) [] (backTo pos (starEach [e] env)) []) Q E s := by
  rw [he] at h ⊢
  refine PySem.W.kxs_callWith (i := i) (x := x) rfl ?_
  exact PySem.Calls.evalArgs_plain h
/-- THE RULE: such an __init__ as a def -/
theorem sup_ok {C f cc cda : Addr} {name qual arg2 : Str} {params : Arguments} {e : Expr} {st2 : Stmt} {p0 p1 p2 p3 p4 : Pos} {scope : Scope} {fd : FuncData} {sp : Sp} (W0 : SupC P K mg C f cc cda name qual arg2 params (supBody e st2 p0 p1 p2 p3 p4) scope fd)
    (len : ∀ vs H Q E, sp vs H Q E → vs.length = 2)
    (hbody : ∀ (A : Around) (outer : List Env) (s : Shared) (H : Hp) (vs : List V) (Q : VK) (E : XK), Room k (A.deeper (envF (supF name qual params (supBody e st2 p0 p1 p2 p3 p4) scope cc cda) f s.heap.objs.size)) → sp vs H Q E →
      ∃ (a : Addr) (y : V) (ta : TA) (t2 : TS), vs = [.ref a, y] ∧ H a = some (exo a C none) ∧ PA (ncx CX P w K mg base ["self", arg2, "__class__"] (supF name qual params (supBody e st2 p0 p1 p2 p3 p4) scope cc cda) f A outer s H E) [e] ta ∧
        PS (ncx CX P w K mg base ["self", arg2, "__class__"] (supF name qual params (supBody e st2 p0 p1 p2 p3 p4) scope cc cda) f A outer s H E) st2 t2 ∧
        ta (startF ["self", arg2, "__class__"] vs [none]) H fun ws H1 => ws.length ≤ 1000 ∧ H1 a = some (exo a C none) ∧ t2 { nx := fun _ H' => Q .non H', rt := Q } (startF ["self", arg2, "__class__"] vs [none]) H1)
    (he : ∀ env : Env, starEach [e] env = [(false, eval e env)]) (hcall : ∀ env : Env, ∃ pl : Sem Bool, eval (.Call (.Attribute (.Call (.Name "super" p0) [] [] p1) "__init__" p2) [e] [] p3) env = (do
      let ov ← attributeBase (.Call (.Name "super" p0) [] [] p1) "__init__" env (eval (.Call (.Name "super" p0) [] [] p1) env)
      standAt p2.atName
      let (f, first) ← holding [ov] (getMethod ov "__init__" pl)
      callWith p3 f first (backTo p3 (starEach [e] env)) [])) : FnOk P w K mg base CX (k + 1) f fd ["self", arg2] sp := by
  obtain ⟨⟨oc, od, dV, kV, doc, pm, an, ct, osl, rfl, lk⟩, hcd, ⟨ccl, cdd, cvs, ccs, file, tf, hcode, hvs, hfile⟩, ⟨cl, cld, csl, hcell⟩, S, ⟨ar, hp1, hp2⟩, hsup, T, ⟨cd, hcls⟩, hsub, hve, halong, hopq, msup, htop⟩ := W0
  refine ⟨len, fun A outer s H args us vs Q E hr e0 hb r hsp => ?_⟩
  have hl := len _ _ _ _ hsp
  have KX : K.In s.heap := e0.mod.kin.keeps fun b o e => (e0.bs b o e).1
  have lim : s.heap.NoLimit := e0.mod.nolimit.keeps fun b o e => (e0.bs b o e).1
  refine PySem.ks_codeAny_call_defAt (body := supBody e st2 p0 p1 p2 p3 p4) hr.depth (KX _ _ lk) rfl lim (PySem.W.codeRec_of KX hcd) rfl hb S.nocell (fun ⟨n, _⟩ hy => S.par n (List.of_mem_zip hy).1) (fun h₁ hns kp => ?_) S.co S.gen S.kind
  obtain ⟨a, y, ta, t2, rfl, ea, hPA, hPS, hq⟩ := hbody A outer s H vs Q E (hr.deeper _) hsp
  have kb : ∀ b o, base.get? b = some o → H b = none := fun b o z => (e0.bs b o z).2
  have kcell : s.heap.IsCell cc (some (.ref C)) := ⟨_, KX _ _ hcell, rfl⟩
  have nocc : H cc = none := kb cc _ (e0.mod.kin _ _ hcell)
  have CA : CellsAt (supF name qual params (supBody e st2 p0 p1 p2 p3 p4) scope cc cda).cl ["__class__"] [none] s.heap H := by
    have one : ∀ {y c}, List.lookup y [(("__class__" : Str), cc)] = some c → y = "__class__" ∧ c = cc := fun {y c} z => by
      rw [List.lookup_cons] at z
      by_cases q : (y == ("__class__" : Str)) = true
      · rw [q] at z
        exact ⟨eq_of_beq q, (Option.some.inj z).symm⟩
      · rw [Bool.not_eq_true] at q
        rw [q] at z
        cases z
    refine ⟨rfl, fun y c z => ?_, fun x y c z1 z2 => (one z1).1.trans (one z2).1.symm, fun i y hi => ?_⟩
    · obtain ⟨_, rfl⟩ := one z
      exact ⟨nocc, _, kcell⟩
    · cases i with
      | zero =>
        obtain rfl := Option.some.inj hi
        exact ⟨cc, by rw [List.lookup_cons, show (("__class__" : Str) == ("__class__" : Str)) = true from beq_self_eq_true _], fun v hv => by simp at hv⟩
      | succ i => simp at hi
  have I : L2.Inv (ncx CX P w K mg base ["self", arg2, "__class__"] (supF name qual params (supBody e st2 p0 p1 p2 p3 p4) scope cc cda) f A outer s H E) [] (startF ["self", arg2, "__class__"] [.ref a, y] [none]) H { s with heap := h₁, toks := s.toks + (((["self", arg2] : List Str).zip us)).length } := inv_startN (F := supF name qual params (supBody e st2 p0 p1 p2 p3 p4) scope cc cda) S hr.hd e0 hl r CA hns kp
  have K1 : K.In h₁ := KX.keeps kp
  obtain ⟨ua, uy, rfl, ra, ry⟩ : ∃ ua uy, us = [ua, uy] ∧ ua = Value.ref a ∧ RelV y uy := by
    cases r with
    | cons h1 h2 =>
      cases h2 with
      | cons h3 h4 =>
        cases h4
        exact ⟨_, _, rfl, h1, h3⟩
  subst ra
  have hself : ((["self", arg2] : List Str).zip [Value.ref a, uy]).reverse.lookup ar.arg = some (.ref a) := by
    rw [hp2]
    have nd := S.nd
    exact zip_look (i := 0) (ps := (["self", arg2] : List Str)) (us := [Value.ref a, uy]) (by
      have q := nd.sublist (List.take_sublist 2 (["self", arg2, "__class__"] : List Str))
      exact q) rfl rfl
  obtain ⟨t1, hoe⟩ := exo_at I.hok ea
  obtain ⟨oC, hC1, hC2⟩ : ∃ oC, h₁.get? C = some oC ∧ oC.data = .cls cd := by
    unfold PySem.W.clsIn at hcls
    split at hcls
    · rename_i c d cd' sl ho
      cases hcls
      exact ⟨_, K1 _ _ ho, rfl⟩
    · cases hcls
  have hself2 : scope.names.lookup ar.arg = some .local := by rw [hp2]; exact S.par "self" List.mem_cons_self
  obtain ⟨mb, hm1, hm2⟩ := I.mod.blt
  obtain ⟨pl, hpl⟩ := hcall (envF (supF name qual params (supBody e st2 p0 p1 p2 p3 p4) scope cc cda) f s.heap.objs.size)
  refine PySem.ks_wpAt_execs_cons (PySem.ks_wpAt_Expr_any (PySem.ks_wpAt_MethodCall ?_ hpl) (hi := I.quiet))
  refine PySem.ks_wpAt_super_base (f := f) hsup (S.frk "__class__" List.mem_cons_self) (by decide) rfl (kp _ _ (KX _ _ lk)) rfl hp1 rfl (K1 _ _ hcode) rfl hvs hfile htop ?_
  refine PySem.W.ks_loadName_global S.kind hsup (Calls.loadGlobal_builtin (I.mod.glob.keeps I.bk) msup (hm1.keeps I.bk) ((hm2 "super" (by decide)).trans (show bootBuiltins "super" = some (.type "super") by decide +kernel)) ⟨rfl, ?_⟩)
  refine wpAny_loadName_free S.kind (S.frk "__class__" List.mem_cons_self) rfl ⟨_, K1 _ _ hcell, rfl⟩ ?_
  refine wpAny_loadName_local S.kind hself2 hns hself ?_
  refine PySem.ks_wpAny_isType_cls hC1 hC2 ⟨rfl, ?_⟩
  refine PySem.ks_wpAny_call_super hC1 hC2 hoe rfl (fun c z => by cases z) (PySem.W.looks_mroIn K1 hsub) (fun h2 hso k2 => ?_)
  have K2 : K.In h2 := K1.keeps k2
  have I2 := I.kept (h' := h2) (t' := s.toks + (((["self", arg2] : List Str).zip [Value.ref a, uy])).length) k2
  have IA : PySem.W.InstAt h2 a _ C none := ⟨k2 _ _ hoe, rfl, rfl, trivial⟩
  have halong' : PySem.W.alongIn K "__init__" ((cd.mro.dropWhile (· != .ref C)).drop 1) = some (some (.builtin "ValueError.__init__")) := by
    unfold PySem.W.ks_superIn at halong
    rw [hcls] at halong
    exact halong
  refine PySem.W.kxs_getMethod PySem.W.kxs_ValueError hso (PySem.W.looks_opaque K2 hopq) (l₀ := cd.mro) (fun A Q E s k q => wpAny_bind ((PySem.W.looks_clsIn K2 hcls) A _ E s k (wpAny_pure q))) rfl K2 halong' (IA.type.andThen (PySem.W.looks_subIn K2 hve)) (PySem.W.ks_ne K2 IA hcls) (by decide) ?_
  have k3 : ∀ b o, h2.get? b = some o → (h2.push (PySem.W.kxs_mw "ValueError.__init__" a)).get? b = some o := fun b o z => Heap.get?_push_of_some _ z
  have I3 := I2.kept (h' := h2.push (PySem.W.kxs_mw "ValueError.__init__" a)) (t' := s.toks + (((["self", arg2] : List Str).zip [Value.ref a, uy])).length + 1) k3
  have hu : (h2.push (PySem.W.kxs_mw "ValueError.__init__" a)).get? h2.objs.size = some (PySem.W.kxs_mw "ValueError.__init__" a) := Heap.get?_push_size _ rfl
  have I4 := I3.pins_of (pins' := [(h2.objs.size, PySem.W.kxs_mw "ValueError.__init__" a)]) fun p hp => by
    obtain rfl := List.mem_singleton.mp hp
    refine ⟨hu, I2.hok.fresh (Nat.le_refl _), fun z => ?_, I2.nofs (Nat.le_refl _), fun v z => by cases z⟩
    have := I2.lt
    rw [← z] at this
    exact absurd this (Nat.lt_irrefl _)
  refine callWith_mw (i := "ValueError.__init__") (x := a) (thn (hPA.run p3 _ _ _ H _ I4 hq) fun us' s5 ⟨vs', H5, I5, r5, hlen, ea5, q5⟩ => ⟨(I5.pin _ (List.mem_append_right _ List.mem_cons_self)).1, ?_⟩) (he _)
  have hlen' : us'.length ≤ sizeLine := by
    rw [← Paired.length r5, sizeLine_eq]
    omega
  refine call_mw (X := ncx CX P w K mg base ["self", arg2, "__class__"] (supF name qual params (supBody e st2 p0 p1 p2 p3 p4) scope cc cda) f A outer s H E) T I5 ea5 hlen' (I5.pin _ (List.mem_append_right _ List.mem_cons_self)).1 (fun s6 I6 => ?_)
  have I7 := I6.pins_of (pins' := []) fun p hp => by cases hp
  refine wpAt_of_wpAny (wpAny_mono ((pss_one hPS).run [] s6 _ H5 _ I7 q5) (fun fl s' hs => ?_) fun e s' hs => hs)
  have fin : ∀ {σ' : L2.St} {H' : Hp} {v : V} {u : Value}, L2.Inv (ncx CX P w K mg base ["self", arg2, "__class__"] (supF name qual params (supBody e st2 p0 p1 p2 p3 p4) scope cc cda) f A outer s H E) [] σ' H' s' → L2.RelV v u → Q v H' → CE outer P w H s Q u s' :=
    fun {σ' H' v u} J rv q => ⟨v, H', J.os, J.bare, J.base, J.hok, rv, q⟩
  cases fl with
  | ret u =>
    obtain ⟨v, σ', H', J, rv, q⟩ := hs
    exact fin J rv q
  | next =>
    obtain ⟨σ', H', J, q⟩ := hs
    exact fin (v := V.non) (u := Value.none) J rfl q
  | brk =>
    obtain ⟨_, _, _, q⟩ := hs
    exact False.elim q
  | cont =>
    obtain ⟨_, _, _, q⟩ := hs
    exact False.elim q
end
end SupX

set_option Elab.async false
set_option linter.all false
set_option maxRecDepth 100000
set_option maxHeartbeats 4000000
namespace SupX
open PySem PySem.Spec PyProof.Rows L2 NdefX LamX
/-- isinstance(e, c), e the exception that the suite holds, with or without a dict of its own -/
def rIsX (K : PySem.W.Frag) (a : Addr) (cls : Value) (d : Option Addr) : List V → Hp → VK → Prop := fun xs H Q => ∃ (c : V) (cv : Value) (b : Bool) (D : Addr), xs = [.ref a, c] ∧ cls = .ref D ∧ ExcC K D ∧ (∀ u, L2.RelV c u → u = cv) ∧ PySem.W.kitOne K (.ref D) cv = some b ∧ (∀ dd, d = some dd → ∃ fs, H dd = some (.xd fs)) ∧ Q (.bl b) H
theorem call_isX {X : Cx} {a : Addr} {cls : Value} {d : Option Addr} {oe : Obj} {pn : List (Addr × Obj)} (hz : Zc cls d oe) (hf : ∃ vs, oe.data = .fields vs) : CallR (X.suite a ((a, oe) :: pn)) (.builtin "isinstance") (rIsX X.K a cls d) := by
  intro pins s σ H xs us Q I r h
  obtain ⟨c, cv, b, D, rfl, rfl, C, hcv, e, hd, q⟩ := h
  cases r with
  | cons rx rr =>
    cases rr with
    | cons rt rr =>
      cases rr
      cases rx
      obtain rfl := hcv _ rt
      obtain ⟨hget, _⟩ := I.pin (a, oe) (List.mem_append_left _ List.mem_cons_self)
      obtain ⟨vs, hv⟩ := hf
      obtain ⟨od, J⟩ : ∃ od, PySem.W.InstAt s.heap a oe D od := by
        have no : PySem.W.notCls oe = true := by unfold PySem.W.notCls; rw [hv]
        cases hdd : d with
        | none => exact ⟨none, hget, hz.1, no, by rw [hz.2, hdd]; trivial⟩
        | some dd =>
          obtain ⟨fs, hx⟩ := hd dd hdd
          have hx' : ObjOk X.prog X.w H s.heap dd (.xd fs) := I.hok dd _ hx
          obtain ⟨mA, ⟨o, es, ep, ho, _⟩, _⟩ := hx'
          exact ⟨some o, hget, hz.1, no, by rw [hz.2, hdd]; exact ho⟩
      have hcl : (PySem.W.clsIn X.K D).isSome = true := by
        obtain ⟨cd, hc, _⟩ := PySem.W.any_some C.hd
        rw [hc]
        rfl
      exact PySem.W.kia_one (PySem.W.kitx_exc hcl C.hg C.hk C.hs C.ha C.hn C.ht C.hm) I.kIn J e (fun z => nomatch z) fun tk => ⟨.bl b, H, I.kept (t' := tk) fun _ _ z => z, rfl, q⟩
/-- such an __init__ that keeps its one argument as the field fld -/
def spKeep (C : Addr) (fld : Str) : Sp := fun vs H Q _ => ∃ (a : Addr) (y : V), vs = [.ref a, y] ∧ (∃ z : Str, y = .str z ∧ z.length ≤ 100000 ∨ ∃ i : Int, y = .int i ∧ i.natAbs.log2 < 1920) ∧ H a = some (exo a C none) ∧
  ∀ dx, H dx = none → dx ≠ a → Q .non (upd (upd H dx (exd dx [(fld, y)])) a (exo a C (some dx)))
/-- C(e): what its making asks behind the argument -/
theorem keep_post {C : Addr} {fld : Str} {y : V} {H1 : Hp} {Q : XK} (hy : ∃ z : Str, y = .str z ∧ z.length ≤ 100000 ∨ ∃ i : Int, y = .int i ∧ i.natAbs.log2 < 1920) (q : ∀ d H', H1 d = none → Evl.Ex H1 H' → H' d = some (.xd [(fld, y)]) → Q (.ref C) (some d) H') :
    ([y] : List V).length ≤ 1000 ∧ ∀ a, H1 a = none → spKeep C fld (.ref a :: ([y] ++ [])) (upd H1 a (exo a C none))
      (fun v H2 => v = .non ∧ ∃ (d : Addr) (fs : List (Str × V)), H2 a = some (exo a C (some d)) ∧ H2 d = some (exd d fs) ∧ H1 d = none ∧ Q (.ref C) (some d) (upd (L2.del H2 a) d (.xd fs))) (fun _ _ _ => False) := by
  refine ⟨by show 1 ≤ 1000; decide, fun a ha => ⟨a, y, rfl, hy, upd_same, fun dx hd ne => ⟨rfl, dx, [(fld, y)], upd_same, ?_, ?_, ?_⟩⟩⟩
  · rw [upd_ne ne, upd_same]
  · rw [upd_ne ne] at hd
    exact hd
  · have hd1 : H1 dx = none := by rw [upd_ne ne] at hd; exact hd
    refine q dx _ hd1 (fun b o hb => ?_) upd_same
    have nb : b ≠ dx := fun z => by rw [z, hd1] at hb; cases hb
    have na : b ≠ a := fun z => by rw [z, ha] at hb; cases hb
    rw [upd_ne nb, L2.del_ne na, upd_ne na, upd_ne nb, upd_ne na]
    exact hb
theorem pmk_keep {X : Cx} {x : Str} {C fI : Addr} {k : Nat} {fd : FuncData} {e : Expr} {es : List Expr} {ta : TA} {p pos : Pos} {ps : List Str} {fld : Str} (T : OexC X.K C) (iC : PySem.W.findIn X.K (.ref C) "__init__" = some (some (.ref fI))) (tI : PySem.W.typeIn X.K (.ref fI) = some (.type "function"))
    (F1 : FnOk X.prog X.w X.K X.mg X.base CX0 k fI fd ps (spKeep C fld)) (hr : Room (k + 1) X.A) (hb : Binds X.K fd ps []) (hg : Gl X x) (hm : X.mg x = some (.ref C)) (ha : PA X (e :: es) ta)
    (hdb : (x == ("__debug__" : Str)) = false := by decide) (he : starEach (e :: es) X.env = (false, eval e X.env) :: starEach es X.env := by rfl) (hpl : (backTo pos (starEach es X.env)).any (·.1) = false := by rfl) :
    PMk X (.Call (.Name x p) (e :: es) [] pos) (tMkO C (spKeep C fld) [] ta) :=
  pmk_oex T iC tI F1 hr hb .nil pass0 hg hm ha hdb he hpl
end SupX

set_option linter.all false
/-! A binary heap, without any program: what the sifting of heapq keeps. -/
namespace HeapP
variable {α : Type}
/-- the order of the items: le x y where not y < x -/
structure Ord (lt : α → α → Bool) : Prop where
  asym : ∀ x y, lt x y = true → lt y x = false
  tr : ∀ x y z, lt y x = false → lt z y = false → lt z x = false
def par (i : Nat) : Nat := (i - 1) / 2
theorem par_lt {i : Nat} (h : 0 < i) : par i < i := by unfold par; omega
theorem par_left (i : Nat) : par (2 * i + 1) = i := by unfold par; omega
theorem par_right (i : Nat) : par (2 * i + 2) = i := by unfold par; omega
theorem kid {i p : Nat} (h : 0 < i) (e : par i = p) : i = 2 * p + 1 ∨ i = 2 * p + 2 := by unfold par at e; omega
def swp (f : Nat → α) (i j : Nat) : Nat → α := fun k => if k = i then f j else if k = j then f i else f k
theorem swp_l (f : Nat → α) (i j : Nat) : swp f i j i = f j := by unfold swp; rw [if_pos rfl]
theorem swp_r (f : Nat → α) {i j : Nat} (h : i ≠ j) : swp f i j j = f i := by unfold swp; rw [if_neg (fun e => h e.symm), if_pos rfl]
theorem swp_o (f : Nat → α) {i j k : Nat} (h1 : k ≠ i) (h2 : k ≠ j) : swp f i j k = f k := by unfold swp; rw [if_neg h1, if_neg h2]
/-- the items from top on stand in order: each is no less than the one above it, where that one is at top or behind it -/
def Heap (lt : α → α → Bool) (top n : Nat) (f : Nat → α) : Prop := ∀ i, 0 < i → i < n → top ≤ par i → lt (f i) (f (par i)) = false
/-- the same but at the place pos, whose item may be less or greater: what is below it is no less than what is above it -/
def Hole (lt : α → α → Bool) (top n pos : Nat) (f : Nat → α) : Prop :=
  (∀ i, 0 < i → i < n → top ≤ par i → i ≠ pos → par i ≠ pos → lt (f i) (f (par i)) = false) ∧
  (∀ c, 0 < c → c < n → par c = pos → 0 < pos → top ≤ par pos → lt (f c) (f (par pos)) = false)
/-- the same where the item is no greater than what is below it -/
def Low (lt : α → α → Bool) (top n pos : Nat) (f : Nat → α) : Prop :=
  (∀ i, 0 < i → i < n → top ≤ par i → i ≠ pos → lt (f i) (f (par i)) = false) ∧
  (∀ c, 0 < c → c < n → par c = pos → 0 < pos → top ≤ par pos → lt (f c) (f (par pos)) = false)
theorem hole_of_heap {lt : α → α → Bool} {top n : Nat} {f g : Nat → α} (h : Heap lt (top + 1) n f) (e : ∀ i, i ≠ top → i < n → g i = f i) : Hole lt top n top g := by
  refine ⟨fun i h0 hn ht hi hp => ?_, fun c h0 hn hc hp ht => ?_⟩
  · rw [e i hi hn, e (par i) hp (by have := par_lt h0; omega)]
    exact h i h0 hn (by omega)
  · have := par_lt hp
    omega
/-- one step down: the lesser of the two below comes up -/
theorem hole_down {lt : α → α → Bool} (O : Ord lt) {top n pos c : Nat} {f : Nat → α} (h : Hole lt top n pos f) (tp : top ≤ pos) (hc0 : 0 < c) (hc : c < n) (pc : par c = pos) (least : ∀ d, 0 < d → d < n → par d = pos → lt (f d) (f c) = false) :
    Hole lt top n c (swp f c pos) := by
  have ne : c ≠ pos := by have := par_lt hc0; omega
  refine ⟨fun i h0 hn ht hi hp => ?_, fun d h0 hn hd _ ht => ?_⟩
  · by_cases e1 : i = pos
    · have pp : par i ≠ pos := by have := par_lt h0; omega
      have pc' : par i ≠ c := by have := par_lt h0; have := par_lt hc0; omega
      subst e1
      rw [swp_r f ne, swp_o f pc' pp]
      exact h.2 c hc0 hc pc (by omega) ht
    · by_cases e2 : par i = pos
      · rw [swp_o f hi e1, e2, swp_r f ne]
        exact least i h0 hn e2
      · rw [swp_o f hi e1, swp_o f hp e2]
        exact h.1 i h0 hn ht e1 e2
  · have dn : d ≠ pos := by have := par_lt h0; have := par_lt hc0; omega
    have dc : d ≠ c := by have := par_lt h0; omega
    rw [swp_o f dc dn, pc, swp_r f ne]
    have cp := par_lt hc0
    rw [← hd]
    exact h.1 d h0 hn (by omega) dn (by rw [hd]; exact ne)
/-- at a place without any below it -/
theorem low_of_hole {lt : α → α → Bool} {top n pos : Nat} {f : Nat → α} (h : Hole lt top n pos f) (leaf : ∀ c, 0 < c → c < n → par c ≠ pos) : Low lt top n pos f :=
  ⟨fun i h0 hn ht hi => h.1 i h0 hn ht hi (leaf i h0 hn), fun c h0 hn hc => absurd hc (leaf c h0 hn)⟩
/-- one step up -/
theorem low_up {lt : α → α → Bool} (O : Ord lt) {top n pos : Nat} {f : Nat → α} (h : Low lt top n pos f) (h0 : 0 < pos) (hn : pos < n) (tp : top ≤ par pos) (less : lt (f pos) (f (par pos)) = true) :
    Low lt top n (par pos) (swp f (par pos) pos) := by
  have ne : par pos ≠ pos := by have := par_lt h0; omega
  have lp := par_lt h0
  have down : lt (f (par pos)) (f pos) = false := O.asym _ _ less
  refine ⟨fun i i0 hi ht hp => ?_, fun c c0 hc pc pp ht => ?_⟩
  · by_cases e1 : i = pos
    · rw [e1, swp_r f ne, swp_l]
      exact down
    · by_cases e2 : par i = par pos
      · rw [swp_o f hp e1, e2, swp_l]
        exact O.tr _ _ _ down (by rw [← e2]; exact h.1 i i0 hi ht e1)
      · by_cases e3 : par i = pos
        · rw [swp_o f hp e1, e3, swp_r f ne]
          exact h.2 i i0 hi e3 h0 tp
        · rw [swp_o f hp e1, swp_o f e2 e3]
          exact h.1 i i0 hi ht e1
  · have q := par_lt pp
    have gp1 : par (par pos) ≠ par pos := by omega
    have gp2 : par (par pos) ≠ pos := by omega
    have up : lt (f (par pos)) (f (par (par pos))) = false := h.1 (par pos) pp (by omega) ht (by omega)
    rw [swp_o f gp1 gp2]
    by_cases e1 : c = pos
    · rw [e1, swp_r f ne]
      exact up
    · rw [swp_o f (by have := par_lt c0; omega) e1]
      exact O.tr _ _ _ up (by rw [← pc]; exact h.1 c c0 hc (by rw [pc]; exact tp) e1)
/-- where the sifting stops -/
theorem heap_of_low {lt : α → α → Bool} {top n pos : Nat} {f : Nat → α} (h : Low lt top n pos f) (stop : 0 < pos → top ≤ par pos → lt (f pos) (f (par pos)) = false) : Heap lt top n f := fun i h0 hn ht => by
  by_cases e : i = pos
  · rw [e] at h0 ht ⊢
    exact stop h0 ht
  · exact h.1 i h0 hn ht e
/-- the first item of a heap is the least -/
theorem first_least {lt : α → α → Bool} (O : Ord lt) (irr : ∀ x, lt x x = false) {n : Nat} {f : Nat → α} (h : Heap lt 0 n f) : ∀ i, i < n → lt (f i) (f 0) = false := by
  intro i
  induction i using Nat.strongRecOn with
  | _ i ih =>
    intro hn
    by_cases z : i = 0
    · rw [z]; exact irr _
    · have p := par_lt (i := i) (by omega)
      exact O.tr _ _ _ (ih (par i) p (by omega)) (h i (by omega) hn (Nat.zero_le _))
/-- an item more -/
theorem low_push {lt : α → α → Bool} {n : Nat} {f : Nat → α} (h : Heap lt 0 n f) : Low lt 0 (n + 1) n f :=
  ⟨fun i h0 hn ht hi => h i h0 (by omega) ht, fun c h0 hn hc => by have := par_lt h0; omega⟩
/-- no two places from the half on stand above one another -/
theorem heap_half {lt : α → α → Bool} {n : Nat} (f : Nat → α) : Heap lt (n / 2) n f := fun i h0 hn ht => by
  unfold par at ht
  omega
theorem leaf_half {n pos : Nat} (h : ¬ pos < n / 2) : ∀ c, 0 < c → c < n → par c ≠ pos := fun c h0 hn e => by
  unfold par at e
  omega
end HeapP

set_option Elab.async false
set_option linter.all false
set_option maxRecDepth 100000
set_option maxHeartbeats 4000000
namespace HeapM
open PySem L2 PySem.Spec PyProof.Rows
open AutoSeq1 (wpAny_loadPart')
theorem entry_sift : entryFor table "_heapq.heapify.sift" = some Builtin.«_heapq.heapify.sift» := entryFor_of_tree (by kernel_rfl)
theorem entry_push : entryFor table "_heapq.heappush" = some Builtin.«_heapq.heappush» := entryFor_of_tree (by kernel_rfl)
theorem entry_pop : entryFor table "_heapq.heappop" = some Builtin.«_heapq.heappop» := entryFor_of_tree (by kernel_rfl)
theorem entry_heapify : entryFor table "_heapq.heapify" = some Builtin.«_heapq.heapify» := entryFor_of_tree (by kernel_rfl)
theorem leaf_step {prog : Program} {w : World} {A : Around} {R : PySem.Fin → Shared → Prop} {E : Value → Shared → Prop} {s : Shared} {a : Addr} {xs : Array Value} {n pos top : Nat} {res : Value} {t1 t2 t3 : Tok} {after : Int}
    (h : s.heap.get? a = some { cls := .type "list", data := .seq xs n }) (hl : ¬ pos < xs.size / 2) (q : R (.again (.builtin "_heapq.heapify.sift" ⟨[.ref a, .bool false, .bool false, rawInt pos, rawInt top, res, rawInt after], []⟩)) s) :
    wpAny (model prog w) A (Builtin.«_heapq.heapify.sift» ⟨[.ref a, .bool false, .bool true, .int pos t1, .int top t2, res, .int after t3], []⟩) R E s := by
  obtain ⟨hp, g, d, tk, os⟩ := s
  have e1 : ((pos : Int)).toNat = pos := rfl
  have e2 : ((top : Int)).toNat = top := rfl
  unfold Builtin.«_heapq.heapify.sift»
  dsimp only
  refine wpAny_bind ?_
  wp_walk using wpAny_loadPart' h
  exact q
/-- a child comes up -/
theorem down_step {prog : Program} {w : World} {A : Around} {R : PySem.Fin → Shared → Prop} {E : Value → Shared → Prop} {s : Shared} {a : Addr} {xs : Array Value} {n pos top : Nat} {res : Value} {t1 t2 t3 : Tok} {after : Int} {lt : Value → Value → Bool}
    (h : s.heap.get? a = some { cls := .type "list", data := .seq xs n }) (hz : xs.size ≤ 100000) (hl : pos < xs.size / 2)
    (hlt : ∀ x y, x ∈ xs → y ∈ xs → SeqAt.RcLt A s x y (lt x y))
    (q : ∀ c (hc : c < xs.size) (hp : pos < xs.size), 0 < c → HeapP.par c = pos → (∀ d (hd : d < xs.size), 0 < d → HeapP.par d = pos → d ≠ c → lt xs[d] xs[c] = false ∨ lt xs[c] xs[d] = true) →
      R (.again (.builtin "_heapq.heapify.sift" ⟨[.ref a, .bool false, .bool true, rawInt c, rawInt top, res, rawInt after], []⟩)) { s with heap := s.heap.update a (Obj.mapSeq fun ys => (ys.setIfInBounds c xs[pos]).setIfInBounds pos xs[c]) }) :
    wpAny (model prog w) A (Builtin.«_heapq.heapify.sift» ⟨[.ref a, .bool false, .bool true, .int pos t1, .int top t2, res, .int after t3], []⟩) R E s := by
  have hp0 : pos < xs.size := by omega
  have hl0 : 2 * pos + 1 < xs.size := by omega
  have gl : xs[2 * pos + 1]? = some xs[2 * pos + 1] := by simp [hl0]
  have gp : xs[pos]? = some xs[pos] := by simp [hp0]
  obtain ⟨hp, g, d, tk, os⟩ := s
  unfold Builtin.«_heapq.heapify.sift»
  dsimp only
  refine wpAny_bind ?_
  wp_walk using wpAny_loadPart' h
  have ep : ((pos : Int)).toNat = pos := rfl
  have et : ((top : Int)).toNat = top := rfl
  rw [ep, et]
  by_cases two : 2 * pos + 1 + 1 < xs.size
  · have gr : xs[2 * pos + 1 + 1]? = some xs[2 * pos + 1 + 1] := by simp [two]
    rw [if_pos two]
    wp_walk using wpAny_loadPart' h
    rw [gl]
    wp_walk using wpAny_loadPart' h
    rw [gr]
    have cmp := hlt _ _ (Array.getElem_mem hl0) (Array.getElem_mem two) prog w
    wp_walk using cmp _ _, wpAny_loadPart' h
    cases e : lt xs[2 * pos + 1] xs[2 * pos + 1 + 1] with
    | true =>
      rw [if_neg (by decide)]
      refine wpAny_bind ?_
      wp_walk using wpAny_loadPart' h
      rw [gl]
      wp_walk using wpAny_loadPart' h
      rw [gp]
      have z1 : xs.size ≤ sizeLine := by rw [sizeLine_eq]; omega
      have z2 : ((xs.setIfInBounds (2 * pos + 1) xs[pos]).setIfInBounds pos xs[2 * pos + 1]).size ≤ sizeLine + 1 := by rw [Array.size_setIfInBounds, Array.size_setIfInBounds, sizeLine_eq]; omega
      wp_walk using (wpAny_updateSeq h rfl (hz := z1) (_hz' := z2)), wpAny_loadPart' h
      refine q (2 * pos + 1) hl0 hp0 (by omega) (HeapP.par_left pos) fun d hd d0 pd ne => .inr ?_
      rcases HeapP.kid d0 pd with z | z
      · exact absurd z ne
      · subst z; exact e
    | false =>
      rw [if_pos (show (!false) = true from rfl)]
      refine wpAny_bind ?_
      wp_walk using wpAny_loadPart' h
      rw [gr]
      wp_walk using wpAny_loadPart' h
      rw [gp]
      have z1 : xs.size ≤ sizeLine := by rw [sizeLine_eq]; omega
      have z2 : ((xs.setIfInBounds (2 * pos + 1 + 1) xs[pos]).setIfInBounds pos xs[2 * pos + 1 + 1]).size ≤ sizeLine + 1 := by rw [Array.size_setIfInBounds, Array.size_setIfInBounds, sizeLine_eq]; omega
      wp_walk using (wpAny_updateSeq h rfl (hz := z1) (_hz' := z2)), wpAny_loadPart' h
      refine q (2 * pos + 1 + 1) two hp0 (by omega) (HeapP.par_right pos) fun d hd d0 pd ne => .inl ?_
      rcases HeapP.kid d0 pd with z | z
      · subst z; exact e
      · exact absurd z ne
  · rw [if_neg two]
    refine wpAny_bind ?_
    wp_walk using wpAny_loadPart' h
    rw [gl]
    wp_walk using wpAny_loadPart' h
    rw [gp]
    have z1 : xs.size ≤ sizeLine := by rw [sizeLine_eq]; omega
    have z2 : ((xs.setIfInBounds (2 * pos + 1) xs[pos]).setIfInBounds pos xs[2 * pos + 1]).size ≤ sizeLine + 1 := by rw [Array.size_setIfInBounds, Array.size_setIfInBounds, sizeLine_eq]; omega
    wp_walk using (wpAny_updateSeq h rfl (hz := z1) (_hz' := z2)), wpAny_loadPart' h
    refine q (2 * pos + 1) hl0 hp0 (by omega) (HeapP.par_left pos) fun d hd d0 pd ne => ?_
    rcases HeapP.kid d0 pd with z | z
    · exact absurd z ne
    · omega
/-- an item goes up -/
theorem up_step {prog : Program} {w : World} {A : Around} {R : PySem.Fin → Shared → Prop} {E : Value → Shared → Prop} {s : Shared} {a : Addr} {xs : Array Value} {n pos top : Nat} {res : Value} {t1 t2 t3 : Tok} {after : Int} {lt : Value → Value → Bool}
    (h : s.heap.get? a = some { cls := .type "list", data := .seq xs n }) (hz : xs.size ≤ 100000) (hp : pos < xs.size) (tp : top < pos) (hp2 : (pos - 1) / 2 < xs.size)
    (hlt : ∀ x y, x ∈ xs → y ∈ xs → SeqAt.RcLt A s x y (lt x y))
    (yes : lt xs[pos] xs[(pos - 1) / 2] = true → R (.again (.builtin "_heapq.heapify.sift" ⟨[.ref a, .bool false, .bool false, rawInt ((pos - 1) / 2 : Nat), rawInt top, res, rawInt after], []⟩)) { s with heap := s.heap.update a (Obj.mapSeq fun ys => (ys.setIfInBounds ((pos - 1) / 2) xs[pos]).setIfInBounds pos xs[(pos - 1) / 2]) })
    (no : lt xs[pos] xs[(pos - 1) / 2] = false → R (if after < 0 then .done (.ret res) else .again (.builtin "_heapq.heapify.sift" ⟨[.ref a, .bool false, .bool true, rawInt after.toNat, rawInt after.toNat, res, rawInt (after - 1)], []⟩)) s) :
    wpAny (model prog w) A (Builtin.«_heapq.heapify.sift» ⟨[.ref a, .bool false, .bool false, .int pos t1, .int top t2, res, .int after t3], []⟩) R E s := by
  have gp : xs[pos]? = some xs[pos] := by simp [hp]
  have gq : xs[(pos - 1) / 2]? = some xs[(pos - 1) / 2] := by simp [hp2]
  obtain ⟨hh, g, d, tk, os⟩ := s
  unfold Builtin.«_heapq.heapify.sift»
  dsimp only
  refine wpAny_bind ?_
  wp_walk using wpAny_loadPart' h
  have ep : ((pos : Int)).toNat = pos := rfl
  have et : ((top : Int)).toNat = top := rfl
  rw [ep, et, gp]
  wp_walk using wpAny_loadPart' h
  rw [gq]
  have cmp := hlt _ _ (Array.getElem_mem hp) (Array.getElem_mem hp2) prog w
  wp_walk using cmp _ _, wpAny_loadPart' h
  cases e : lt xs[pos] xs[(pos - 1) / 2] with
  | true =>
    rw [if_pos (show true = true from rfl)]
    refine wpAny_bind ?_
    wp_walk using wpAny_loadPart' h
    rw [gq]
    wp_walk using wpAny_loadPart' h
    rw [gp]
    have z1 : xs.size ≤ sizeLine := by rw [sizeLine_eq]; omega
    have z2 : ((xs.setIfInBounds ((pos - 1) / 2) xs[pos]).setIfInBounds pos xs[(pos - 1) / 2]).size ≤ sizeLine + 1 := by rw [Array.size_setIfInBounds, Array.size_setIfInBounds, sizeLine_eq]; omega
    wp_walk using (wpAny_updateSeq h rfl (hz := z1) (_hz' := z2)), wpAny_loadPart' h
    exact yes e
  | false =>
    rw [if_neg Bool.false_ne_true]
    have no := no e
    by_cases a0 : after < 0
    · rw [if_pos a0] at no ⊢
      wp_walk
      exact no
    · rw [if_neg a0] at no ⊢
      wp_walk
      exact no
/-- the sifting is at its top -/
theorem stop_step {prog : Program} {w : World} {A : Around} {R : PySem.Fin → Shared → Prop} {E : Value → Shared → Prop} {s : Shared} {a : Addr} {xs : Array Value} {n pos top : Nat} {res : Value} {t1 t2 t3 : Tok} {after : Int}
    (h : s.heap.get? a = some { cls := .type "list", data := .seq xs n }) (tp : ¬ top < pos)
    (no : R (if after < 0 then .done (.ret res) else .again (.builtin "_heapq.heapify.sift" ⟨[.ref a, .bool false, .bool true, rawInt after.toNat, rawInt after.toNat, res, rawInt (after - 1)], []⟩)) s) :
    wpAny (model prog w) A (Builtin.«_heapq.heapify.sift» ⟨[.ref a, .bool false, .bool false, .int pos t1, .int top t2, res, .int after t3], []⟩) R E s := by
  obtain ⟨hh, g, d, tk, os⟩ := s
  unfold Builtin.«_heapq.heapify.sift»
  dsimp only
  refine wpAny_bind ?_
  wp_walk using wpAny_loadPart' h
  have tp' : ¬ ((pos : Int)).toNat > ((top : Int)).toNat := tp
  first | rw [if_neg tp'] | skip
  by_cases a0 : after < 0
  · rw [if_pos a0] at no ⊢
    wp_walk
    exact no
  · rw [if_neg a0] at no ⊢
    wp_walk
    exact no
end HeapM

set_option Elab.async false
set_option linter.all false
set_option maxRecDepth 100000
set_option maxHeartbeats 4000000
namespace HeapM
open PySem L2 PySem.Spec PyProof.Rows
def fn (xs : Array Value) : Nat → Value := fun k => xs.toList.getD k .none
theorem fn_at {xs : Array Value} {k : Nat} (h : k < xs.size) : fn xs k = xs[k] := by
  unfold fn
  rw [List.getD_eq_getElem?_getD, List.getElem?_eq_getElem (by simpa using h)]
  simp
def swapped (xs : Array Value) (i j : Nat) (x y : Value) : Array Value := (xs.setIfInBounds i x).setIfInBounds j y
theorem swapped_size (xs : Array Value) (i j : Nat) (x y : Value) : (swapped xs i j x y).size = xs.size := by
  unfold swapped; rw [Array.size_setIfInBounds, Array.size_setIfInBounds]
theorem swapped_list (xs : Array Value) (i j : Nat) (x y : Value) : (swapped xs i j x y).toList = (xs.toList.set i x).set j y := by
  unfold swapped; rw [Array.toList_setIfInBounds, Array.toList_setIfInBounds]
theorem swapped_fn {xs : Array Value} {i j : Nat} (hi : i < xs.size) (hj : j < xs.size) (ne : i ≠ j) : fn (swapped xs i j xs[j] xs[i]) = HeapP.swp (fn xs) i j := by
  funext k
  have li : i < xs.toList.length := by simpa using hi
  have lj : j < xs.toList.length := by simpa using hj
  unfold fn HeapP.swp
  rw [swapped_list, List.getD_eq_getElem?_getD]
  by_cases e1 : k = j
  · subst e1
    rw [List.getElem?_set_self (by rw [List.length_set]; exact lj), if_neg (fun z => ne z.symm), if_pos rfl]
    exact (fn_at hi).symm
  · rw [List.getElem?_set_ne (fun z => e1 z.symm)]
    by_cases e2 : k = i
    · subst e2
      rw [List.getElem?_set_self li, if_pos rfl]
      exact (fn_at hj).symm
    · rw [List.getElem?_set_ne (fun z => e2 z.symm), if_neg e2, if_neg e1]
      rfl
theorem swapped_perm {xs : Array Value} {i j : Nat} (hi : i < xs.size) (hj : j < xs.size) : (swapped xs i j xs[j] xs[i]).toList.Perm xs.toList := by
  rw [swapped_list]
  have li : i < xs.toList.length := by simpa using hi
  have lj : j < xs.toList.length := by simpa using hj
  have := List.set_set_perm (as := xs.toList) li lj
  simpa using this
/-- a place below or at top -/
inductive Sub (top : Nat) : Nat → Prop
  | refl : Sub top top
  | step {p : Nat} : 0 < p → Sub top (HeapP.par p) → Sub top p
theorem Sub.le {top p : Nat} (h : Sub top p) : top ≤ p := by
  induction h with
  | refl => exact Nat.le_refl _
  | step h0 _ ih => have := HeapP.par_lt h0; omega
theorem Sub.up {top p : Nat} (h : Sub top p) (lt : top < p) : Sub top (HeapP.par p) := by
  cases h with
  | refl => omega
  | step _ h => exact h
/-- the same state but for the list at a -/
def Sb (a : Addr) (s s' : Shared) : Prop := ∃ h', s' = { s with heap := h' } ∧ Heap.SameBut a s.heap h'
theorem Sb.refl {a : Addr} {s : Shared} : Sb a s s := ⟨s.heap, rfl, Heap.SameBut.refl ..⟩
theorem Sb.upd {a : Addr} {s s' : Shared} {f : Obj → Obj} (h : Sb a s s') : Sb a s { s' with heap := s'.heap.update a f } := by
  obtain ⟨h', rfl, sb⟩ := h
  exact ⟨_, rfl, sb.trans (Heap.SameBut.update ..)⟩
theorem Sb.heap {a : Addr} {s s' : Shared} (h : Sb a s s') : Heap.SameBut a s.heap s'.heap := by
  obtain ⟨h', rfl, sb⟩ := h
  exact sb
def LS (h : Heap) (a : Addr) (xs : Array Value) : Prop := ∃ n, h.get? a = some { cls := .type "list", data := .seq xs n }
/-- what is behind the sifting -/
def After (prog : Program) (w : World) (A : Around) (R : Result → Shared → Prop) (a : Addr) (res : Value) (after : Int) (s' : Shared) : Prop :=
  if after < 0 then R (.ok (.ret res)) s' else codeAny (model prog w) A (.builtin "_heapq.heapify.sift" ⟨[.ref a, .bool false, .bool true, rawInt after.toNat, rawInt after.toNat, res, rawInt (after - 1)], []⟩) R s'
theorem sift_plain : plainId "_heapq.heapify.sift" = true := by decide +kernel
section
variable {prog : Program} {w : World} {A : Around} {R : Result → Shared → Prop} {a : Addr} {res : Value} {after : Int} {lt : Value → Value → Bool} {top : Nat} {s0 : Shared} {xs0 : Array Value}
theorem go_up (O : HeapP.Ord lt) (hz : xs0.size ≤ 100000)
    (hlt : ∀ (args : Args) (s' : Shared), Sb a s0 s' → ∀ x y, x ∈ xs0.toList → y ∈ xs0.toList → SeqAt.RcLt (A.under (.builtin "_heapq.heapify.sift" args)) s' x y (lt x y))
    (K : ∀ ys s', LS s'.heap a ys → ys.toList.Perm xs0.toList → HeapP.Heap lt top ys.size (fn ys) → Sb a s0 s' → After prog w A R a res after s') :
    ∀ (pos : Nat) (xs : Array Value) (s : Shared), LS s.heap a xs → xs.toList.Perm xs0.toList → Sb a s0 s → pos < xs.size → Sub top pos → HeapP.Low lt top xs.size pos (fn xs) →
      codeAny (model prog w) A (.builtin "_heapq.heapify.sift" ⟨[.ref a, .bool false, .bool false, rawInt pos, rawInt top, res, rawInt after], []⟩) R s := by
  intro pos
  induction pos using Nat.strongRecOn with
  | _ pos ih =>
    intro xs s ⟨n, h⟩ pm sb hp sub low
    have sz : xs.size = xs0.size := by have := pm.length_eq; simpa using this
    refine codeAny_builtin entry_sift ?_
    have fin : ∀ s', After prog w A R a res after s' → (match (if after < 0 then PySem.Fin.done (.ret res) else .again (.builtin "_heapq.heapify.sift" ⟨[.ref a, .bool false, .bool true, rawInt after.toNat, rawInt after.toNat, res, rawInt (after - 1)], []⟩)) with
        | .done f => R (.ok f) s'
        | .again c' => c'.quiet = true ∧ codeAny (model prog w) A c' R s') := fun s' k => by
      unfold After at k
      by_cases a0 : after < 0
      · rw [if_pos a0] at k ⊢; exact k
      · rw [if_neg a0] at k ⊢; exact ⟨plainId_quiet sift_plain _, k⟩
    by_cases tp : top < pos
    · have h0 : 0 < pos := by omega
      have pl := HeapP.par_lt h0
      have hp2 : (pos - 1) / 2 < xs.size := by show HeapP.par pos < _; omega
      refine up_step (lt := lt) h (by omega) hp tp hp2 (fun x y hx hy => hlt _ s sb x y (pm.mem_iff.mp (by simpa using hx)) (pm.mem_iff.mp (by simpa using hy))) (fun less => ?_) (fun no => ?_)
      · refine ⟨plainId_quiet sift_plain _, ?_⟩
        have ne : HeapP.par pos ≠ pos := by omega
        have g := Heap.get?_update_self (Obj.mapSeq fun ys => (ys.setIfInBounds ((pos - 1) / 2) xs[pos]).setIfInBounds pos xs[(pos - 1) / 2]) h rfl
        refine ih (HeapP.par pos) pl (swapped xs (HeapP.par pos) pos xs[pos] xs[(pos - 1) / 2]) _ ⟨_, g⟩ ((swapped_perm hp2 hp).trans pm) sb.upd (by rw [swapped_size]; exact hp2) (sub.up tp) ?_
        show HeapP.Low lt top (swapped xs ((pos - 1) / 2) pos xs[pos] xs[(pos - 1) / 2]).size (HeapP.par pos) (fn (swapped xs ((pos - 1) / 2) pos xs[pos] xs[(pos - 1) / 2]))
        rw [swapped_size, swapped_fn hp2 hp ne]
        refine HeapP.low_up O low h0 hp (sub.up tp).le ?_
        rw [fn_at hp]
        show lt xs[pos] (fn xs ((pos - 1) / 2)) = true
        rw [fn_at hp2]
        exact less
      · refine fin s (K xs s ⟨n, h⟩ pm (HeapP.heap_of_low low fun _ _ => ?_) sb)
        rw [fn_at hp]
        show lt xs[pos] (fn xs ((pos - 1) / 2)) = false
        rw [fn_at hp2]
        exact no
    · refine stop_step h tp (fin s (K xs s ⟨n, h⟩ pm (HeapP.heap_of_low low fun q0 q => ?_) sb))
      have := HeapP.par_lt q0
      omega
theorem go_down (O : HeapP.Ord lt) (irr : ∀ x, lt x x = false) (hz : xs0.size ≤ 100000)
    (hlt : ∀ (args : Args) (s' : Shared), Sb a s0 s' → ∀ x y, x ∈ xs0.toList → y ∈ xs0.toList → SeqAt.RcLt (A.under (.builtin "_heapq.heapify.sift" args)) s' x y (lt x y))
    (K : ∀ ys s', LS s'.heap a ys → ys.toList.Perm xs0.toList → HeapP.Heap lt top ys.size (fn ys) → Sb a s0 s' → After prog w A R a res after s') :
    ∀ (m pos : Nat) (xs : Array Value) (s : Shared), xs.size - pos = m → LS s.heap a xs → xs.toList.Perm xs0.toList → Sb a s0 s → pos < xs.size → Sub top pos → HeapP.Hole lt top xs.size pos (fn xs) →
      codeAny (model prog w) A (.builtin "_heapq.heapify.sift" ⟨[.ref a, .bool false, .bool true, rawInt pos, rawInt top, res, rawInt after], []⟩) R s := by
  intro m
  induction m using Nat.strongRecOn with
  | _ m ih =>
    intro pos xs s hm ⟨n, h⟩ pm sb hp sub hole
    have sz : xs.size = xs0.size := by have := pm.length_eq; simpa using this
    refine codeAny_builtin entry_sift ?_
    by_cases hl : pos < xs.size / 2
    · refine down_step (lt := lt) h (by omega) hl (fun x y hx hy => hlt _ s sb x y (pm.mem_iff.mp (by simpa using hx)) (pm.mem_iff.mp (by simpa using hy))) fun c hc _ c0 pc least => ?_
      refine ⟨plainId_quiet sift_plain _, ?_⟩
      have cp := HeapP.par_lt c0
      have ne : c ≠ pos := by omega
      have g := Heap.get?_update_self (Obj.mapSeq fun ys => (ys.setIfInBounds c xs[pos]).setIfInBounds pos xs[c]) h rfl
      refine ih (xs.size - c) (by omega) c (swapped xs c pos xs[pos] xs[c]) _ (by rw [swapped_size]) ⟨_, g⟩ ((swapped_perm hc hp).trans pm) sb.upd (by rw [swapped_size]; exact hc) (.step c0 (by rw [pc]; exact sub)) ?_
      rw [swapped_size, swapped_fn hc hp ne]
      refine HeapP.hole_down O hole sub.le c0 hc pc fun d d0 hd pd => ?_
      rw [fn_at hd, fn_at hc]
      by_cases e : d = c
      · subst e; exact irr _
      · rcases least d hd d0 pd e with q | q
        · exact q
        · exact O.asym _ _ q
    · refine leaf_step h hl ⟨plainId_quiet sift_plain _, ?_⟩
      exact go_up O hz hlt K pos xs s ⟨n, h⟩ pm sb hp sub (HeapP.low_of_hole hole (HeapP.leaf_half hl))
end
end HeapM

set_option Elab.async false
set_option linter.all false
set_option maxRecDepth 100000
set_option maxHeartbeats 4000000
namespace HeapM
open PySem L2 PySem.Spec PyProof.Rows
open AutoSeq1 (wpAny_loadPart')
theorem sub0 : ∀ p, Sub 0 p := fun p => by
  induction p using Nat.strongRecOn with
  | _ p ih =>
    by_cases z : p = 0
    · subst z; exact .refl
    · exact .step (by omega) (ih _ (HeapP.par_lt (by omega)))
theorem ends_perm {α : Type} (L : List α) (h : 2 ≤ L.length) : (L[0] :: L.dropLast.set 0 (L[L.length - 1])).Perm L := by
  match L, h with
  | x :: y :: t, _ =>
    have e : (x :: y :: t).dropLast = x :: (y :: t).dropLast := rfl
    rw [e, List.set_cons_zero]
    show (x :: (x :: y :: t)[(x :: y :: t).length - 1] :: (y :: t).dropLast).Perm (x :: y :: t)
    refine .cons x ?_
    have e2 : (x :: y :: t)[(x :: y :: t).length - 1] = (y :: t).getLast (by simp) := by
      rw [List.getLast_eq_getElem]
      simp
    rw [e2]
    have e3 := List.dropLast_concat_getLast (l := y :: t) (by simp)
    have e4 : ((y :: t).getLast (by simp) :: (y :: t).dropLast).Perm ((y :: t).dropLast ++ [(y :: t).getLast (by simp)]) := (List.perm_append_singleton _ _).symm
    rwa [e3] at e4
section
variable {prog : Program} {w : World} {A : Around} {R : Result → Shared → Prop} {a : Addr} {lt : Value → Value → Bool} {s : Shared} {xs : Array Value} {v : Value}
theorem push_any (O : HeapP.Ord lt) (hz : xs.size < 1000) (h : LS s.heap a xs) (hh : HeapP.Heap lt 0 xs.size (fn xs))
    (hlt : ∀ (args : Args) (s' : Shared), Sb a s s' → ∀ x y, x ∈ (xs.push v).toList → y ∈ (xs.push v).toList → SeqAt.RcLt (A.under (.builtin "_heapq.heapify.sift" args)) s' x y (lt x y))
    (K : ∀ ys s', LS s'.heap a ys → ys.toList.Perm (xs.push v).toList → HeapP.Heap lt 0 ys.size (fn ys) → Sb a s s' → R (.ok (.ret .none)) s') :
    codeAny (model prog w) A (.builtin "_heapq.heappush" ⟨[.ref a, v], []⟩) R s := by
  obtain ⟨n, h⟩ := h
  refine codeAny_builtin entry_push ?_
  obtain ⟨hp, g, d, tk, os⟩ := s
  unfold Builtin.«_heapq.heappush»
  dsimp only
  refine wpAny_bind ?_
  have z1 : xs.size ≤ sizeLine := by rw [sizeLine_eq]; omega
  have z2 : (xs.push v).size ≤ sizeLine + 1 := by rw [Array.size_push, sizeLine_eq]; omega
  have sub : isSubtype (.type "list") (.type "list") = pure true := by rw [isSubtype_type]; kernel_rfl
  wp_walk using (wpAny_updateSeq h rfl (hz := z1) (_hz' := z2)), wpAny_loadPart' h
  refine ⟨plainId_quiet sift_plain _, ?_⟩
  have gg := Heap.get?_update_self (Obj.mapSeq fun x => x.push v) h rfl
  have ps : (xs.push v).size = xs.size + 1 := Array.size_push ..
  have same : ∀ k, k < xs.size → fn (xs.push v) k = fn xs k := fun k hk => by
    rw [fn_at hk, fn_at (by omega), Array.getElem_push_lt hk]
  have ho : HeapP.Heap lt 0 xs.size (fn (xs.push v)) := fun i h0 hn ht => by
    have := HeapP.par_lt h0
    rw [same i hn, same _ (by omega)]
    exact hh i h0 hn ht
  have low := HeapP.low_push ho
  rw [← ps] at low
  have e0 : (xs.push v).size - 1 = xs.size := by omega
  show codeAny (model prog w) A (.builtin "_heapq.heapify.sift" ⟨[.ref a, .bool false, .bool false, rawInt ((xs.push v).size - 1 : Nat), rawInt (0 : Nat), .none, rawInt (-1)], []⟩) R _
  rw [e0]
  exact go_up (lt := lt) (top := 0) (s0 := ⟨hp, g, d, tk, os⟩) (xs0 := xs.push v) O (by omega) hlt (fun ys s' l p hq sb => by unfold After; rw [if_pos (by decide)]; exact K ys s' l p hq sb) xs.size (xs.push v) _ ⟨_, gg⟩ (.refl _) Sb.refl.upd (by omega) (sub0 _) low
theorem pop_any (O : HeapP.Ord lt) (irr : ∀ x, lt x x = false) (hz : xs.size < 1000) (pos : 0 < xs.size) (h : LS s.heap a xs) (hh : HeapP.Heap lt 0 xs.size (fn xs))
    (hlt : ∀ (args : Args) (s' : Shared), Sb a s s' → ∀ x y, x ∈ xs.toList → y ∈ xs.toList → SeqAt.RcLt (A.under (.builtin "_heapq.heapify.sift" args)) s' x y (lt x y))
    (K : ∀ ys s', LS s'.heap a ys → (fn xs 0 :: ys.toList).Perm xs.toList → HeapP.Heap lt 0 ys.size (fn ys) → Sb a s s' → R (.ok (.ret (fn xs 0))) s') :
    codeAny (model prog w) A (.builtin "_heapq.heappop" ⟨[.ref a], []⟩) R s := by
  obtain ⟨n, h⟩ := h
  refine codeAny_builtin entry_pop ?_
  have gb : xs.back? = some xs[xs.size - 1] := by rw [Array.back?_eq_getElem?]; exact Array.getElem?_eq_getElem (by omega)
  have g0 : xs[0]? = some xs[0] := Array.getElem?_eq_getElem pos
  obtain ⟨hp, g, d, tk, os⟩ := s
  unfold Builtin.«_heapq.heappop»
  have z1 : xs.size ≤ sizeLine := by rw [sizeLine_eq]; omega
  have z2 : xs.pop.size ≤ sizeLine + 1 := by rw [Array.size_pop, sizeLine_eq]; omega
  have sub : isSubtype (.type "list") (.type "list") = pure true := by rw [isSubtype_type]; kernel_rfl
  refine wpAny_bind ?_
  wp_walk using (wpAny_updateSeq h rfl (hz := z1) (_hz' := z2)), wpAny_loadPart' h
  rw [gb]
  wp_walk using (wpAny_updateSeq h rfl (hz := z1) (_hz' := z2)), wpAny_loadPart' h
  have gg := Heap.get?_update_self (Obj.mapSeq fun x => x.pop) h rfl
  by_cases e1 : xs.size = 1
  · rw [if_pos (by simp [e1])]
    wp_walk
    have e2 : xs[xs.size - 1] = fn xs 0 := by rw [fn_at pos]; congr 1; omega
    rw [e2]
    refine K xs.pop _ ⟨_, gg⟩ ?_ (fun i h0 hn => by rw [Array.size_pop] at hn; omega) Sb.refl.upd
    rw [fn_at pos, Array.toList_pop]
    have ll : xs.toList.length = 1 := by simpa using e1
    obtain ⟨x, hx⟩ := List.length_eq_one_iff.mp ll
    have e3 : xs[0] = x := by rw [← Array.getElem_toList (by simpa using pos)]; simp [hx]
    rw [hx, e3]
    exact .refl _
  · rw [if_neg (by simpa using e1)]
    wp_walk using wpAny_loadPart' gg
    rw [g0]
    have z3 : xs.pop.size ≤ sizeLine := by rw [Array.size_pop, sizeLine_eq]; omega
    have z4 : (xs.pop.setIfInBounds 0 xs[xs.size - 1]).size ≤ sizeLine + 1 := by rw [Array.size_setIfInBounds, Array.size_pop, sizeLine_eq]; omega
    wp_walk using (wpAny_updateSeq gg rfl (hz := z3) (_hz' := z4)), wpAny_loadPart' gg
    refine ⟨plainId_quiet sift_plain _, ?_⟩
    have g3 := Heap.get?_update_self (Obj.mapSeq fun x => x.setIfInBounds 0 xs[xs.size - 1]) gg rfl
    have ps : (xs.pop.setIfInBounds 0 xs[xs.size - 1]).size = xs.size - 1 := by rw [Array.size_setIfInBounds, Array.size_pop]
    have list : (xs.pop.setIfInBounds 0 xs[xs.size - 1]).toList = xs.toList.dropLast.set 0 xs[xs.size - 1] := by rw [Array.toList_setIfInBounds, Array.toList_pop]
    have perm : (xs[0] :: (xs.pop.setIfInBounds 0 xs[xs.size - 1]).toList).Perm xs.toList := by
      rw [list]
      have ls : xs.toList.length = xs.size := Array.length_toList
      have key := ends_perm xs.toList (by omega)
      have k0 : xs.toList[0]'(by omega) = xs[0] := Array.getElem_toList ..
      have k9 : xs.toList[xs.toList.length - 1]'(by omega) = xs[xs.size - 1] := by simp
      rw [k0, k9] at key
      exact key
    have mem : ∀ x, x ∈ (xs.pop.setIfInBounds 0 xs[xs.size - 1]).toList → x ∈ xs.toList := fun x hx => perm.mem_iff.mp (List.mem_cons_of_mem _ hx)
    have same : ∀ k, k ≠ 0 → k < xs.size - 1 → fn (xs.pop.setIfInBounds 0 xs[xs.size - 1]) k = fn xs k := fun k k0 hk => by
      rw [fn_at (by omega), fn_at (by omega), Array.getElem_setIfInBounds_ne (by rw [Array.size_pop]; exact hk) (fun z => k0 z.symm), Array.getElem_pop]
    have hole : HeapP.Hole lt 0 (xs.size - 1) 0 (fn (xs.pop.setIfInBounds 0 xs[xs.size - 1])) := HeapP.hole_of_heap (f := fn xs) (fun i h0 hn ht => hh i h0 (by omega) (Nat.zero_le _)) same
    have hole2 : ∀ m, m = xs.size - 1 → HeapP.Hole lt 0 m 0 (fn (xs.pop.setIfInBounds 0 xs[xs.size - 1])) := fun m e => by rw [e]; exact hole
    refine go_down (lt := lt) (top := 0) (s0 := ⟨hp, g, d, tk, os⟩) (xs0 := xs.pop.setIfInBounds 0 xs[xs.size - 1]) O irr (by omega) (fun args s' sb x y hx hy => hlt args s' sb x y (mem x hx) (mem y hy)) (fun ys s' l p hq sb => ?_) _ 0 (xs.pop.setIfInBounds 0 xs[xs.size - 1]) _ rfl ⟨_, g3⟩ (.refl _) (Sb.refl.upd.upd) (by omega) .refl (hole2 _ ps)
    unfold After
    rw [if_pos (by decide)]
    have k := K ys s' l ?_ hq sb
    · rw [fn_at pos] at k; exact k
    · rw [fn_at pos]
      exact (p.cons _).trans perm
theorem down_all (O : HeapP.Ord lt) (irr : ∀ x, lt x x = false) (hz : xs.size < 1000)
    (hlt : ∀ (args : Args) (s' : Shared), Sb a s s' → ∀ x y, x ∈ xs.toList → y ∈ xs.toList → SeqAt.RcLt (A.under (.builtin "_heapq.heapify.sift" args)) s' x y (lt x y))
    (K : ∀ ys s', LS s'.heap a ys → ys.toList.Perm xs.toList → HeapP.Heap lt 0 ys.size (fn ys) → Sb a s s' → R (.ok (.ret .none)) s') :
    ∀ (k : Nat) (ys : Array Value) (s1 : Shared), LS s1.heap a ys → ys.toList.Perm xs.toList → Sb a s s1 → k < ys.size → HeapP.Heap lt (k + 1) ys.size (fn ys) →
      codeAny (model prog w) A (.builtin "_heapq.heapify.sift" ⟨[.ref a, .bool false, .bool true, rawInt k, rawInt k, .none, rawInt ((k : Int) - 1)], []⟩) R s1
  | 0, ys, s1, h, pm, sb, hk, hp => by
    have sz : ys.size = xs.size := by have := pm.length_eq; simpa using this
    exact go_down (lt := lt) (top := 0) (s0 := s) (xs0 := xs) O irr (by omega) hlt (fun zs s' l p hq sb => by unfold After; rw [if_pos (by decide)]; exact K zs s' l p hq sb) _ 0 ys s1 rfl h pm sb hk .refl (HeapP.hole_of_heap (f := fn ys) hp fun _ _ _ => rfl)
  | k + 1, ys, s1, h, pm, sb, hk, hp => by
    have sz : ys.size = xs.size := by have := pm.length_eq; simpa using this
    refine go_down (lt := lt) (top := k + 1) (s0 := s) (xs0 := xs) O irr (by omega) hlt (fun zs s' l p hq sb => ?_) _ (k + 1) ys s1 rfl h pm sb hk .refl (HeapP.hole_of_heap (f := fn ys) hp fun _ _ _ => rfl)
    unfold After
    have e1 : ((k + 1 : Nat) : Int) - 1 = (k : Int) := by omega
    rw [e1, if_neg (by omega)]
    have sz2 : zs.size = xs.size := by have := p.length_eq; simpa using this
    exact down_all O irr hz hlt K k zs s' l p sb (by omega) hq
theorem heapify_any (O : HeapP.Ord lt) (irr : ∀ x, lt x x = false) (hz : xs.size < 1000) (h : LS s.heap a xs)
    (hlt : ∀ (args : Args) (s' : Shared), Sb a s s' → ∀ x y, x ∈ xs.toList → y ∈ xs.toList → SeqAt.RcLt (A.under (.builtin "_heapq.heapify.sift" args)) s' x y (lt x y))
    (K : ∀ ys s', LS s'.heap a ys → ys.toList.Perm xs.toList → HeapP.Heap lt 0 ys.size (fn ys) → Sb a s s' → R (.ok (.ret .none)) s') :
    codeAny (model prog w) A (.builtin "_heapq.heapify" ⟨[.ref a], []⟩) R s := by
  obtain ⟨n, h⟩ := h
  refine codeAny_builtin entry_heapify ?_
  obtain ⟨hp, g, d, tk, os⟩ := s
  unfold Builtin.«_heapq.heapify»
  have sub : isSubtype (.type "list") (.type "list") = pure true := by rw [isSubtype_type]; kernel_rfl
  refine wpAny_bind ?_
  wp_walk using wpAny_loadPart' h
  rw [if_neg (by omega)]
  have sb0 : Sb a ⟨hp, g, d, tk, os⟩ ⟨hp, g, d, tk, os⟩ := .refl
  by_cases e1 : xs.size < 2
  · show wpAny _ _ (if xs.size < 2 then ret Value.none else _) _ _ _
    rw [if_pos e1]
    wp_walk
    exact K xs _ ⟨n, h⟩ (.refl _) (fun i h0 hn ht => by
      have : HeapP.par i = 0 := by unfold HeapP.par; omega
      omega) sb0
  · show wpAny _ _ (if xs.size < 2 then ret Value.none else _) _ _ _
    rw [if_neg e1]
    wp_walk
    refine ⟨plainId_quiet sift_plain _, ?_⟩
    obtain ⟨k, hk⟩ : ∃ k, xs.size / 2 = k + 1 := ⟨xs.size / 2 - 1, by omega⟩
    have hf := HeapP.heap_half (lt := lt) (n := xs.size) (fn xs)
    have e2 : xs.size / 2 - 1 = k := by omega
    have e3 : ((xs.size / 2 : Nat) : Int) - 2 = (k : Int) - 1 := by omega
    rw [hk] at hf
    have := down_all (R := R) (A := A) (prog := prog) (w := w) (s := ⟨hp, g, d, tk, os⟩) O irr hz hlt K k xs ⟨hp, g, d, tk, os⟩ ⟨n, h⟩ (.refl _) sb0 (by omega) hf
    rw [e2, e3]
    exact this
end
end HeapM

set_option Elab.async false
set_option linter.all false
set_option maxRecDepth 100000
set_option maxHeartbeats 4000000
namespace HeapM
open PySem L2 PySem.Spec PyProof.Rows
/-- what rows (minute, place, link) are compared by -/
abbrev Key := Int × List Nat × List Nat
def lLt (a b : List Nat) : Bool := decide (a < b)
theorem lLt_irr (a : List Nat) : lLt a a = false := decide_eq_false (List.lt_irrefl a)
theorem lLt_asym {a b : List Nat} (h : lLt a b = true) : lLt b a = false := decide_eq_false (List.lt_asymm (of_decide_eq_true h))
theorem lLt_tr {a b c : List Nat} (h1 : lLt a b = true) (h2 : lLt b c = true) : lLt a c = true := decide_eq_true (List.lt_trans (of_decide_eq_true h1) (of_decide_eq_true h2))
theorem lLt_tri {a b : List Nat} (h1 : lLt a b = false) (ne : a ≠ b) : lLt b a = true := by
  refine decide_eq_true ?_
  have n1 : ¬ a < b := of_decide_eq_false h1
  have n2 : b ≤ a := n1
  by_cases h : b < a
  · exact h
  · exact absurd (List.le_antisymm h n2) ne
def keyLt (x y : Key) : Bool := if x.1 = y.1 then (if x.2.1 = y.2.1 then (if x.2.2 = y.2.2 then false else lLt x.2.2 y.2.2) else lLt x.2.1 y.2.1) else decide (x.1 < y.1)
theorem keyLt_irr (x : Key) : keyLt x x = false := by unfold keyLt; rw [if_pos rfl, if_pos rfl, if_pos rfl]
theorem keyLt_asym {x y : Key} (h : keyLt x y = true) : keyLt y x = false := by
  obtain ⟨m, s, t⟩ := x
  obtain ⟨m', s', t'⟩ := y
  unfold keyLt at *
  simp only at *
  by_cases e1 : m = m'
  · subst e1
    rw [if_pos rfl] at *
    by_cases e2 : s = s'
    · subst e2
      rw [if_pos rfl] at *
      by_cases e3 : t = t'
      · rw [if_pos e3] at h; cases h
      · rw [if_neg e3] at h
        rw [if_neg fun z => e3 z.symm]
        exact lLt_asym h
    · rw [if_neg e2] at h
      rw [if_neg fun z => e2 z.symm]
      exact lLt_asym h
  · rw [if_neg e1] at h
    rw [if_neg fun z => e1 z.symm]
    have := of_decide_eq_true h
    exact decide_eq_false (by omega)
theorem keyLt_tr {x y z : Key} (h1 : keyLt x y = true) (h2 : keyLt y z = true) : keyLt x z = true := by
  obtain ⟨m, s, t⟩ := x
  obtain ⟨m', s', t'⟩ := y
  obtain ⟨m2, s2, t2⟩ := z
  unfold keyLt at *
  simp only at *
  by_cases e1 : m = m'
  · subst e1
    rw [if_pos rfl] at h1
    by_cases f1 : m = m2
    · subst f1
      rw [if_pos rfl] at h2 ⊢
      by_cases e2 : s = s'
      · subst e2
        rw [if_pos rfl] at h1
        by_cases f2 : s = s2
        · subst f2
          rw [if_pos rfl] at h2 ⊢
          by_cases e3 : t = t'
          · rw [if_pos e3] at h1; cases h1
          · rw [if_neg e3] at h1
            by_cases f3 : t' = t2
            · rw [if_pos f3] at h2; cases h2
            · rw [if_neg f3] at h2
              have g := lLt_tr h1 h2
              by_cases g3 : t = t2
              · rw [g3, lLt_irr] at g; cases g
              · rw [if_neg g3]; exact g
        · rw [if_neg f2] at h2 ⊢; exact h2
      · rw [if_neg e2] at h1
        by_cases f2 : s' = s2
        · subst f2
          rw [if_neg e2]; exact h1
        · rw [if_neg f2] at h2
          have g := lLt_tr h1 h2
          by_cases g2 : s = s2
          · rw [g2, lLt_irr] at g; cases g
          · rw [if_neg g2]; exact g
    · rw [if_neg f1] at h2 ⊢; exact h2
  · rw [if_neg e1] at h1
    have a := of_decide_eq_true h1
    by_cases f1 : m' = m2
    · subst f1
      rw [if_neg e1]; exact h1
    · rw [if_neg f1] at h2
      have b := of_decide_eq_true h2
      rw [if_neg (by omega)]
      exact decide_eq_true (by omega)
theorem keyLt_tri {x y : Key} (h : keyLt x y = false) (ne : x ≠ y) : keyLt y x = true := by
  obtain ⟨m, s, t⟩ := x
  obtain ⟨m', s', t'⟩ := y
  unfold keyLt at *
  simp only at *
  by_cases e1 : m = m'
  · subst e1
    rw [if_pos rfl] at *
    by_cases e2 : s = s'
    · subst e2
      rw [if_pos rfl] at *
      by_cases e3 : t = t'
      · subst e3; exact absurd rfl ne
      · rw [if_neg e3] at h
        rw [if_neg fun z => e3 z.symm]
        exact lLt_tri h e3
    · rw [if_neg e2] at h
      rw [if_neg fun z => e2 z.symm]
      exact lLt_tri h e2
  · rw [if_neg e1] at h
    rw [if_neg fun z => e1 z.symm]
    have := of_decide_eq_false h
    exact decide_eq_true (by omega)
/-- the order of items by their keys -/
theorem ord_key (key : Value → Key) : HeapP.Ord fun x y => keyLt (key x) (key y) where
  asym := fun _ _ h => keyLt_asym h
  tr := fun x y z h1 h2 => by
    show keyLt (key z) (key x) = false
    cases h : keyLt (key z) (key x) with
    | false => rfl
    | true =>
      by_cases e : key y = key x
      · rw [e, h] at h2; cases h2
      · have h1 : keyLt (key y) (key x) = false := h1
        have := keyLt_tr (keyLt_tri h1 e |> fun g => h) (keyLt_tri h1 e)
        rw [h2] at this; cases this
theorem irr_key (key : Value → Key) (x : Value) : (fun x y => keyLt (key x) (key y)) x x = false := keyLt_irr _
/-- a row (minute, text, text) in the model's heap -/
def RowAt (h : Heap) (v : Value) (k : Key) : Prop := ∃ (t : Addr) (m : Int) (x y : Str) (t1 t2 t3 : Tok), v = .ref t ∧ h.IsTuple t #[.int m t1, .str x t2, .str y t3] ∧ k = (m, x.cps.toList, y.cps.toList)
theorem str_eq (x y : Str) : (x == y) = decide (x.cps.toList = y.cps.toList) := by
  by_cases e : x = y
  · rw [e]; simp
  · have : x.cps.toList ≠ y.cps.toList := fun z => e (Str.ext' (Array.toList_inj.mp z))
    rw [decide_eq_false this]
    simpa using e
theorem rc_rows {A : Around} {s : Shared} {v u : Value} {k j : Key} (hu : A.units < cLine) (hv : RowAt s.heap v k) (hw : RowAt s.heap u j) : SeqAt.RcLt A s v u (keyLt k j) := by
  obtain ⟨t, m, x, y, t1, t2, t3, rfl, h1, rfl⟩ := hv
  obtain ⟨t', m', x', y', t1', t2', t3', rfl, h2, rfl⟩ := hw
  have key := SeqAt.RcLt.tuples (A := A) (s := s) (e := fun i => if i = 0 then m == m' else if i = 1 then x == x' else y == y') (r := fun i => if i = 0 then decide (m < m') else if i = 1 then decide (x.cps.toList < x'.cps.toList) else decide (y.cps.toList < y'.cps.toList)) h1 h2 hu
    (fun i i1 i2 => by
      match i, i1 with
      | 0, _ => exact SeqAt.EqAt.int_int m t1 m' t1'
      | 1, _ => exact SeqAt.EqAt.str_str x t2 x' t2'
      | 2, _ => exact SeqAt.EqAt.str_str y t3 y' t3')
    (fun i i1 i2 _ => by
      match i, i1 with
      | 0, _ => exact fun prog w E Q q => PyProof.Rows.lt_int q
      | 1, _ => exact fun prog w E Q q => PyProof.Rows.lt_str q
      | 2, _ => exact fun prog w E Q q => PyProof.Rows.lt_str q)
  have e : SeqAt.firstLt (fun i => if i = 0 then m == m' else if i = 1 then x == x' else y == y') (fun i => if i = 0 then decide (m < m') else if i = 1 then decide (x.cps.toList < x'.cps.toList) else decide (y.cps.toList < y'.cps.toList)) (decide (3 < 3)) (List.range (min 3 3)) = keyLt (m, x.cps.toList, y.cps.toList) (m', x'.cps.toList, y'.cps.toList) := by
    show SeqAt.firstLt _ _ _ [0, 1, 2] = _
    unfold keyLt
    simp only [SeqAt.firstLt, str_eq]
    by_cases e1 : m = m' <;> by_cases e2 : x.cps.toList = x'.cps.toList <;> by_cases e3 : y.cps.toList = y'.cps.toList <;> simp [e1, e2, e3, lLt]
  rw [← e]
  exact key
end HeapM

set_option Elab.async false
set_option linter.all false
set_option maxRecDepth 100000
set_option maxHeartbeats 4000000
namespace HeapM
open PySem L2 PySem.Spec PyProof.Rows
def ad : Value → Addr | .ref a => a | _ => 0
/-- a row (minute, text, text) with its key -/
def RowV (K : PySem.W.Frag) (H : Hp) (t : Addr) (k : Key) : Prop := ∃ (m : Int) (x y : Str), SqT K H t [.int m, .str x, .str y] ∧ k = (m, x.cps.toList, y.cps.toList)
/-- the rows at these addresses stand as a heap -/
def HeapA (key : Addr → Key) (ts : List Addr) : Prop := HeapP.Heap keyLt 0 ts.length (fun i => key (ts.getD i 0))
theorem heapA_least {key : Addr → Key} {t : Addr} {ts : List Addr} (h : HeapA key (t :: ts)) : ∀ b ∈ t :: ts, keyLt (key b) (key t) = false := fun b hb => by
  obtain ⟨i, hi, e⟩ := List.getElem_of_mem hb
  have z := HeapP.first_least (lt := keyLt) ⟨fun _ _ h => keyLt_asym h, fun x y z h1 h2 => (ord_key fun v => if ad v = 0 then x else if ad v = 1 then y else z).tr (.ref 0) (.ref 1) (.ref 2) h1 h2⟩ keyLt_irr h i hi
  have e2 : (t :: ts).getD i 0 = b := by rw [List.getD_eq_getElem?_getD, List.getElem?_eq_getElem hi, e]; rfl
  rw [← e2]
  exact z
theorem refs_vals : ∀ {ts : List Addr} {us : List Value}, Vals (ts.map V.ref) us → us = ts.map Value.ref
  | [], _, .nil => rfl
  | t :: ts, _, .cons r rr => by cases r; rw [refs_vals rr]; rfl
theorem vals_refs : ∀ ts : List Addr, Vals (ts.map V.ref) (ts.map Value.ref)
  | [] => .nil
  | _ :: ts => .cons rfl (vals_refs ts)
theorem perm_refs {vs : List Value} {ts : List Addr} (h : vs.Perm (ts.map Value.ref)) : ∃ ts' : List Addr, vs = ts'.map Value.ref ∧ ts'.Perm ts := by
  refine ⟨vs.map ad, ?_, ?_⟩
  · have all : ∀ v ∈ vs, Value.ref (ad v) = v := fun v hv => by
      obtain ⟨t, _, rfl⟩ := List.mem_map.mp (h.mem_iff.mp hv)
      rfl
    clear h
    induction vs with
    | nil => rfl
    | cons v vs ih =>
      rw [List.map_cons, List.map_cons, ← ih (fun u hu => all u (List.mem_cons_of_mem _ hu)), all v List.mem_cons_self]
  · have := h.map ad
    rwa [List.map_map, show (ad ∘ Value.ref) = id from rfl, List.map_id] at this
def rPush (K : PySem.W.Frag) : List V → Hp → VK → Prop := fun xs H Q => ∃ (p t : Addr) (ts : List Addr) (key : Addr → Key), xs = [.ref p, .ref t] ∧ H p = some (.lst (ts.map V.ref)) ∧ ts.length < 900 ∧ (∀ b ∈ t :: ts, RowV K H b (key b)) ∧ HeapA key ts ∧
  ∀ ts', ts'.Perm (t :: ts) → HeapA key ts' → Q .non (upd H p (.lst (ts'.map V.ref)))
def rPop (K : PySem.W.Frag) : List V → Hp → VK → Prop := fun xs H Q => ∃ (p t : Addr) (ts : List Addr) (key : Addr → Key), xs = [.ref p] ∧ H p = some (.lst ((t :: ts).map V.ref)) ∧ ts.length < 900 ∧ (∀ b ∈ t :: ts, RowV K H b (key b)) ∧ HeapA key (t :: ts) ∧
  ∀ ts', ts'.Perm ts → HeapA key ts' → Q (.ref t) (upd H p (.lst (ts'.map V.ref)))
def rHeapify (K : PySem.W.Frag) : List V → Hp → VK → Prop := fun xs H Q => ∃ (p : Addr) (ts : List Addr) (key : Addr → Key), xs = [.ref p] ∧ H p = some (.lst (ts.map V.ref)) ∧ ts.length < 900 ∧ (∀ b ∈ ts, RowV K H b (key b)) ∧
  ∀ ts', ts'.Perm ts → HeapA key ts' → Q .non (upd H p (.lst (ts'.map V.ref)))
/-- the order of values -/
def ltV (key : Addr → Key) (x y : Value) : Bool := keyLt (key (ad x)) (key (ad y))
theorem row_model {X : Cx} {pins : List (Addr × Obj)} {σ : L2.St} {H : Hp} {s s' : Shared} {p t : Addr} {k : Key} (I : Inv X pins σ H s) (h : RowV X.K H t k) (ne : t ≠ p) (sb : Sb p s s') : RowAt s'.heap (.ref t) k := by
  obtain ⟨m, x, y, st, rfl⟩ := h
  obtain ⟨its, vs, tp, _⟩ := I.tuple st
  cases vs with
  | cons r1 vs => cases vs with
    | cons r2 vs => cases vs with
      | cons r3 vs =>
        cases vs
        obtain ⟨t1, rfl⟩ := r1
        obtain ⟨t2, rfl⟩ := r2
        obtain ⟨t3, rfl⟩ := r3
        obtain ⟨o, ho, hc, n, hd⟩ := tp
        exact ⟨t, m, x, y, t1, t2, t3, rfl, ⟨o, sb.heap.extBut _ _ ne ho, hc, n, hd⟩, rfl⟩
theorem heap_fn {key : Addr → Key} {ts : List Addr} : HeapP.Heap (ltV key) 0 (ts.map Value.ref).toArray.size (fn (ts.map Value.ref).toArray) ↔ HeapA key ts := by
  have sz : (ts.map Value.ref).toArray.size = ts.length := by simp
  have at_ : ∀ i, i < ts.length → ad (fn (ts.map Value.ref).toArray i) = ts.getD i 0 := fun i hi => by
    unfold fn
    rw [List.getD_eq_getElem?_getD, List.getD_eq_getElem?_getD]
    simp [hi, ad]
  unfold HeapA HeapP.Heap
  rw [sz]
  refine ⟨fun h i h0 hn ht => ?_, fun h i h0 hn ht => ?_⟩
  · have := HeapP.par_lt h0
    have z := h i h0 hn ht
    unfold ltV at z
    rw [at_ i hn, at_ _ (by omega)] at z
    exact z
  · have := HeapP.par_lt h0
    unfold ltV
    rw [at_ i hn, at_ _ (by omega)]
    exact h i h0 hn ht
theorem args_push (a b : Value) : checkBuiltinCall "_heapq.heappush" ⟨[a, b], []⟩ = pure () := by kernel_rfl
theorem args_pop (a : Value) : checkBuiltinCall "_heapq.heappop" ⟨[a], []⟩ = pure () := by kernel_rfl
theorem args_heapify (a : Value) : checkBuiltinCall "_heapq.heapify" ⟨[a], []⟩ = pure () := by kernel_rfl
section
variable {X : Cx}
theorem row_ne {pins : List (Addr × Obj)} {σ : L2.St} {H : Hp} {s : Shared} {p t : Addr} {k : Key} {d : Data} (I : Inv X pins σ H s) (h : RowV X.K H t k) (g : s.heap.get? p = some { cls := .type "list", data := d }) : t ≠ p := fun e => by
  obtain ⟨m, x, y, st, rfl⟩ := h
  obtain ⟨its, vs, ⟨o, ho, hc, _⟩, _⟩ := I.tuple st
  rw [e, g] at ho
  rw [← Option.some.inj ho] at hc
  exact absurd hc (by simp)
theorem rc_of {pins : List (Addr × Obj)} {σ : L2.St} {H : Hp} {s : Shared} {p : Addr} {ts : List Addr} {key : Addr → Key} {d : Data} (hu : X.A.units + 65 < cLine) (I : Inv X pins σ H s) (rows : ∀ b ∈ ts, RowV X.K H b (key b)) (g : s.heap.get? p = some { cls := .type "list", data := d }) (args : Args) (s' : Shared) (sb : Sb p s s') (x y : Value) (hx : x ∈ ts.map Value.ref) (hy : y ∈ ts.map Value.ref) :
    SeqAt.RcLt (X.A.under (.builtin "_heapq.heapify.sift" args)) s' x y (ltV key x y) := by
  obtain ⟨b, hb, rfl⟩ := List.mem_map.mp hx
  obtain ⟨c, hc, rfl⟩ := List.mem_map.mp hy
  rw [Around.under_plainId sift_plain]
  exact rc_rows (by show X.A.units + 1 < cLine; omega) (row_model I (rows b hb) (row_ne I (rows b hb) g) sb) (row_model I (rows c hc) (row_ne I (rows c hc) g) sb)
theorem done_list {pins : List (Addr × Obj)} {σ : L2.St} {H : Hp} {s s' : Shared} {p : Addr} {ts ts' : List Addr} {ys : Array Value} (I : Inv X pins σ H s) (hp : H p = some (.lst (ts.map V.ref))) (l : LS s'.heap p ys) (e : ys.toList = ts'.map Value.ref) (ln : ts'.length ≤ 1000) (sb : Sb p s s') : Inv X pins σ (upd H p (.lst (ts'.map V.ref))) s' := by
  obtain ⟨h', rfl, sh⟩ := sb
  obtain ⟨n, g⟩ := l
  refine I.write (x := p) (e := p) (t' := s.toks) (by rw [hp]; trivial) (.inl rfl) (fun b u hb hu => sh.extBut _ _ hb hu) ⟨_, g⟩ ⟨by rw [List.length_map, sizeLine_eq]; omega, ts'.map Value.ref, n, vals_refs _, ?_⟩
  rw [← e]
  exact g
theorem call_push (hu : X.A.units + 65 < cLine) : CallR X (.builtin "_heapq.heappush") (rPush X.K) := by
  intro pins s σ H xs us Q I r h
  obtain ⟨p, t, ts, key, rfl, hp, ln, rows, hh, q⟩ := h
  cases r with
  | cons rp r => cases r with
    | cons rt r =>
      cases r
      cases rp
      cases rt
      obtain ⟨hz, its, n, vs, g⟩ := I.hok p _ hp
      obtain rfl := refs_vals vs
      have ep : ((ts.map Value.ref).toArray.push (.ref t)).toList = (ts ++ [t]).map Value.ref := by simp
      have pt : (ts ++ [t]).Perm (t :: ts) := List.perm_append_singleton t ts
      refine wpAny_call (codeAny_call_builtin_code (plainId_quiet (by decide +kernel) _) (wpAny_of_eq (args_push _ _) ?_))
      refine push_any (lt := ltV key) (ord_key fun v => key (ad v)) (by simp; omega) ⟨n, g⟩ (heap_fn.mpr hh) (fun args s' sb x y hx hy => ?_) (fun ys s' l pm hq sb => ?_)
      · rw [ep] at hx hy
        exact rc_of hu I (fun b hb => rows b (pt.mem_iff.mp hb)) g args s' sb x y hx hy
      · rw [ep] at pm
        obtain ⟨ts', e, pm'⟩ := perm_refs pm
        have l2 := (pm'.trans pt).length_eq
        rw [List.length_cons] at l2
        refine ⟨.non, _, done_list I hp l e (by omega) sb, rfl, q ts' (pm'.trans pt) (heap_fn.mp ?_)⟩
        rw [← e]
        exact hq
theorem call_heapify (hu : X.A.units + 65 < cLine) : CallR X (.builtin "_heapq.heapify") (rHeapify X.K) := by
  intro pins s σ H xs us Q I r h
  obtain ⟨p, ts, key, rfl, hp, ln, rows, q⟩ := h
  cases r with
  | cons rp r =>
    cases r
    cases rp
    obtain ⟨hz, its, n, vs, g⟩ := I.hok p _ hp
    obtain rfl := refs_vals vs
    refine wpAny_call (codeAny_call_builtin_code (plainId_quiet (by decide +kernel) _) (wpAny_of_eq (args_heapify _) ?_))
    refine heapify_any (lt := ltV key) (ord_key fun v => key (ad v)) (fun x => keyLt_irr _) (by simp; omega) ⟨n, g⟩ (fun args s' sb x y hx hy => rc_of hu I rows g args s' sb x y hx hy) (fun ys s' l pm hq sb => ?_)
    obtain ⟨ts', e, pm'⟩ := perm_refs pm
    have l2 := pm'.length_eq
    refine ⟨.non, _, done_list I hp l e (by omega) sb, rfl, q ts' pm' (heap_fn.mp ?_)⟩
    rw [← e]
    exact hq
theorem call_pop (hu : X.A.units + 65 < cLine) : CallR X (.builtin "_heapq.heappop") (rPop X.K) := by
  intro pins s σ H xs us Q I r h
  obtain ⟨p, t, ts, key, rfl, hp, ln, rows, hh, q⟩ := h
  cases r with
  | cons rp r =>
    cases r
    cases rp
    obtain ⟨hz, its, n, vs, g⟩ := I.hok p _ hp
    obtain rfl := refs_vals vs
    refine wpAny_call (codeAny_call_builtin_code (plainId_quiet (by decide +kernel) _) (wpAny_of_eq (args_pop _) ?_))
    have f0 : fn ((t :: ts).map Value.ref).toArray 0 = .ref t := rfl
    refine pop_any (lt := ltV key) (ord_key fun v => key (ad v)) (fun x => keyLt_irr _) (by simp; omega) (by simp) ⟨n, g⟩ (heap_fn.mpr hh) (fun args s' sb x y hx hy => rc_of hu I rows g args s' sb x y hx hy) (fun ys s' l pm hq sb => ?_)
    rw [f0] at pm ⊢
    have pm2 : ys.toList.Perm (ts.map Value.ref) := List.Perm.cons_inv (a := .ref t) pm
    obtain ⟨ts', e, pm'⟩ := perm_refs pm2
    have l2 := pm'.length_eq
    refine ⟨.ref t, _, done_list I hp l e (by omega) sb, rfl, q ts' pm' (heap_fn.mp ?_)⟩
    rw [← e]
    exact hq
end
end HeapM

set_option Elab.async false
set_option linter.all false
set_option maxRecDepth 100000
set_option maxHeartbeats 4000000
namespace TX
open PySem PySem.Spec PyProof.Rows L2 EvS Evl
mutual
theorem dp_ex {K : PySem.W.Frag} {H H' : Hp} (e : Ex H H') : ∀ {v : V} {d : PyData}, Dp K H v d → Dp K H' v d
  | _, _, .non => .non
  | _, _, .bl b => .bl b
  | _, _, .int i => .int i
  | _, _, .str x => .str x
  | _, _, .lst h r => .lst (ex_l e h) (dps_ex e r)
  | _, _, .tup h r => .tup (ex_t e h) (dps_ex e r)
theorem dps_ex {K : PySem.W.Frag} {H H' : Hp} (e : Ex H H') : ∀ {vs : List V} {ds : List PyData}, DpAll K H vs ds → DpAll K H' vs ds
  | _, _, .nil => .nil
  | _, _, .cons h r => .cons (dp_ex e h) (dps_ex e r)
end
theorem dps_len {K : PySem.W.Frag} {H : Hp} : ∀ {vs : List V} {ds : List PyData}, DpAll K H vs ds → vs.length = ds.length
  | _, _, .nil => rfl
  | _, _, .cons _ r => congrArg Nat.succ (dps_len r)
theorem dps_at {K : PySem.W.Frag} {H : Hp} : ∀ {vs : List V} {ds : List PyData} {i : Nat} {v : V}, DpAll K H vs ds → vs[i]? = some v → ∃ d, ds[i]? = some d ∧ Dp K H v d
  | _, _, _, _, .nil, h => by simp at h
  | _, _, 0, _, .cons h _, e => by
    simp only [List.getElem?_cons_zero, Option.some.injEq] at e
    subst e
    exact ⟨_, rfl, h⟩
  | _, _, i + 1, _, .cons _ r, e => by
    simp only [List.getElem?_cons_succ] at e
    exact dps_at (i := i) r e
theorem dps_app {K : PySem.W.Frag} {H : Hp} : ∀ {vs us : List V} {ds es : List PyData}, DpAll K H vs ds → DpAll K H us es → DpAll K H (vs ++ us) (ds ++ es)
  | _, _, _, _, .nil, b => b
  | _, _, _, _, .cons h r, b => .cons h (dps_app r b)
theorem dps_one {K : PySem.W.Frag} {H : Hp} {v : V} {d : PyData} (h : Dp K H v d) : DpAll K H [v] [d] := .cons h .nil
theorem dps_str {K : PySem.W.Frag} {H : Hp} : ∀ ns : List Str, DpAll K H (ns.map V.str) (ns.map PyData.str)
  | [] => .nil
  | n :: r => .cons (.str n) (dps_str r)
theorem dps_strs {K : PySem.W.Frag} {H : Hp} : ∀ {ns : List Str} {vs : List V}, DpAll K H vs (ns.map PyData.str) → vs = ns.map V.str
  | [], _, .nil => rfl
  | n :: r, _, .cons h t => by
    cases h
    rw [dps_strs t]
    rfl
def Seq2 (K : PySem.W.Frag) (H : Hp) (p : Addr) (xs : List V) : Prop := SqL K H p xs ∨ SqT K H p xs
theorem Seq2.ex {K : PySem.W.Frag} {H H' : Hp} {p : Addr} {xs : List V} (e : Ex H H') (h : Seq2 K H p xs) : Seq2 K H' p xs := h.elim (fun q => .inl (ex_l e q)) (fun q => .inr (ex_t e q))
mutual
def frozen : PyData → Bool
  | .none => true
  | .bool _ => true
  | .int _ => true
  | .str _ => true
  | .tuple ds => frozenAll ds
  | .list _ => false
  | .dict _ => false
def frozenAll : List PyData → Bool
  | [] => true
  | d :: ds => frozen d && frozenAll ds
end
theorem frozenAll_of : ∀ {ds : List PyData}, (∀ d ∈ ds, frozen d = true) → frozenAll ds = true
  | [], _ => by simp [frozenAll]
  | d :: ds, h => by
    rw [frozenAll, h d List.mem_cons_self, frozenAll_of fun x hx => h x (List.mem_cons_of_mem _ hx)]
    rfl
theorem frozen_strs (ls : List Str) : frozenAll (ls.map PyData.str) = true := frozenAll_of fun d hd => by
  obtain ⟨b, _, rfl⟩ := List.mem_map.mp hd
  simp [frozen]
def ExT (H H' : Hp) : Prop := ∀ a xs, Rd H a (.tup xs) → Rd H' a (.tup xs)
theorem exT_of {H H' : Hp} (e : Ex H H') : ExT H H' := fun _ _ h => ex_rd e h
theorem ExT.trans {H H1 H2 : Hp} (a : ExT H H1) (b : ExT H1 H2) : ExT H H2 := fun x y h => b x y (a x y h)
theorem exT_mut {H : Hp} {l : Addr} {xs ys : List V} (h : H l = some (.lst xs)) : ExT H (upd H l (.lst ys)) := fun a zs r => by
  rcases r with r | ⟨o, r⟩
  · exact .inl (by rw [upd_ne (ne_of r h (by intro z; cases z))]; exact r)
  · exact .inr ⟨o, by rw [upd_ne (ne_of r h (by intro z; cases z))]; exact r⟩
theorem exT_t {K : PySem.W.Frag} {H H' : Hp} {p : Addr} {xs : List V} (e : ExT H H') (h : SqT K H p xs) : SqT K H' p xs := h.elim (fun r => .inl (e _ _ r)) .inr
mutual
theorem dp_exT {K : PySem.W.Frag} {H H' : Hp} (e : ExT H H') : ∀ {v : V} {d : PyData}, Dp K H v d → frozen d = true → Dp K H' v d
  | _, _, .non, _ => .non
  | _, _, .bl b, _ => .bl b
  | _, _, .int i, _ => .int i
  | _, _, .str x, _ => .str x
  | _, _, .lst _ _, f => by simp [frozen] at f
  | _, _, .tup h r, f => .tup (exT_t e h) (dps_exT e r (by simpa [frozen] using f))
theorem dps_exT {K : PySem.W.Frag} {H H' : Hp} (e : ExT H H') : ∀ {vs : List V} {ds : List PyData}, DpAll K H vs ds → frozenAll ds = true → DpAll K H' vs ds
  | _, _, .nil, _ => .nil
  | _, _, .cons h r, f => by
    simp only [frozenAll, Bool.and_eq_true] at f
    exact .cons (dp_exT e h f.1) (dps_exT e r f.2)
end
inductive All2 {α β : Type} (R : α → β → Prop) : List α → List β → Prop
  | nil : All2 R [] []
  | cons {a : α} {b : β} {as : List α} {bs : List β} : R a b → All2 R as bs → All2 R (a :: as) (b :: bs)
theorem All2.len {α β : Type} {R : α → β → Prop} : ∀ {as : List α} {bs : List β}, All2 R as bs → as.length = bs.length
  | _, _, .nil => rfl
  | _, _, .cons _ r => congrArg Nat.succ r.len
def del (H : Hp) (D : Addr) : Hp := fun a => if a = D then none else H a
theorem del_upd {H : Hp} {D : Addr} {o : HO} : del (upd H D o) D = del H D := by
  funext a
  unfold del
  by_cases h : a = D
  · rw [if_pos h, if_pos h]
  · rw [if_neg h, if_neg h, upd_ne h]
theorem del_ex {H : Hp} {D : Addr} : Ex (del H D) H := fun a o h => by
  unfold del at h
  split at h
  · cases h
  · exact h
theorem ex_del {H H' : Hp} {D : Addr} (e : Ex H H') : Ex (del H D) (del H' D) := fun a o h => by
  unfold del at h ⊢
  split at h
  · cases h
  · rename_i n
    rw [if_neg n]
    exact e _ _ h
theorem ex_to_del {H H' : Hp} {D : Addr} (e : Ex H H') (h : H D = none) : Ex H (del H' D) := fun a o q => by
  unfold del
  rw [if_neg (ne_of_none q h)]
  exact e _ _ q
theorem del_at {H : Hp} {D a : Addr} {o : HO} (n : a ≠ D) (h : H a = some o) : del H D a = some o := by
  unfold del
  rw [if_neg n]
  exact h
theorem dps_drop {K : PySem.W.Frag} {H : Hp} : ∀ {vs : List V} {ds : List PyData} (n : Nat), DpAll K H vs ds → DpAll K H (vs.drop n) (ds.drop n)
  | _, _, 0, h => h
  | _, _, _ + 1, .nil => .nil
  | _, _, n + 1, .cons _ r => dps_drop n r
theorem dps_take {K : PySem.W.Frag} {H : Hp} : ∀ {vs : List V} {ds : List PyData} (n : Nat), DpAll K H vs ds → DpAll K H (vs.take n) (ds.take n)
  | _, _, 0, _ => .nil
  | _, _, _ + 1, .nil => .nil
  | _, _, n + 1, .cons h r => .cons h (dps_take n r)
theorem cut_from (xs : List V) (n : Nat) : cutV xs (some (n : Int)) none = xs.drop n := by
  unfold cutV
  rw [HT.sIx_nat, HT.sIx_none]
  rcases Nat.le_total n xs.length with h | h
  · rw [Nat.min_eq_left h, List.take_of_length_le (by rw [List.length_drop]; exact Nat.le_refl _)]
  · rw [Nat.min_eq_right h, List.drop_length, List.drop_eq_nil_of_le h, List.take_nil]
theorem cut_to (xs : List V) (n : Nat) : cutV xs none (some (n : Int)) = xs.take n := by
  unfold cutV
  rw [HT.sIx_nat, HT.sIx_none, List.drop_zero, Nat.sub_zero]
  rcases Nat.le_total n xs.length with h | h
  · rw [Nat.min_eq_left h]
  · rw [Nat.min_eq_right h, List.take_length, List.take_of_length_le h]
theorem lay_of : ∀ {ds : List PyData}, (∀ d ∈ ds, PyData.canLay0 d = true) → PyData.canLayAll0 ds = true
  | [], _ => by simp [PyData.canLayAll0]
  | d :: ds, h => by
    rw [PyData.canLayAll0, h d List.mem_cons_self, lay_of fun x hx => h x (List.mem_cons_of_mem _ hx)]
    rfl
theorem deep_of {n : Nat} : ∀ {ds : List PyData}, (∀ d ∈ ds, PyData.depth d ≤ n) → PyData.depthAll ds ≤ n
  | [], _ => by simp [PyData.depthAll]
  | d :: ds, h => by
    have h1 := h d List.mem_cons_self
    have h2 := deep_of (n := n) (ds := ds) fun x hx => h x (List.mem_cons_of_mem _ hx)
    simp only [PyData.depthAll]
    omega
def Sh (n : Nat) (d : PyData) : Prop := PyData.canLay0 d = true ∧ PyData.depth d ≤ n
theorem sh_tup {n : Nat} {ds : List PyData} (h : ∀ d ∈ ds, Sh n d) : Sh (n + 1) (.tuple ds) := by
  have := deep_of (n := n) fun d hd => (h d hd).2
  exact ⟨by simp only [PyData.canLay0]; exact lay_of fun d hd => (h d hd).1, by simp only [PyData.depth]; omega⟩
theorem sh_lst {n : Nat} {ds : List PyData} (h : ∀ d ∈ ds, Sh n d) : Sh (n + 1) (.list ds) := by
  have := deep_of (n := n) fun d hd => (h d hd).2
  exact ⟨by simp only [PyData.canLay0]; exact lay_of fun d hd => (h d hd).1, by simp only [PyData.depth]; omega⟩
theorem sh_int (i : Int) (n : Nat) : Sh (n + 1) (.int i) := ⟨by simp only [PyData.canLay0], by simp only [PyData.depth]; omega⟩
theorem sh_up {n m : Nat} {d : PyData} (h : n ≤ m) (q : Sh n d) : Sh m d := ⟨q.1, Nat.le_trans q.2 h⟩
theorem sh_shaped {n : Nat} {d : PyData} (h : Sh n d) (hn : n ≤ 64) : SeqAt.shaped d = true := by
  show (PyData.canLay0 d && decide (PyData.depth d ≤ 64)) = true
  rw [Bool.and_eq_true]
  exact ⟨h.1, decide_eq_true (Nat.le_trans h.2 hn)⟩
theorem mem4 {α : Type} {x a b c d : α} (h : x ∈ [a, b, c, d]) : x = a ∨ x = b ∨ x = c ∨ x = d := by simpa using h
theorem eqv_self {d : PyData} (h : SeqAt.shaped d = true) : PyData.eqv d d = true := SeqAt.eqv_refl _ (SeqAt.canLay_of_shaped h)
theorem dps_set {K : PySem.W.Frag} {H : Hp} : ∀ {vs : List V} {ds : List PyData} {v : V} {d : PyData} (i : Nat), DpAll K H vs ds → Dp K H v d → DpAll K H (vs.set i v) (ds.set i d)
  | _, _, _, _, _, .nil, _ => .nil
  | _, _, _, _, 0, .cons _ r, h => .cons h r
  | _, _, _, _, i + 1, .cons a r, h => .cons a (dps_set i r h)
theorem sh_st {z : Str} {n : Nat} (h : PyData.strOk z = true) : Sh (n + 1) (.str z) := ⟨by simp only [PyData.canLay0]; exact h, by simp only [PyData.depth]; omega⟩
theorem sh_none {n : Nat} : Sh (n + 1) .none := ⟨by simp only [PyData.canLay0], by simp only [PyData.depth]; omega⟩
theorem iteNF {A B : Prop} (h : A) : if (!false) = true then A else B := by
  rw [Bool.not_false, if_pos rfl]
  exact h
theorem take_one {α : Type} {l : List α} {i : Nat} {x : α} (h : l[i]? = some x) : l.take (i + 1) = l.take i ++ [x] := by
  rw [List.take_add_one, h]
  rfl
theorem iteNT {A B : Prop} (h : B) : if (!true) = true then A else B := by
  rw [if_neg (by decide)]
  exact h
theorem exT_del {H : Hp} {A : Addr} {xs : List V} (h : H A = some (.lst xs)) : ExT H (del H A) := fun x zs r => by
  have nx : x ≠ A := fun q => by
    rcases r with r | ⟨o, r⟩
    · rw [q, h] at r; cases r
    · rw [q, h] at r; cases r
  rcases r with r | ⟨o, r⟩
  · exact .inl (del_at nx r)
  · exact .inr ⟨o, del_at nx r⟩
theorem at_in {α : Type} {xs : List α} {i : Int} (h0 : 0 ≤ i) (h : i < xs.length) : ∃ v, atI xs i = some v ∧ xs[i.toNat]? = some v ∧ v ∈ xs := by
  have hl : i.toNat < xs.length := by omega
  have e : xs[i.toNat]? = some xs[i.toNat] := List.getElem?_eq_getElem hl
  have z : atI xs ((i.toNat : Nat) : Int) = some xs[i.toNat] := atI_nat e
  rw [show ((i.toNat : Nat) : Int) = i by omega] at z
  exact ⟨xs[i.toNat], z, e, List.getElem_mem hl⟩
/-- the numbers that a law draws -/
structure Nm (K : PySem.W.Frag) (H : Hp) (p : Addr) (ks : List Int) : Prop where
  at_ : SqL K H p (ks.map V.int)
  sm : ∀ n ∈ ks, 0 ≤ n ∧ n < 1009
theorem Nm.ex {K : PySem.W.Frag} {H H' : Hp} {p : Addr} {ks : List Int} (e : Ex H H') (h : Nm K H p ks) : Nm K H' p ks := ⟨ex_l e h.at_, h.sm⟩
theorem Nm.get {K : PySem.W.Frag} {H : Hp} {p : Addr} {ks : List Int} (h : Nm K H p ks) {i : Int} (h0 : 0 ≤ i) (h1 : i < ks.length) : ∃ n, 0 ≤ n ∧ n < 1009 ∧ atI (ks.map V.int) i = some (.int n) := by
  obtain ⟨v, hv, _, hm⟩ := at_in (xs := ks.map V.int) h0 (by rw [List.length_map]; exact h1)
  obtain ⟨n, hn, rfl⟩ := List.mem_map.mp hm
  exact ⟨n, (h.sm n hn).1, (h.sm n hn).2, hv⟩
/-- an f-string as one reading -/
def tJd (ts : List TE) : TE := fun σ H Q => tJs ts Str.empty σ H fun out H1 => Q (.str out) H1
theorem pe_jd {X : Cx} {v1 v2 : Expr} {rest : List Expr} {pos : Pos} {ts : List TE} (h : PJ X (v1 :: v2 :: rest) ts) : PE X (.JoinedStr (v1 :: v2 :: rest) pos) (tJd ts) := pe_joined h
end TX

set_option Elab.async false
set_option linter.all false
set_option maxRecDepth 100000
set_option maxHeartbeats 4000000
/-! A new dict's values walked; dict comprehensions over walks; tables of minutes by place. -/
namespace FD
open PySem PySem.Spec PyProof.Rows L2 Evl
section
variable {X : Cx} {tg e : Expr} {td : TE} {apos cpos : Pos}
/-- for x in e.values(), e's value a dict that is not changed any more -/
def iValsN (td : TE) : TI := fun σ H R => td σ H fun x H1 => ∃ d kvs, x = .ref d ∧ H1 d = some (.dK kvs) ∧ ∀ od, R (Itd d od kvs) (upd H1 d (.frz od (.dK kvs)))
theorem pi_valuesN (he : PE X e td) (hbase : attributeBase e "values" X.env (eval e X.env) = eval e X.env := by rfl) (hline : (apos.endLine == cpos.line) = true := by rfl) : PI X tg (.Call (.Attribute e "values" apos) [] [] cpos) (iValsN td) := by
  refine ⟨fun pins s σ H R I h => ?_⟩
  refine wpAny_Call_method (T := "dict") (id := "dict.values") hbase rfl hline F.plainAttrs_dict F.slot_dict_values F.type_dict_values (thn (he.run pins s σ H _ I h) fun u s1 ⟨x, H1, I0, rx, d, kvs, ex, hd0, q0⟩ => ?_)
  subst ex
  obtain rfl : u = Value.ref d := rx
  obtain ⟨o, I1⟩ := I0.lock hd0 trivial
  have q := q0 o
  have hd : (upd H1 d (.frz o (.dK kvs))) d = some (.frz o (.dK kvs)) := upd_same
  generalize upd H1 d (.frz o (.dK kvs)) = H2 at I1 q hd
  obtain ⟨hs, hgd, hx, es, ep, vs, hdt, hsz, kv, hm⟩ := I1.frzK hd
  have hl : kvs.length = vs.length := Paired.length kv
  refine ⟨hm.dictOf.typeIs, hm.dictOf.mapOf.noDict, ?_⟩
  have I2 : Inv X pins σ H2 { s1 with heap := s1.heap.push { cls := .type "dict_values", data := .fields #[.ref d] } } := I1.kept (t' := s1.toks) fun b ob q => Heap.get?_push_of_some _ q
  have fin : wpAny (model X.prog X.w) X.A (pyIter (.ref s1.heap.objs.size)) (PIE X pins σ tg R) X.xe { s1 with heap := s1.heap.push { cls := .type "dict_values", data := .fields #[.ref d] } } := by
    refine wpAny_pyIter_values (d := d) (knd := mixKind X.prog X.w) ⟨_, Heap.get?_push_size _ rfl, rfl, rfl⟩ (hm.push _) (pi_one (tk := s1.toks) I2 _ (turn_vals _ hdt) ⟨_, Heap.get?_push_size _ rfl, rfl, ?_⟩ q)
    rw [hl] <;> rfl
  show wpAny _ _ (callWith cpos (.builtin "dict.values") [.ref d] [] []) _ X.xe s1
  exact method_meetsIn F.slot_dict_values F.entry_dict_values rfl (PySem.evalArgs_none ⟨rfl, hm.dictOf.typeIs, F.args_dict_values_1 _, _, meets_dict_values (mixKind X.prog X.w) d hs, ⟨vs, hm.dictOf⟩, fin⟩)
end
/-- a dict comprehension without a test over a walk -/
theorem dcY_it {J : It} {n : Nat} {G : Hp → Prop} {Y : Nat → Hp → V → Hp → Prop} (w : Walk J n G Y) {g : TG} {tk tv : TE} {vs : List Nat} {σ : L2.St} {H1 : Hp} {D : Addr} {Qd : Hp → Prop} (Pv : Nat → Hp → Prop) (h0 : Pv 0 (upd H1 D (.dK []))) (hG : ∀ i H, i ≤ n → Pv i H → G H)
    (hs : ∀ i x H H', i < n → Pv i H → Y i H x H' → g x (wipe σ vs) H' fun σ2 H2 => wipe σ2 vs = wipe σ vs ∧ tk σ2 H2 fun y H4 => tv σ2 H4 fun z H5 => ∃ kvs k, y = kV k ∧ H5 D = some (.dK kvs) ∧ kvs.length < sizeLine ∧ Pv (i + 1) (upd H5 D (.dK (putK kvs k z)))) (hd : ∀ H, Pv n H → Qd H) :
    ∃ W : Nat → Nat → Hp → Prop, (∃ m, W 0 m (upd H1 D (.dK []))) ∧ ∀ i m H, W i m H → (J.stop i H ∧ Qd H) ∨
      (J.go i H ∧ ∃ Nx : Hp → Prop, (∀ H', Nx H' → ∃ m', m' < m ∧ W (i + 1) m' H') ∧ ∀ x H', J.yld i H x H' → g x (wipe σ vs) H' fun σ2 H2 => wipe σ2 vs = wipe σ vs ∧ tYes σ2 H2 fun b H3 =>
        if b = true then tk σ2 H3 fun y H4 => tv σ2 H4 fun z H5 => ∃ kvs k, y = kV k ∧ H5 D = some (.dK kvs) ∧ kvs.length < sizeLine ∧ Nx (upd H5 D (.dK (putK kvs k z))) else Nx H3) := by
  refine ⟨fun i m H => m = n - i ∧ i ≤ n ∧ Pv i H, ⟨n, by simp, Nat.zero_le _, h0⟩, ?_⟩
  rintro i m H ⟨rfl, hi, p⟩
  have q := hG i H hi p
  by_cases hlt : i < n
  · refine .inr ⟨w.goes i H hlt q, Pv (i + 1), fun H' p' => ⟨n - (i + 1), by omega, rfl, hlt, p'⟩, fun x H' y => ?_⟩
    exact hs i x H H' hlt p (w.yields i H x H' hlt q y)
  · have e : i = n := by omega
    subst e
    exact .inl ⟨w.stops H q, hd H p⟩
/-! ### a table of minutes -/
/-- at d stands a dict that tells f for places -/
def Tab (H : Hp) (d : Addr) (f : Str → Option Int) : Prop := ∃ kvs : List (Key × V), H d = some (.dK kvs) ∧ kvs.length ≤ 100000 ∧ ∀ p : Str, valV kvs (.inr p) = (f p).map V.int
theorem Tab.ex {H H' : Hp} {d : Addr} {f : Str → Option Int} (e : Ex H H') (h : Tab H d f) : Tab H' d f := by
  obtain ⟨kvs, h1, h2, h3⟩ := h
  exact ⟨kvs, e _ _ h1, h2, h3⟩
def upd1 (f : Str → Option Int) (p : Str) (t : Int) : Str → Option Int := fun q => if q = p then some t else f q
def TabK (kvs : List (Key × V)) (f : Str → Option Int) : Prop := ∀ p : Str, valV kvs (.inr p) = (f p).map V.int
theorem TabK.nil : TabK [] fun _ => none := fun _ => rfl
theorem TabK.put {kvs : List (Key × V)} {f : Str → Option Int} (h : TabK kvs f) (p : Str) (t : Int) : TabK (putK kvs (.inr p) (.int t)) (upd1 f p t) := fun q => by
  rw [valV_put]
  unfold upd1
  by_cases c : q = p
  · rw [if_pos (congrArg Sum.inr c), if_pos c]
    rfl
  · rw [if_neg fun z => c (Sum.inr.inj z), if_neg c]
    exact h q
theorem TabK.same {kvs : List (Key × V)} {f g : Str → Option Int} (h : TabK kvs f) (e : ∀ p, f p = g p) : TabK kvs g := fun p => by rw [h p, e p]
end FD

set_option Elab.async false
set_option linter.all false
set_option maxRecDepth 100000
set_option maxHeartbeats 4000000
/-! Fires, without Python: through a link, what is reached, the first minutes (points 16 to 18). -/
namespace FP
open PySem
/-- a link as one fire passes it: the number for each wind -/
structure Lk where
  o : Str
  t : Str
  row : List (Option Int)
abbrev Wt := List (Int × Nat)
def windAt (ws : Wt) (m : Int) : Nat := ws.foldl (fun z r => if r.1 ≤ m then r.2 else z) (ws.headD (0, 0)).2
def num (row : List (Option Int)) (w : Nat) : Option Int := row.getD w none
def outs (ws : Wt) (m : Int) : List Int := m :: (ws.map (·.1)).filter fun s => decide (m < s)
def cand (ws : Wt) (row : List (Option Int)) (s : Int) : Option Int := (num row (windAt ws s)).map (s + ·)
def least : Option Int → Option Int → Option Int
  | c, none => c
  | none, some x => some x
  | some c, some x => if x < c then some x else some c
def leastL (l : List (Option Int)) : Option Int := l.foldl least none
def thr (ws : Wt) (row : List (Option Int)) (m : Int) : Option Int := leastL ((outs ws m).map (cand ws row))
theorem fold_mem : ∀ {l : List (Option Int)} {c : Option Int} {t : Int}, l.foldl least c = some t → c = some t ∨ some t ∈ l
  | [], _, _, h => .inl h
  | x :: l, c, t, h => by
    rcases fold_mem (l := l) h with q | q
    · cases x with
      | none =>
        refine .inl ?_
        cases c <;> exact q
      | some x =>
        cases c with
        | none => exact .inr (by rw [show some t = some x from q.symm]; exact List.mem_cons_self)
        | some c =>
          have q : (if x < c then some x else some c) = some t := q
          split at q
          · exact .inr (by rw [q]; exact List.mem_cons_self)
          · exact .inl q
    · exact .inr (List.mem_cons_of_mem _ q)
theorem fold_le : ∀ {l : List (Option Int)} {c : Option Int} {x : Int}, (c = some x ∨ some x ∈ l) → ∃ t, l.foldl least c = some t ∧ t ≤ x
  | [], c, x, h => by
    rcases h with h | h
    · exact ⟨x, h, Int.le_refl _⟩
    · cases h
  | y :: l, c, x, h => by
    have step : ∃ z, least c y = some z ∧ z ≤ x ∨ some x ∈ l := by
      rcases h with h | h
      · subst h
        cases y with
        | none => exact ⟨x, .inl ⟨rfl, Int.le_refl _⟩⟩
        | some y =>
          by_cases q : y < x
          · exact ⟨y, .inl ⟨by show (if y < x then _ else _) = _; rw [if_pos q], by omega⟩⟩
          · exact ⟨x, .inl ⟨by show (if y < x then _ else _) = _; rw [if_neg q], Int.le_refl _⟩⟩
      · rcases List.mem_cons.mp h with h | h
        · subst h
          cases c with
          | none => exact ⟨x, .inl ⟨rfl, Int.le_refl _⟩⟩
          | some c =>
            by_cases q : x < c
            · exact ⟨x, .inl ⟨by show (if x < c then _ else _) = _; rw [if_pos q], Int.le_refl _⟩⟩
            · exact ⟨c, .inl ⟨by show (if x < c then _ else _) = _; rw [if_neg q], by omega⟩⟩
        · exact ⟨x, .inr h⟩
    obtain ⟨z, ⟨h1, h2⟩ | h⟩ := step
    · obtain ⟨t, e, le⟩ := fold_le (l := l) (c := least c y) (x := z) (.inl h1)
      exact ⟨t, e, Int.le_trans le h2⟩
    · exact fold_le (l := l) (c := least c y) (.inr h)
theorem thr_mem {ws : Wt} {row : List (Option Int)} {m t : Int} (h : thr ws row m = some t) : ∃ s ∈ outs ws m, cand ws row s = some t := by
  rcases fold_mem h with q | q
  · cases q
  · obtain ⟨s, hs, e⟩ := List.mem_map.mp q
    exact ⟨s, hs, e⟩
theorem thr_le {ws : Wt} {row : List (Option Int)} {m s x : Int} (hs : s ∈ outs ws m) (h : cand ws row s = some x) : ∃ t, thr ws row m = some t ∧ t ≤ x :=
  fold_le (.inr (List.mem_map.mpr ⟨s, hs, h⟩))
theorem outs_le {ws : Wt} {m s : Int} (h : s ∈ outs ws m) : m ≤ s := by
  rcases List.mem_cons.mp h with h | h
  · omega
  · have := of_decide_eq_true (List.mem_filter.mp h).2
    omega
def RowOk (row : List (Option Int)) : Prop := ∀ x, some x ∈ row → 1 ≤ x
theorem num_in {row : List (Option Int)} {w : Nat} {x : Int} (h : num row w = some x) : some x ∈ row := by
  unfold num at h
  rw [List.getD_eq_getElem?_getD] at h
  cases q : row[w]? with
  | none => rw [q] at h; cases h
  | some y =>
    rw [q] at h
    have e : y = some x := h
    rw [← e]
    exact List.mem_of_getElem? q
theorem thr_gt {ws : Wt} {row : List (Option Int)} {m t : Int} (ok : RowOk row) (h : thr ws row m = some t) : m < t := by
  obtain ⟨s, hs, e⟩ := thr_mem h
  have := outs_le hs
  unfold cand at e
  obtain ⟨n, hn, rfl⟩ := Option.map_eq_some_iff.mp e
  have := ok n (num_in hn)
  omega
theorem fold_same {a b : Int} : ∀ {ws : Wt} {z : Nat}, (∀ r ∈ ws, (r.1 ≤ a ↔ r.1 ≤ b)) → ws.foldl (fun z r => if r.1 ≤ a then r.2 else z) z = ws.foldl (fun z r => if r.1 ≤ b then r.2 else z) z
  | [], _, _ => rfl
  | r :: ws, z, h => by
    have e : (if r.1 ≤ a then r.2 else z) = (if r.1 ≤ b then r.2 else z) := by
      have := h r List.mem_cons_self
      by_cases q : r.1 ≤ a
      · rw [if_pos q, if_pos (this.mp q)]
      · rw [if_neg q, if_neg fun y => q (this.mpr y)]
    rw [List.foldl_cons, List.foldl_cons, e]
    exact fold_same fun r hr => h r (List.mem_cons_of_mem _ hr)
theorem wind_same {ws : Wt} {a b : Int} (h : ∀ r ∈ ws, (r.1 ≤ a ↔ r.1 ≤ b)) : windAt ws a = windAt ws b := fold_same h
theorem max_of : ∀ {l : List Int}, l ≠ [] → ∃ x ∈ l, ∀ y ∈ l, y ≤ x
  | [], h => absurd rfl h
  | [x], _ => ⟨x, List.mem_cons_self, fun y hy => by rw [List.mem_singleton.mp hy]; exact Int.le_refl _⟩
  | x :: z :: l, _ => by
    obtain ⟨m, hm, h⟩ := max_of (l := z :: l) (by simp)
    by_cases q : m ≤ x
    · exact ⟨x, List.mem_cons_self, fun y hy => by
        rcases List.mem_cons.mp hy with rfl | hy
        · exact Int.le_refl _
        · exact Int.le_trans (h y hy) q⟩
    · exact ⟨m, List.mem_cons_of_mem _ hm, fun y hy => by
        rcases List.mem_cons.mp hy with rfl | hy
        · omega
        · exact h y hy⟩
theorem outs_back {ws : Wt} {a b : Int} (h : a ≤ b) : ∃ s ∈ outs ws a, s ≤ b ∧ windAt ws s = windAt ws b := by
  by_cases q : ((ws.map (·.1)).filter fun s => decide (a < s ∧ s ≤ b)) = []
  · refine ⟨a, List.mem_cons_self, h, wind_same fun r hr => ⟨fun z => by omega, fun z => ?_⟩⟩
    rw [List.filter_eq_nil_iff] at q
    have := q r.1 (List.mem_map.mpr ⟨r, hr, rfl⟩)
    rw [decide_eq_true_iff] at this
    omega
  · obtain ⟨s, hs, mx⟩ := max_of q
    obtain ⟨h1, h2⟩ := List.mem_filter.mp hs
    have h2 := of_decide_eq_true h2
    refine ⟨s, List.mem_cons_of_mem _ (List.mem_filter.mpr ⟨h1, decide_eq_true h2.1⟩), h2.2, wind_same fun r hr => ⟨fun z => by omega, fun z => ?_⟩⟩
    by_cases c : a < r.1
    · exact mx r.1 (List.mem_filter.mpr ⟨List.mem_map.mpr ⟨r, hr, rfl⟩, decide_eq_true ⟨c, z⟩⟩)
    · omega
theorem thr_mono {ws : Wt} {row : List (Option Int)} {a b t : Int} (le : a ≤ b) (h : thr ws row b = some t) : ∃ t', thr ws row a = some t' ∧ t' ≤ t := by
  obtain ⟨s, hs, e⟩ := thr_mem h
  rcases List.mem_cons.mp hs with rfl | hs
  · obtain ⟨u, hu, ul, uw⟩ := outs_back (ws := ws) le
    unfold cand at e
    obtain ⟨n, hn, rfl⟩ := Option.map_eq_some_iff.mp e
    obtain ⟨t', h1, h2⟩ := thr_le (row := row) (x := u + n) hu (by unfold cand; rw [uw, hn]; rfl)
    exact ⟨t', h1, by omega⟩
  · obtain ⟨h1, h2⟩ := List.mem_filter.mp hs
    have h2 := of_decide_eq_true h2
    exact thr_le (List.mem_cons_of_mem _ (List.mem_filter.mpr ⟨h1, decide_eq_true (by omega)⟩)) e
/-! ### what is reached -/
structure Fire where
  ws : Wt
  ls : List Lk
  st : List (Str × Int)
  stop : Str → Option Int
def ahead (m : Option Int) (t : Int) : Bool := match m with
  | none => true
  | some m => decide (t < m)
theorem ahead_mono {m : Option Int} {a b : Int} (le : a ≤ b) (h : ahead m b = true) : ahead m a = true := by
  cases m with
  | none => rfl
  | some m =>
    have := of_decide_eq_true h
    exact decide_eq_true (by omega)
inductive Reach (F : Fire) : Str → Int → Prop
  | start {p : Str} {t : Int} : (p, t) ∈ F.st → ahead (F.stop p) t = true → Reach F p t
  | step {l : Lk} {t t' : Int} : Reach F l.o t → l ∈ F.ls → thr F.ws l.row t = some t' → ahead (F.stop l.t) t' = true → Reach F l.t t'
structure Ok (F : Fire) (ps : List Str) : Prop where
  nn : ∀ r ∈ F.st, 0 ≤ r.2
  rows : ∀ l ∈ F.ls, RowOk l.row
  sp : ∀ r ∈ F.st, r.1 ∈ ps
  ends : ∀ l ∈ F.ls, l.o ∈ ps ∧ l.t ∈ ps
theorem Reach.nn {F : Fire} {ps : List Str} (ok : Ok F ps) {p : Str} {t : Int} (h : Reach F p t) : 0 ≤ t ∧ p ∈ ps := by
  induction h with
  | start h _ => exact ⟨ok.nn _ h, ok.sp _ h⟩
  | step _ hl ht _ ih =>
    have := thr_gt (ok.rows _ hl) ht
    exact ⟨by omega, (ok.ends _ hl).2⟩
structure IsFire (F : Fire) (f : Str → Option Int) : Prop where
  sound : ∀ p t, f p = some t → Reach F p t
  start : ∀ p t, (p, t) ∈ F.st → ahead (F.stop p) t = true → ∃ s, f p = some s ∧ s ≤ t
  step : ∀ l ∈ F.ls, ∀ t t', f l.o = some t → thr F.ws l.row t = some t' → ahead (F.stop l.t) t' = true → ∃ s, f l.t = some s ∧ s ≤ t'
theorem IsFire.le {F : Fire} {f : Str → Option Int} (h : IsFire F f) {p : Str} {t : Int} (r : Reach F p t) : ∃ s, f p = some s ∧ s ≤ t := by
  induction r with
  | start a b => exact h.start _ _ a b
  | step _ hl ht ha ih =>
    obtain ⟨s, e, le⟩ := ih
    obtain ⟨s', e', le'⟩ := thr_mono le ht
    obtain ⟨u, eu, lu⟩ := h.step _ hl _ _ e e' (ahead_mono le' ha)
    exact ⟨u, eu, Int.le_trans lu le'⟩
theorem IsFire.uniq {F : Fire} {f g : Str → Option Int} (hf : IsFire F f) (hg : IsFire F g) (p : Str) : f p = g p := by
  have one : ∀ {f g : Str → Option Int}, IsFire F f → IsFire F g → ∀ t, f p = some t → ∃ s, g p = some s ∧ s ≤ t := fun hf hg t e => hg.le (hf.sound _ _ e)
  cases ef : f p with
  | none =>
    cases eg : g p with
    | none => rfl
    | some t =>
      obtain ⟨s, e, _⟩ := one hg hf t eg
      rw [ef] at e; cases e
  | some t =>
    obtain ⟨s, e, le⟩ := one hf hg t ef
    obtain ⟨u, eu, lu⟩ := one hg hf s e
    rw [ef] at eu
    cases eu
    rw [e, show s = t by omega]
theorem reach_min {F : Fire} {ps : List Str} (ok : Ok F ps) {p : Str} : ∀ (n : Nat) {t : Int}, Reach F p t → t.toNat ≤ n → ∃ s, Reach F p s ∧ ∀ u, Reach F p u → s ≤ u
  | 0, t, h, le => ⟨t, h, fun u hu => by
    have := (h.nn ok).1
    have := (hu.nn ok).1
    omega⟩
  | n + 1, t, h, le => by
    by_cases q : ∃ u, Reach F p u ∧ u < t
    · obtain ⟨u, hu, lt⟩ := q
      have := (hu.nn ok).1
      exact reach_min ok n hu (by omega)
    · exact ⟨t, h, fun u hu => by
        have : ¬ u < t := fun z => q ⟨u, hu, z⟩
        omega⟩
open Classical in
/-- the first minutes -/
noncomputable def first (F : Fire) (p : Str) : Option Int := if h : ∃ s, Reach F p s ∧ ∀ u, Reach F p u → s ≤ u then some (Classical.choose h) else none
theorem first_some {F : Fire} {p : Str} {t : Int} (h : first F p = some t) : Reach F p t ∧ ∀ u, Reach F p u → t ≤ u := by
  unfold first at h
  split at h
  · rename_i q
    cases h
    exact Classical.choose_spec q
  · cases h
theorem first_le {F : Fire} {ps : List Str} (ok : Ok F ps) {p : Str} {t : Int} (h : Reach F p t) : ∃ s, first F p = some s ∧ s ≤ t := by
  have q := reach_min ok t.toNat h (Nat.le_refl _)
  unfold first
  rw [dif_pos q]
  exact ⟨_, rfl, (Classical.choose_spec q).2 t h⟩
theorem first_is {F : Fire} {ps : List Str} (ok : Ok F ps) : IsFire F (first F) where
  sound := fun p t h => (first_some h).1
  start := fun p t h a => first_le ok (.start h a)
  step := fun l hl t t' h ht a => first_le ok (.step (first_some h).1 hl ht a)
theorem is_first {F : Fire} {ps : List Str} (ok : Ok F ps) {f : Str → Option Int} (h : IsFire F f) (p : Str) : f p = first F p := h.uniq (first_is ok) p
theorem first_in {F : Fire} {ps : List Str} (ok : Ok F ps) {p : Str} {t : Int} (h : first F p = some t) : p ∈ ps ∧ 0 ≤ t := ⟨((first_some h).1.nn ok).2, ((first_some h).1.nn ok).1⟩
/-! ### rounds over all links -/
def Sound (F : Fire) (f : Str → Option Int) : Prop := ∀ p t, f p = some t → Reach F p t
def Starts (F : Fire) (f : Str → Option Int) : Prop := ∀ p t, (p, t) ∈ F.st → ahead (F.stop p) t = true → ∃ s, f p = some s ∧ s ≤ t
/-- g is nowhere later than f -/
def Le (g f : Str → Option Int) : Prop := ∀ p t, f p = some t → ∃ s, g p = some s ∧ s ≤ t
theorem Le.refl (f : Str → Option Int) : Le f f := fun p t h => ⟨t, h, Int.le_refl _⟩
theorem Le.trans {f g h : Str → Option Int} (a : Le h g) (b : Le g f) : Le h f := fun p t e => by
  obtain ⟨s, e1, l1⟩ := b p t e
  obtain ⟨u, e2, l2⟩ := a p s e1
  exact ⟨u, e2, Int.le_trans l2 l1⟩
/-- the links of the list are taken from f to g -/
def Taken (F : Fire) (ls : List Lk) (f g : Str → Option Int) : Prop := ∀ l ∈ ls, ∀ t t', f l.o = some t → thr F.ws l.row t = some t' → ahead (F.stop l.t) t' = true → ∃ s, g l.t = some s ∧ s ≤ t'
open Classical in
noncomputable def bad (F : Fire) (ps : List Str) (f : Str → Option Int) : List Str := ps.filter fun p => decide (f p ≠ first F p)
theorem final_stays {F : Fire} {ps : List Str} (ok : Ok F ps) {f g : Str → Option Int} (sg : Sound F g) (le : Le g f) {p : Str} (h : f p = first F p) : g p = first F p := by
  cases e : first F p with
  | none =>
    cases q : g p with
    | none => rfl
    | some t =>
      obtain ⟨s, e2, _⟩ := first_le ok (sg p t q)
      rw [e] at e2; cases e2
  | some t =>
    rw [e] at h
    obtain ⟨s, e1, l1⟩ := le p t h
    have := (first_some e).2 s (sg p s e1)
    rw [e1, show s = t by omega]
theorem round_step {F : Fire} {ps : List Str} (ok : Ok F ps) {f g : Str → Option Int} (sf : Sound F f) (sg : Sound F g) (st : Starts F f) (le : Le g f) (tk : Taken F F.ls f g) (ne : bad F ps f ≠ []) : (bad F ps g).length < (bad F ps f).length := by
  have vals : ∀ p ∈ bad F ps f, ∃ m, first F p = some m := fun p hp => by
    have hn := of_decide_eq_true (List.mem_filter.mp hp).2
    cases e : first F p with
    | some m => exact ⟨m, rfl⟩
    | none =>
      exfalso
      cases q : f p with
      | none => exact hn (by rw [q, e])
      | some t =>
        obtain ⟨s, e2, _⟩ := first_le ok (sf p t q)
        rw [e] at e2; cases e2
  obtain ⟨p, hp, mn⟩ : ∃ p ∈ bad F ps f, ∀ q ∈ bad F ps f, ∀ a b, first F p = some a → first F q = some b → a ≤ b := by
    have key : ∀ l : List Str, l ≠ [] → (∀ p ∈ l, ∃ m, first F p = some m) → ∃ p ∈ l, ∀ q ∈ l, ∀ a b, first F p = some a → first F q = some b → a ≤ b := fun l => by
      induction l with
      | nil => exact fun h => absurd rfl h
      | cons x l ih =>
        intro _ hv
        cases l with
        | nil => exact ⟨x, List.mem_cons_self, fun q hq a b ha hb => by rw [List.mem_singleton.mp hq, ha] at hb; cases hb; exact Int.le_refl _⟩
        | cons y l =>
          obtain ⟨p, hp, mn⟩ := ih (by simp) fun p hp => hv p (List.mem_cons_of_mem _ hp)
          obtain ⟨mx, ex⟩ := hv x List.mem_cons_self
          obtain ⟨mp, ep⟩ := hv p (List.mem_cons_of_mem _ hp)
          by_cases c : mx ≤ mp
          · refine ⟨x, List.mem_cons_self, fun q hq a b ha hb => ?_⟩
            rw [ex] at ha; cases ha
            rcases List.mem_cons.mp hq with rfl | hq
            · rw [ex] at hb; cases hb; exact Int.le_refl _
            · exact Int.le_trans c (mn q hq _ _ ep hb)
          · refine ⟨p, List.mem_cons_of_mem _ hp, fun q hq a b ha hb => ?_⟩
            rcases List.mem_cons.mp hq with rfl | hq
            · rw [ex] at hb; cases hb
              rw [ep] at ha; cases ha
              omega
            · exact mn q hq a b ha hb
    exact key _ ne vals
  obtain ⟨m, em⟩ := vals p hp
  have pp := (List.mem_filter.mp hp).1
  have good : g p = first F p := by
    obtain ⟨r, mr⟩ := first_some em
    cases r with
    | start a b =>
      obtain ⟨s, e, l⟩ := st _ _ a b
      have := mr s (sf _ _ e)
      exact absurd (show f p = first F p by rw [e, em, show s = m by omega]) (of_decide_eq_true (List.mem_filter.mp hp).2)
    | @step l t _ hr hl ht ha =>
      obtain ⟨t0, e0, l0⟩ := first_le ok hr
      have gt := thr_gt (ok.rows l hl) ht
      have fo : f l.o = first F l.o := Classical.byContradiction fun c => by
        have := mn l.o (List.mem_filter.mpr ⟨(ok.ends l hl).1, decide_eq_true c⟩) _ _ em e0
        omega
      obtain ⟨t1, e1, l1⟩ := thr_mono l0 ht
      obtain ⟨s, e2, l2⟩ := tk l hl t0 t1 (fo.trans e0) e1 (ahead_mono l1 ha)
      have := mr s (sg _ _ e2)
      rw [e2, em, show s = m by omega]
  have sub : ∀ q ∈ bad F ps g, q ∈ bad F ps f := fun q hq => by
    obtain ⟨h1, h2⟩ := List.mem_filter.mp hq
    exact List.mem_filter.mpr ⟨h1, decide_eq_true fun c => of_decide_eq_true h2 (final_stays ok sg le c)⟩
  have lt : ∀ (l : List Str), p ∈ l → (l.filter fun p => decide (¬ g p = first F p)).length + (if f p = first F p then 0 else 1) ≤ (l.filter fun p => decide (¬ f p = first F p)).length := fun l => by
    have all : ∀ l : List Str, (l.filter fun p => decide (¬ g p = first F p)).length ≤ (l.filter fun p => decide (¬ f p = first F p)).length := fun l => by
      induction l with
      | nil => exact Nat.le_refl _
      | cons x l ih =>
        rw [List.filter_cons, List.filter_cons]
        by_cases c : f x = first F x
        · have c2 := final_stays ok sg le c
          simp only [c, c2, not_true_eq_false, decide_false, Bool.false_eq_true, if_false]
          exact ih
        · simp only [c, not_false_eq_true, decide_true, if_true]
          split
          · rw [List.length_cons, List.length_cons]; omega
          · rw [List.length_cons]; omega
    induction l with
    | nil => exact fun h => by cases h
    | cons x l ih =>
      intro h
      have nf : ¬ f p = first F p := of_decide_eq_true (List.mem_filter.mp hp).2
      rw [if_neg nf] at ih ⊢
      rw [List.filter_cons, List.filter_cons]
      rcases List.mem_cons.mp h with rfl | h
      · simp only [good, nf, not_true_eq_false, decide_false, Bool.false_eq_true, if_false, not_false_eq_true, decide_true, if_true]
        rw [List.length_cons]
        have := all l
        omega
      · have ih := ih h
        by_cases c : f x = first F x
        · have c2 := final_stays ok sg le c
          simp only [c, c2, not_true_eq_false, decide_false, Bool.false_eq_true, if_false]
          exact ih
        · simp only [c, not_false_eq_true, decide_true, if_true]
          split
          · rw [List.length_cons, List.length_cons]; omega
          · rw [List.length_cons]; omega
  have := lt ps pp
  rw [if_neg (of_decide_eq_true (List.mem_filter.mp hp).2)] at this
  exact this
theorem bad_stays {F : Fire} {ps : List Str} (ok : Ok F ps) {f g : Str → Option Int} (sg : Sound F g) (le : Le g f) (h : bad F ps f = []) : bad F ps g = [] := by
  unfold bad at h ⊢
  rw [List.filter_eq_nil_iff] at h ⊢
  intro p hp c
  have := h p hp
  rw [decide_eq_true_iff] at this c
  exact c (final_stays ok sg le (Classical.byContradiction this))
theorem bad_none {F : Fire} {ps : List Str} (ok : Ok F ps) {f : Str → Option Int} (sf : Sound F f) (h : bad F ps f = []) (p : Str) : f p = first F p := by
  by_cases hp : p ∈ ps
  · unfold bad at h
    rw [List.filter_eq_nil_iff] at h
    have := h p hp
    rw [decide_eq_true_iff] at this
    exact Classical.byContradiction this
  · have n1 : f p = none := by
      cases e : f p with
      | none => rfl
      | some t => exact absurd ((sf p t e).nn ok).2 hp
    have n2 : first F p = none := by
      cases e : first F p with
      | none => rfl
      | some t => exact absurd (first_in ok e).1 hp
    rw [n1, n2]
theorem bad_len (F : Fire) (ps : List Str) (f : Str → Option Int) : (bad F ps f).length ≤ ps.length := List.length_filter_le _ _
end FP

set_option Elab.async false
set_option linter.all false
set_option maxRecDepth 100000
set_option maxHeartbeats 4000000
/-! Through a link by spells of wind; least minutes of rows; tables of minutes. -/
namespace FP
open PySem
abbrev Spell := Int × Option Int × Nat
def spells : Wt → List Spell
  | [] => []
  | [r] => [(r.1, none, r.2)]
  | r :: q :: l => (r.1, some q.1, r.2) :: spells (q :: l)
def over (e : Option Int) (m : Int) : Bool := match e with
  | none => false
  | some x => decide (x ≤ m)
def candS (row : List (Option Int)) (m : Int) (s : Spell) : Option Int := if over s.2.1 m = true then none else (num row s.2.2).map ((if s.1 < m then m else s.1) + ·)
def early (c : Option Int) (b : Int) : Bool := match c with
  | none => false
  | some f => decide (f ≤ b)
def goThr (row : List (Option Int)) (m : Int) : List Spell → Option Int → Option Int
  | [], c => c
  | s :: r, c => if early c s.1 = true then c else goThr row m r (least c (candS row m s))
def Asc (ws : Wt) : Prop := ws.Pairwise fun a b => a.1 < b.1
theorem spells_begin : ∀ {ws : Wt}, ∀ s ∈ spells ws, ∃ r ∈ ws, s.1 = r.1
  | [], s, h => by cases h
  | [r], s, h => ⟨r, List.mem_cons_self, by rw [List.mem_singleton.mp h]⟩
  | r :: q :: l, s, h => by
    rcases List.mem_cons.mp h with rfl | h
    · exact ⟨r, List.mem_cons_self, rfl⟩
    · obtain ⟨x, hx, e⟩ := spells_begin (ws := q :: l) s h
      exact ⟨x, List.mem_cons_of_mem _ hx, e⟩
theorem cand_ge {row : List (Option Int)} {m t : Int} {s : Spell} (ok : RowOk row) (h : candS row m s = some t) : s.1 < t := by
  unfold candS at h
  split at h
  · cases h
  · obtain ⟨n, hn, rfl⟩ := Option.map_eq_some_iff.mp h
    have := ok n (num_in hn)
    split <;> omega
theorem fold_keep {c : Int} : ∀ {l : List (Option Int)}, (∀ x, some x ∈ l → c ≤ x) → l.foldl least (some c) = some c
  | [], _ => rfl
  | none :: l, h => fold_keep (l := l) fun x hx => h x (List.mem_cons_of_mem _ hx)
  | some y :: l, h => by
    have := h y List.mem_cons_self
    show l.foldl least (if y < c then some y else some c) = _
    rw [if_neg (by omega)]
    exact fold_keep (l := l) fun x hx => h x (List.mem_cons_of_mem _ hx)
/-- to stop early changes nothing -/
theorem go_fold {row : List (Option Int)} {m : Int} (ok : RowOk row) : ∀ {ws : Wt} {c : Option Int}, Asc ws → goThr row m (spells ws) c = ((spells ws).map (candS row m)).foldl least c := by
  have key : ∀ {l : List Spell} {c : Option Int}, l.Pairwise (fun a b => a.1 < b.1) → goThr row m l c = (l.map (candS row m)).foldl least c := fun {l} => by
    induction l with
    | nil => intro c _; rfl
    | cons s r ih =>
      intro c h
      rw [List.pairwise_cons] at h
      unfold goThr
      cases e : early c s.1 with
      | false =>
        simp only [Bool.false_eq_true, if_false]
        rw [ih h.2]
        rfl
      | true =>
        simp only [if_true]
        cases c with
        | none => cases e
        | some f =>
          have le : f ≤ s.1 := of_decide_eq_true e
          refine (fold_keep fun x hx => ?_).symm
          obtain ⟨q, hq, eq⟩ := List.mem_map.mp hx
          have g := cand_ge ok eq
          rcases List.mem_cons.mp hq with rfl | hq
          · omega
          · have := h.1 q hq
            omega
  intro ws c a
  refine key ?_
  clear c
  induction ws with
  | nil => exact List.Pairwise.nil
  | cons r l ih =>
    cases l with
    | nil => exact List.pairwise_singleton _ _
    | cons q l =>
      unfold Asc at a
      rw [List.pairwise_cons] at a
      show List.Pairwise _ ((r.1, some q.1, r.2) :: spells (q :: l))
      rw [List.pairwise_cons]
      refine ⟨fun s hs => ?_, ih a.2⟩
      obtain ⟨x, hx, e⟩ := spells_begin s hs
      show r.1 < s.1
      rw [e]
      exact a.1 x hx
theorem fold_past {s : Int} : ∀ {l : Wt} {z : Nat}, (∀ r ∈ l, s < r.1) → l.foldl (fun z r => if r.1 ≤ s then r.2 else z) z = z
  | [], _, _ => rfl
  | r :: l, z, h => by
    have := h r List.mem_cons_self
    rw [List.foldl_cons, if_neg (by omega)]
    exact fold_past fun x hx => h x (List.mem_cons_of_mem _ hx)
theorem wind_at {A B : Wt} {r : Int × Nat} (a : Asc (A ++ r :: B)) : windAt (A ++ r :: B) r.1 = r.2 := by
  unfold windAt Asc at *
  rw [List.pairwise_append] at a
  obtain ⟨_, a2, _⟩ := a
  rw [List.pairwise_cons] at a2
  rw [List.foldl_append, List.foldl_cons, if_pos (Int.le_refl _), fold_past a2.1]
theorem wind_drop {r q : Int × Nat} {l : Wt} {s : Int} (h1 : r.1 ≤ s) (h2 : q.1 ≤ s) : windAt (r :: q :: l) s = windAt (q :: l) s := by
  unfold windAt
  simp only [List.headD_cons, List.foldl_cons, if_pos h1, if_pos h2]
theorem past_same {row : List (Option Int)} {m : Int} {ws : Wt} (a : Asc ws) : ∀ (A B : Wt), ws = A ++ B → (∀ r ∈ B, m < r.1) → (B.map (·.1)).map (cand ws row) = (spells B).map (candS row m)
  | A, [], _, _ => rfl
  | A, [r], e, h => by
    have := h r List.mem_cons_self
    have w : windAt ws r.1 = r.2 := by rw [e] at a ⊢; exact wind_at a
    show [cand ws row r.1] = [candS row m (r.1, none, r.2)]
    unfold cand candS over
    rw [w]
    simp only [Bool.false_eq_true, if_false]
    rw [if_neg (by omega)]
  | A, r :: q :: l, e, h => by
    have h1 := h r List.mem_cons_self
    have h2 := h q (List.mem_cons_of_mem _ List.mem_cons_self)
    have w : windAt ws r.1 = r.2 := by rw [e] at a ⊢; exact wind_at a
    have ih := past_same (row := row) (m := m) a (A ++ [r]) (q :: l) (by rw [e, List.append_assoc]; rfl) fun x hx => h x (List.mem_cons_of_mem _ hx)
    show cand ws row r.1 :: ((q :: l).map (·.1)).map (cand ws row) = candS row m (r.1, some q.1, r.2) :: (spells (q :: l)).map (candS row m)
    rw [ih]
    congr 1
    unfold cand candS over
    rw [w]
    simp only
    rw [if_neg (by rw [decide_eq_true_iff]; omega), if_neg (by omega)]
theorem thr_spells {row : List (Option Int)} {m : Int} : ∀ {ws : Wt}, Asc ws → (∀ r ∈ ws.head?, r.1 ≤ m) → ws ≠ [] → ((spells ws).map (candS row m)).foldl least none = thr ws row m
  | [], _, _, h => absurd rfl h
  | [r], a, h, _ => by
    have hr := h r rfl
    unfold thr leastL outs
    rw [show ([r].map (·.1)).filter (fun s => decide (m < s)) = [] by
      rw [List.map_cons, List.map_nil, List.filter_cons, if_neg (by rw [decide_eq_true_iff]; omega)]
      rfl]
    show least none (candS row m (r.1, none, r.2)) = least none (cand [r] row m)
    congr 1
    unfold cand candS over windAt
    simp only [List.headD_cons, List.foldl_cons, List.foldl_nil, Bool.false_eq_true, if_false, if_pos hr]
    by_cases c : r.1 < m
    · rw [if_pos c]
    · rw [if_neg c, show r.1 = m by omega]
  | r :: q :: l, a, h, _ => by
    have hr : r.1 ≤ m := h r rfl
    have a' := a
    unfold Asc at a'
    rw [List.pairwise_cons] at a'
    by_cases c : q.1 ≤ m
    · have ih := thr_spells (row := row) (m := m) (ws := q :: l) a'.2 (fun x hx => by cases hx; exact c) (by simp)
      show (candS row m (r.1, some q.1, r.2) :: (spells (q :: l)).map (candS row m)).foldl least none = _
      have e : candS row m (r.1, some q.1, r.2) = none := by
        unfold candS over
        simp only
        rw [if_pos (decide_eq_true c)]
      rw [e, List.foldl_cons]
      show ((spells (q :: l)).map (candS row m)).foldl least none = _
      rw [ih]
      unfold thr outs
      have e2 : ((r :: q :: l).map (·.1)).filter (fun s => decide (m < s)) = ((q :: l).map (·.1)).filter (fun s => decide (m < s)) := by
        rw [List.map_cons, List.filter_cons, if_neg (by rw [decide_eq_true_iff]; omega)]
      rw [e2]
      congr 1
      refine List.map_congr_left fun s hs => ?_
      have : m ≤ s := by
        rcases List.mem_cons.mp hs with z | z
        · omega
        · have := of_decide_eq_true (List.mem_filter.mp z).2
          omega
      unfold cand
      rw [wind_drop (by omega) (by omega)]
    · have big : ∀ x ∈ q :: l, m < x.1 := fun x hx => by
        rcases List.mem_cons.mp hx with rfl | hx
        · omega
        · have z := a'.2
          rw [List.pairwise_cons] at z
          have := z.1 x hx
          omega
      have ih := past_same (row := row) (m := m) a [r] (q :: l) rfl big
      show (candS row m (r.1, some q.1, r.2) :: (spells (q :: l)).map (candS row m)).foldl least none = _
      rw [← ih]
      unfold thr leastL outs
      have e2 : ((r :: q :: l).map (·.1)).filter (fun s => decide (m < s)) = (q :: l).map (·.1) := by
        rw [List.map_cons, List.filter_cons, if_neg (by rw [decide_eq_true_iff]; omega)]
        exact List.filter_eq_self.mpr fun s hs => by
          obtain ⟨x, hx, rfl⟩ := List.mem_map.mp hs
          exact decide_eq_true (big x hx)
      rw [e2, List.map_cons]
      congr 2
      unfold cand candS over windAt
      simp only [List.headD_cons, List.foldl_cons]
      have z := big q List.mem_cons_self
      have c0 : ¬ decide (q.1 ≤ m) = true := by rw [decide_eq_true_iff]; omega
      have c1 : ¬ q.1 ≤ m := by omega
      rw [if_pos hr]
      simp only [if_neg c0, if_neg c1]
      rw [fold_past fun x hx => big x (List.mem_cons_of_mem _ hx)]
      by_cases c2 : r.1 < m
      · simp only [if_pos c2]
      · have er : r.1 = m := by omega
        simp only [if_neg c2]
        rw [er]
theorem go_thr {row : List (Option Int)} {m : Int} {ws : Wt} (ok : RowOk row) (a : Asc ws) (h : ∀ r ∈ ws.head?, r.1 ≤ m) (ne : ws ≠ []) : goThr row m (spells ws) none = thr ws row m := by
  rw [go_fold ok a, thr_spells a h ne]
/-! ### least minutes of rows (place, minute) -/
def minOf (rows : List (Str × Int)) (p : Str) : Option Int := rows.foldl (fun c r => if r.1 = p then least c (some r.2) else c) none
theorem minOf_more (rows : List (Str × Int)) (r : Str × Int) (p : Str) : minOf (rows ++ [r]) p = if r.1 = p then least (minOf rows p) (some r.2) else minOf rows p := by
  unfold minOf
  rw [List.foldl_append]
  rfl
end FP

set_option Elab.async false
set_option linter.all false
set_option maxRecDepth 100000
set_option maxHeartbeats 4000000
/-! A fire found in rounds over all links. -/
namespace FP
open PySem FD
def relax (f : Str → Option Int) (p : Str) (c : Int) : Str → Option Int := match f p with
  | none => upd1 f p c
  | some u => if c < u then upd1 f p c else f
def startL (F : Fire) (f : Str → Option Int) (r : Str × Int) : Str → Option Int := if ahead (F.stop r.1) r.2 = true then relax f r.1 r.2 else f
def takeL (F : Fire) (f : Str → Option Int) (l : Lk) : Str → Option Int := match f l.o with
  | none => f
  | some s => match thr F.ws l.row s with
    | none => f
    | some c => if ahead (F.stop l.t) c = true then relax f l.t c else f
theorem upd1_at (f : Str → Option Int) (p : Str) (c : Int) : upd1 f p c p = some c := if_pos rfl
theorem relax_at (f : Str → Option Int) (p : Str) (c : Int) : ∃ u, relax f p c p = some u ∧ u ≤ c := by
  unfold relax
  cases e : f p with
  | none => exact ⟨c, upd1_at f p c, Int.le_refl _⟩
  | some u =>
    by_cases h : c < u
    · simp only [if_pos h]
      exact ⟨c, upd1_at f p c, Int.le_refl _⟩
    · simp only [if_neg h]
      exact ⟨u, e, by omega⟩
theorem upd1_le {f : Str → Option Int} {p : Str} {c : Int} (h : ∀ u, f p = some u → c ≤ u) : Le (upd1 f p c) f := fun q t e => by
  unfold upd1
  by_cases z : q = p
  · rw [if_pos z]
    rw [z] at e
    exact ⟨c, rfl, h t e⟩
  · rw [if_neg z]
    exact ⟨t, e, Int.le_refl _⟩
theorem relax_le (f : Str → Option Int) (p : Str) (c : Int) : Le (relax f p c) f := by
  unfold relax
  cases e : f p with
  | none => exact upd1_le fun u h => by rw [e] at h; cases h
  | some u =>
    by_cases h : c < u
    · simp only [if_pos h]
      exact upd1_le fun v hv => by rw [e] at hv; cases hv; omega
    · simp only [if_neg h]
      exact Le.refl f
theorem relax_sound {F : Fire} {f : Str → Option Int} {p : Str} {c : Int} (sf : Sound F f) (r : Reach F p c) : Sound F (relax f p c) := by
  have up : Sound F (upd1 f p c) := fun q t e => by
    unfold upd1 at e
    split at e
    · rename_i z
      cases e
      rw [z]
      exact r
    · exact sf q t e
  unfold relax
  cases e : f p with
  | none => exact up
  | some u =>
    by_cases h : c < u
    · simp only [if_pos h]; exact up
    · simp only [if_neg h]; exact sf
theorem start_sound {F : Fire} {f : Str → Option Int} {r : Str × Int} (sf : Sound F f) (h : r ∈ F.st) : Sound F (startL F f r) := by
  unfold startL
  split
  · rename_i a
    exact relax_sound sf (.start h a)
  · exact sf
theorem start_le (F : Fire) (f : Str → Option Int) (r : Str × Int) : Le (startL F f r) f := by
  unfold startL
  split
  · exact relax_le _ _ _
  · exact Le.refl f
theorem take_sound {F : Fire} {f : Str → Option Int} {l : Lk} (sf : Sound F f) (h : l ∈ F.ls) : Sound F (takeL F f l) := by
  unfold takeL
  cases e : f l.o with
  | none => exact sf
  | some s =>
    simp only
    cases t : thr F.ws l.row s with
    | none => exact sf
    | some c =>
      simp only
      split
      · rename_i a
        exact relax_sound sf (.step (sf _ _ e) h t a)
      · exact sf
theorem take_le (F : Fire) (f : Str → Option Int) (l : Lk) : Le (takeL F f l) f := by
  unfold takeL
  cases e : f l.o with
  | none => exact Le.refl f
  | some s =>
    simp only
    cases t : thr F.ws l.row s with
    | none => exact Le.refl f
    | some c =>
      simp only
      split
      · exact relax_le _ _ _
      · exact Le.refl f
theorem take_taken {F : Fire} {f0 f : Str → Option Int} {l : Lk} (le : Le f f0) {t t' : Int} (h0 : f0 l.o = some t) (h1 : thr F.ws l.row t = some t') (h2 : ahead (F.stop l.t) t' = true) : ∃ s, takeL F f l l.t = some s ∧ s ≤ t' := by
  obtain ⟨s, e, l1⟩ := le _ _ h0
  obtain ⟨c, ec, l2⟩ := thr_mono l1 h1
  unfold takeL
  rw [e]
  simp only
  rw [ec]
  simp only
  rw [if_pos (ahead_mono l2 h2)]
  obtain ⟨u, eu, l3⟩ := relax_at f l.t c
  exact ⟨u, eu, Int.le_trans l3 l2⟩
def st0 (F : Fire) : Str → Option Int := F.st.foldl (startL F) fun _ => none
def rnd (F : Fire) (f : Str → Option Int) : Str → Option Int := F.ls.foldl (takeL F) f
def rounds (F : Fire) : Nat → Str → Option Int
  | 0 => st0 F
  | n + 1 => rnd F (rounds F n)
theorem st0_ok (F : Fire) : Sound F (st0 F) ∧ Starts F (st0 F) := by
  have key : ∀ (l : List (Str × Int)) (f : Str → Option Int), (∀ r ∈ l, r ∈ F.st) → Sound F f → Sound F (l.foldl (startL F) f) ∧ Le (l.foldl (startL F) f) f ∧ ∀ r ∈ l, ahead (F.stop r.1) r.2 = true → ∃ s, l.foldl (startL F) f r.1 = some s ∧ s ≤ r.2 := fun l => by
    induction l with
    | nil => exact fun f _ sf => ⟨sf, Le.refl f, fun r hr => by cases hr⟩
    | cons r l ih =>
      intro f hm sf
      obtain ⟨h1, h2, h3⟩ := ih (startL F f r) (fun x hx => hm x (List.mem_cons_of_mem _ hx)) (start_sound sf (hm r List.mem_cons_self))
      refine ⟨h1, h2.trans (start_le F f r), fun x hx a => ?_⟩
      rcases List.mem_cons.mp hx with rfl | hx
      · obtain ⟨u, eu, lu⟩ := relax_at f x.1 x.2
        have e : startL F f x = relax f x.1 x.2 := if_pos a
        rw [← e] at eu
        obtain ⟨v, ev, lv⟩ := h2 _ _ eu
        exact ⟨v, ev, Int.le_trans lv lu⟩
      · exact h3 x hx a
  obtain ⟨h1, _, h3⟩ := key F.st (fun _ => none) (fun r h => h) fun p t h => by cases h
  exact ⟨h1, fun p t h a => h3 (p, t) h a⟩
theorem rnd_ok {F : Fire} {f : Str → Option Int} (sf : Sound F f) : Sound F (rnd F f) ∧ Le (rnd F f) f ∧ Taken F F.ls f (rnd F f) := by
  have key : ∀ (l : List Lk) (g : Str → Option Int), (∀ r ∈ l, r ∈ F.ls) → Sound F g → Le g f → Sound F (l.foldl (takeL F) g) ∧ Le (l.foldl (takeL F) g) g ∧ Taken F l f (l.foldl (takeL F) g) := fun l => by
    induction l with
    | nil => exact fun g _ sg lg => ⟨sg, Le.refl g, fun r hr => by cases hr⟩
    | cons r l ih =>
      intro g hm sg lg
      obtain ⟨h1, h2, h3⟩ := ih (takeL F g r) (fun x hx => hm x (List.mem_cons_of_mem _ hx)) (take_sound sg (hm r List.mem_cons_self)) ((take_le F g r).trans lg)
      refine ⟨h1, h2.trans (take_le F g r), fun x hx t t' e1 e2 e3 => ?_⟩
      rcases List.mem_cons.mp hx with rfl | hx
      · obtain ⟨u, eu, lu⟩ := take_taken lg e1 e2 e3
        obtain ⟨v, ev, lv⟩ := h2 _ _ eu
        exact ⟨v, ev, Int.le_trans lv lu⟩
      · exact h3 x hx t t' e1 e2 e3
  exact key F.ls f (fun r h => h) sf (Le.refl f)
theorem rounds_ok {F : Fire} {ps : List Str} (ok : Ok F ps) : ∀ n, Sound F (rounds F n) ∧ Starts F (rounds F n) ∧ (bad F ps (rounds F n)).length ≤ ps.length - n
  | 0 => ⟨(st0_ok F).1, (st0_ok F).2, bad_len _ _ _⟩
  | n + 1 => by
    obtain ⟨h1, h2, h3⟩ := rounds_ok ok n
    obtain ⟨g1, g2, g3⟩ := rnd_ok h1
    refine ⟨g1, fun p t h a => ?_, ?_⟩
    · obtain ⟨s, e, l⟩ := h2 p t h a
      obtain ⟨u, eu, lu⟩ := g2 p s e
      exact ⟨u, eu, Int.le_trans lu l⟩
    · show (bad F ps (rnd F (rounds F n))).length ≤ _
      by_cases e : bad F ps (rounds F n) = []
      · rw [bad_stays ok g1 g2 e]
        exact Nat.zero_le _
      · have := round_step ok h1 g1 h2 g2 g3 e
        omega
theorem rounds_first {F : Fire} {ps : List Str} (ok : Ok F ps) {n : Nat} (h : ps.length ≤ n) (p : Str) : rounds F n p = first F p := by
  obtain ⟨h1, h2, h3⟩ := rounds_ok ok n
  refine bad_none ok h1 (List.length_eq_zero_iff.mp ?_) p
  omega
end FP

set_option Elab.async false
set_option linter.all false
set_option maxRecDepth 100000
set_option maxHeartbeats 4000000
/-! enumerate over a tuple. -/
namespace EnT
open PySem
open Sem (wp)
open AutoSeq1 (wpAny_loadPart')
theorem enum_newT (l : Addr) (its : Array Value) (n : Nat) (dd : Option Addr) (ss : Array (Option Value)) :
    Meets (Builtin.«enumerate.__new__» ⟨[.type "enumerate", .ref l], []⟩) (fun _ R s => s.heap.get? l = some ⟨.type "tuple", dd, .seq its n, ss⟩ ∧
      R (.ok (.ret (.ref (s.heap.push ⟨.type "tuple_iterator", none, .fields #[.ref l, .int 0 0], #[]⟩).objs.size)))
        { s with heap := (s.heap.push ⟨.type "tuple_iterator", none, .fields #[.ref l, .int 0 0], #[]⟩).push ⟨.type "enumerate", none, .fields #[.none, .bool false, .ref s.heap.objs.size, rawInt 0, .none, .none], #[]⟩ }) := by
  refine .of_wp fun prog w A R s h => ?_
  obtain ⟨hp, g, d, t, os⟩ := s
  obtain ⟨h0, hR⟩ := h
  have hsub := sub_enumerate
  have h1 : Heap.IsTuple (Shared.heap ⟨hp, g, d, t, os⟩) l its := ⟨_, h0, rfl, n, rfl⟩
  wp_walk using wpAny_loadPart' h0
  refine wpAny_stack_any fun st => ?_
  refine wpAny_pure ?_
  split
  · rename_i c _ _ _ _ _
    cases (c == Value.type "enumerate") <;> (wp_walk using wpAny_loadPart' h0, wpAny_pyIter_tuple h1; exact ⟨_, rfl, hR⟩)
  · wp_walk using wpAny_loadPart' h0, wpAny_pyIter_tuple h1
    exact ⟨_, rfl, hR⟩
section
variable {prog : Program} {w : World} {A : Around} {E : Value → Shared → Prop} {s : Shared}
theorem call_enumT {l : Addr} {items : Array Value} {Q : Value → Shared → Prop} (hL : s.heap.IsTuple l items)
    (h : ∀ h', IsEnum h' (s.heap.objs.size + 1) s.heap.objs.size 0 .none → h'.IsTupleIter s.heap.objs.size l 0 → h'.objs.size = s.heap.objs.size + 2 →
      (∀ b o, s.heap.get? b = some o → h'.get? b = some o) → Q (.ref (s.heap.objs.size + 1)) { s with heap := h' }) :
    wpAny (model prog w) A (call (.type "enumerate") [.ref l]) Q E s := by
  obtain ⟨⟨c, dd, dt, sl⟩, hl, hc, n, hd⟩ := hL
  replace hc : c = .type "tuple" := hc
  replace hd : dt = .seq items n := hd
  subst hc hd
  refine callType_new F.called_enumerate (by decide) (F.typeCall_enumerate_1 _) (F.newCall_enumerate_1 _) (fun obj => F.args_object_init_2 obj _) F.entry_enumerate_new (enum_newT l items n dd sl) ⟨hl, ?_⟩
  have hz : (s.heap.push ⟨.type "tuple_iterator", none, .fields #[.ref l, .int 0 0], #[]⟩).objs.size = s.heap.objs.size + 1 := Heap.size_push ..
  show _ ∧ _
  rw [hz]
  have he : IsEnum ((s.heap.push ⟨.type "tuple_iterator", none, .fields #[.ref l, .int 0 0], #[]⟩).push ⟨.type "enumerate", none, .fields #[.none, .bool false, .ref s.heap.objs.size, rawInt 0, .none, .none], #[]⟩) (s.heap.objs.size + 1) s.heap.objs.size 0 .none := by
    have q := Heap.get?_push_size (s.heap.push ⟨.type "tuple_iterator", none, .fields #[.ref l, .int 0 0], #[]⟩) (o := ⟨.type "enumerate", none, .fields #[.none, .bool false, .ref s.heap.objs.size, rawInt 0, .none, .none], #[]⟩) rfl
    rw [hz] at q
    exact q
  exact ⟨⟨_, he, rfl⟩, h _ he ⟨_, Heap.get?_push_of_some _ (Heap.get?_push_size _ rfl), rfl, rfl⟩ (by rw [Heap.size_push, hz]) fun b o x => Heap.get?_push_of_some _ (Heap.get?_push_of_some _ x)⟩
end
end EnT
namespace EnT
open PySem PySem.Spec PyProof.Rows L2
/-- the items of the tuple at a, each in a new pair behind its number -/
def It0 (K : PySem.W.Frag) (a : Addr) : It where
  go := fun i H => ∃ (zs : List V) (z : V), SqT K H a zs ∧ zs[i]? = some z
  yld := fun i H v H' => ∃ (p : Addr) (z : V), v = .ref p ∧ H p = none ∧ H' = upd H p (.tup [.int (i : Nat), z]) ∧ ∀ zs, SqT K H a zs → zs[i]? = some z
  stop := fun i H => ∃ zs : List V, SqT K H a zs ∧ zs.length = i
def St0 (a e it : Addr) (i : Nat) (h : Heap) : Prop := (∃ old, IsEnum h e it (i : Int) old) ∧ h.IsTupleIter it a i ∧ e ≠ it
theorem two_of {e it b : Addr} (h : b ∈ [e, it]) : b = e ∨ b = it := by simpa using h
theorem turn0 {P : Program} {w : World} {K : PySem.W.Frag} {elts : List Expr} {kk : Nat} {tp : Pos} (a e it : Addr) : Turn P w K (.Tuple elts kk tp) (It0 K a) [e, it] e (St0 a e it) where
  mem := List.mem_cons_self
  obj := by
    rintro i h ⟨⟨old, he⟩, ⟨o, ho, hc, hd⟩, _⟩ b hb
    rcases two_of hb with rfl | rfl
    · exact ⟨_, he, fun v q => nomatch q⟩
    · exact ⟨o, ho, fun v q => by rw [hd] at q; cases q⟩
  keep := by
    rintro i h h2 ⟨⟨old, he⟩, hi, hne⟩ k
    exact ⟨⟨old, k e List.mem_cons_self _ he⟩, hi.at fun o q => k it (List.mem_cons_of_mem _ List.mem_cons_self) o q, hne⟩
  item := by
    intro X hP hw hK hc i pins s σ H E I hf st hg
    subst hP hw hK
    obtain ⟨⟨old, he⟩, hit, hne⟩ := st
    obtain ⟨zs, z, hq, hz⟩ := hg
    obtain ⟨its, rv, pl, _⟩ := I.tuple hq
    obtain ⟨u, hu, ru⟩ := rv.get hz
    have s1 : e < s.heap.objs.size := Heap.lt_size he
    have s2 : it < s.heap.objs.size := by
      obtain ⟨_, q, _⟩ := hit
      exact Heap.lt_size q
    have lis : s.heap.IsTuple a its.toArray := pl
    have ea : a ≠ e := fun z => by
      obtain ⟨o, ho, hcl, _⟩ := lis
      rw [z, he] at ho
      cases ho
      injection hcl with q
      exact absurd q (by decide)
    have ia : a ≠ it := fun z => by
      obtain ⟨o, ho, hcl, _⟩ := lis
      obtain ⟨o2, ho2, hcl2, _⟩ := hit
      rw [z, ho2] at ho
      cases ho
      rw [hcl2] at hcl
      injection hcl with q
      exact absurd q (by decide)
    have hu' : its.toArray[i]? = some u := by simpa using hu
    have hi : i < its.toArray.size := by
      rcases Nat.lt_or_ge i its.toArray.size with q | q
      · exact q
      · rw [Array.getElem?_eq_none q] at hu'
        cases hu'
    refine wpAny_pyNext_enum_itemC (Draws.tuple (A := X.A.in1) (show X.A.in1.handled = none from I.ok.hd hc) it a ia its.toArray) he ⟨hit, lis⟩ hi hne (by simp [hne, ea.symm]) fun x h2 tk px ho st2 hT hsz hk => ?_
    obtain rfl : x = u := Option.some.inj (px.symm.trans hu')
    refine ⟨_, rfl, wpAny_letOwnedTupleGo_enum (s := { s with heap := h2, toks := tk + 1 }) ho fun h3 he3 sb => ?_⟩
    have hT3 : h3.get? s.heap.objs.size = some ⟨.type "tuple", none, .seq #[.int (i : Int) tk, x] 0, #[]⟩ := (sb.2 _ (Nat.ne_of_gt s1)).trans hT
    have new : ObjOk X.prog X.w (upd H s.heap.objs.size (.tup [.int (i : Int), z])) h3 s.heap.objs.size (.tup [.int (i : Int), z]) :=
      ⟨by show 2 ≤ sizeLine; decide, [.int (i : Int) tk, x], .cons ⟨_, rfl⟩ (.cons ru .nil), ⟨_, hT3, rfl, _, rfl⟩⟩
    have I2 : Inv X pins σ (upd H s.heap.objs.size (.tup [.int (i : Int), z])) { s with heap := h3, toks := tk + 1 } :=
      I.turnedNew (ch := [e, it]) (fun b ob hb q => (sb.2 b (fun y => hb (by rw [y]; exact List.mem_cons_self))).trans (hk b ob (fun y => hb (by rw [y]; exact List.mem_cons_self)) (fun y => hb (by rw [y]; exact List.mem_cons_of_mem _ List.mem_cons_self)) q)) hf (Nat.le_refl _) new
    have fr : H s.heap.objs.size = none := I.hok.fresh (Nat.le_refl _)
    refine ⟨.ref s.heap.objs.size, _, I2, rfl, ⟨_, z, rfl, fr, rfl, fun ys hy => by rw [I.tuple_inj hy hq]; exact hz⟩, ⟨⟨x, ?_⟩, st2.1.at fun o q => (sb.2 it (Ne.symm hne)).trans q, hne⟩, fun b hb => ?_⟩
    · rw [show (((i + 1 : Nat) : Int)) = (i : Int) + 1 by omega]
      exact he3
    · have lt : b < s.heap.objs.size := by
        rcases two_of hb with rfl | rfl
        · exact s1
        · exact s2
      rw [upd_ne (Nat.ne_of_lt lt)]
      exact (hf b hb).1
  done := by
    intro X hP hw hK hc i pins s σ H E I hf st hg
    subst hP hw hK
    obtain ⟨⟨old, he⟩, hit, hne⟩ := st
    obtain ⟨zs, hq, hz⟩ := hg
    obtain ⟨its, rv, pl, _⟩ := I.tuple hq
    have lis : s.heap.IsTuple a its.toArray := pl
    have hl := rv.length
    have ia : a ≠ it := fun z => by
      obtain ⟨o, ho, hcl, _⟩ := lis
      obtain ⟨o2, ho2, hcl2, _⟩ := hit
      rw [z, ho2] at ho
      cases ho
      rw [hcl2] at hcl
      injection hcl with q
      exact absurd q (by decide)
    obtain ⟨f0, f1, f2, f3, f4, f5⟩ := hf it (List.mem_cons_of_mem _ List.mem_cons_self)
    have ei : i = its.toArray.size := by
      rw [List.size_toArray]
      omega
    rw [ei] at hit
    exact wpAny_pyNext_enum_endD (Draws.tuple (A := X.A.in1) (show X.A.in1.handled = none from I.ok.hd hc) it a ia its.toArray) he ⟨hit, lis⟩ fun h2 eb => ⟨rfl, I.turned (t' := s.toks) (fun b o hb q => eb b o hb q) f0 f1 f3 f4 f5⟩
  self := fun A i s Q E st h => by
    obtain ⟨⟨_, he⟩, _⟩ := st
    exact wpAny_pyIter_enum he h
def iEnumT (K : PySem.W.Frag) (ta : TA) : TI := fun σ H R => ta σ H fun vs H1 => ∃ a xs, vs = [.ref a] ∧ SqT K H1 a xs ∧ R (It0 K a) H1
theorem pi_enumT {X : Cx} {e : Expr} {ta : TA} {p pos tpos : Pos} {elts : List Expr} {kk : Nat} (hg : Gl X "enumerate") (hm : X.mg "enumerate" = none) (ha : PA X [e] ta) (hs : starEach [e] X.env = [(false, eval e X.env)] := by rfl) :
    PI X (.Tuple elts kk tpos) (.Call (.Name "enumerate" p) [e] [] pos) (iEnumT X.K ta) := by
  refine ⟨fun pins s σ H R I h => ?_⟩
  refine Call_ (ld_blt I hg hm boot_enumerate (PyProof.Rows.callWith_type1 (thn (ha.run pos pins s σ H _ I h) fun us s1 ⟨vs, H1, I1, r1, q1⟩ => ?_) hs rfl))
  obtain ⟨a, xs, ex, hq, q⟩ := q1
  subst ex
  cases r1 with
  | cons r rr =>
    cases rr
    cases r
    obtain ⟨its, rv, p', hz⟩ := I1.tuple hq
    refine call_enumT (show s1.heap.IsTuple a its.toArray from p') fun h' he hit hsz hk => wpAny_pyIter_enum he ?_
    have I2 : Inv X pins σ H1 { s1 with heap := h' } := I1.kept (t' := s1.toks) hk
    refine ⟨s1.heap.objs.size + 1, [s1.heap.objs.size + 1, s1.heap.objs.size], _, _, H1, rfl, I2, turn0 a (s1.heap.objs.size + 1) s1.heap.objs.size, ⟨⟨.none, he⟩, hit, Nat.succ_ne_self _⟩, fun b hb => ?_, q⟩
    have lb : s1.heap.objs.size ≤ b := by
      rcases two_of hb with z | z
      · rw [z]
        exact Nat.le_add_right _ _
      · rw [z]
        exact Nat.le_refl _
    exact I1.fpOk lb (I1.hok.fresh lb)
/-- what a turn gives -/
theorem walk_enumT {K : PySem.W.Frag} {a : Addr} {xs : List V} : Walk (It0 K a) xs.length (fun H => SqT K H a xs) (fun i H v H' => ∃ (p : Addr) (z : V), v = .ref p ∧ H p = none ∧ H' = upd H p (.tup [.int (i : Nat), z]) ∧ xs[i]? = some z) := by
  refine ⟨fun i _ hi q => ⟨xs, xs[i], q, by simp [hi]⟩, fun _ q => ⟨xs, q, rfl⟩, fun i H v H' _ q y => ?_⟩
  obtain ⟨T, x, h1, h2, h3, h4⟩ := y
  exact ⟨T, x, h1, h2, h3, h4 xs q⟩
end EnT

set_option Elab.async false
set_option linter.all false
set_option maxRecDepth 100000
set_option maxHeartbeats 4000000
/-! A fire found place by place, the earliest first. -/
namespace FP
open PySem FD
structure DInv (F : Fire) (f : Str → Option Int) (W : List (Int × Str)) : Prop where
  so : ∀ p t, f p = some t → Reach F p t
  ws : ∀ e ∈ W, ahead (F.stop e.2) e.1 = true → Reach F e.2 e.1
  st : ∀ p t, (p, t) ∈ F.st → ahead (F.stop p) t = true → (∃ s, f p = some s ∧ s ≤ t) ∨ (t, p) ∈ W
  lk : ∀ l ∈ F.ls, ∀ t t', f l.o = some t → thr F.ws l.row t = some t' → ahead (F.stop l.t) t' = true → (∃ s, f l.t = some s ∧ s ≤ t') ∨ (t', l.t) ∈ W
  od : ∀ p s, f p = some s → ∀ e ∈ W, s ≤ e.1
theorem DInv.start {F : Fire} {W : List (Int × Str)} (h : ∀ e, e ∈ W ↔ (e.2, e.1) ∈ F.st) : DInv F (fun _ => none) W where
  so := fun p t h => by cases h
  ws := fun e he a => .start ((h e).mp he) a
  st := fun p t hp _ => .inr ((h (t, p)).mpr hp)
  lk := fun l _ t t' h => by cases h
  od := fun p s h => by cases h
theorem DInv.done {F : Fire} {f : Str → Option Int} (h : DInv F f []) : IsFire F f where
  sound := h.so
  start := fun p t hp a => (h.st p t hp a).elim id fun z => by cases z
  step := fun l hl t t' e1 e2 e3 => (h.lk l hl t t' e1 e2 e3).elim id fun z => by cases z
theorem DInv.skip {F : Fire} {f : Str → Option Int} {W W' : List (Int × Str)} {t : Int} {p : Str} (h : DInv F f W) (m : (t, p) ∈ W) (a : ∀ e ∈ W, e = (t, p) ∨ e ∈ W') (b : ∀ e ∈ W', e ∈ W) (c : (f p).isSome = true ∨ ahead (F.stop p) t = false) : DInv F f W' where
  so := h.so
  ws := fun e he => h.ws e (b e he)
  st := fun q u hq au => by
    rcases h.st q u hq au with z | z
    · exact .inl z
    · rcases a _ z with e | e
      · cases e
        rcases c with c | c
        · obtain ⟨s, hs⟩ := Option.isSome_iff_exists.mp c
          exact .inl ⟨s, hs, h.od _ _ hs _ m⟩
        · rw [c] at au; cases au
      · exact .inr e
  lk := fun l hl u u' e1 e2 e3 => by
    rcases h.lk l hl u u' e1 e2 e3 with z | z
    · exact .inl z
    · rcases a _ z with e | e
      · have e4 : l.t = p := congrArg Prod.snd e
        have e5 : u' = t := congrArg Prod.fst e
        rw [e4] at e3 ⊢
        rw [e5] at e3 ⊢
        rcases c with c | c
        · obtain ⟨s, hs⟩ := Option.isSome_iff_exists.mp c
          exact .inl ⟨s, hs, h.od _ _ hs _ m⟩
        · rw [c] at e3; cases e3
      · exact .inr e
  od := fun q s hs e he => h.od q s hs e (b e he)
theorem DInv.find {F : Fire} {f : Str → Option Int} {W W' W2 : List (Int × Str)} {t : Int} {p : Str} (rows : ∀ l ∈ F.ls, RowOk l.row) (h : DInv F f W) (m : (t, p) ∈ W) (a : ∀ e ∈ W, e = (t, p) ∨ e ∈ W') (b : ∀ e ∈ W', e ∈ W) (least : ∀ e ∈ W, t ≤ e.1) (n : f p = none) (ah : ahead (F.stop p) t = true)
    (x : ∀ e ∈ W2, e ∈ W' ∨ ∃ l ∈ F.ls, l.o = p ∧ thr F.ws l.row t = some e.1 ∧ e.2 = l.t) (y : ∀ e ∈ W', e ∈ W2) (z : ∀ l ∈ F.ls, l.o = p → ∀ t', thr F.ws l.row t = some t' → (t', l.t) ∈ W2) : DInv F (upd1 f p t) W2 := by
  have same : ∀ {q s}, f q = some s → upd1 f p t q = some s := fun {q s} e => by
    unfold upd1
    rw [if_neg (fun z => by rw [z, n] at e; cases e)]
    exact e
  have was : ∀ {q s}, upd1 f p t q = some s → (q = p ∧ s = t) ∨ f q = some s := fun {q s} e => by
    unfold upd1 at e
    split at e
    · rename_i z
      cases e
      exact .inl ⟨z, rfl⟩
    · exact .inr e
  have rp : Reach F p t := h.ws _ m ah
  have at' : ∀ {u : Int}, (∃ s, f p = some s ∧ s ≤ u) ∨ t ≤ u → ∃ s, upd1 f p t p = some s ∧ s ≤ u := fun {u} e => by
    rcases e with ⟨s, e, _⟩ | e
    · rw [n] at e; cases e
    · exact ⟨t, if_pos rfl, e⟩
  refine ⟨fun q s e => ?_, fun e he ae => ?_, fun q u hq au => ?_, fun l hl u u' e1 e2 e3 => ?_, fun q s e w hw => ?_⟩
  · rcases was e with ⟨rfl, rfl⟩ | e
    · exact rp
    · exact h.so q s e
  · rcases x e he with e1 | ⟨l, hl, e1, e2, e3⟩
    · exact h.ws e (b e e1) ae
    · rw [e3] at ae ⊢
      exact .step (by rw [e1]; exact rp) hl e2 ae
  · rcases h.st q u hq au with ⟨s, e1, e2⟩ | e
    · exact .inl ⟨s, same e1, e2⟩
    · rcases a _ e with e1 | e1
      · cases e1
        exact .inl ⟨t, if_pos rfl, Int.le_refl _⟩
      · exact .inr (y _ e1)
  · rcases was e1 with ⟨g1, g2⟩ | e1
    · subst g2
      exact .inr (z l hl g1 u' e2)
    · rcases h.lk l hl u u' e1 e2 e3 with ⟨s, e4, e5⟩ | e
      · exact .inl ⟨s, same e4, e5⟩
      · rcases a _ e with e4 | e4
        · have e5 : l.t = p := congrArg Prod.snd e4
          have e6 : u' = t := congrArg Prod.fst e4
          rw [e5, e6]
          exact .inl ⟨t, if_pos rfl, Int.le_refl _⟩
        · exact .inr (y _ e4)
  · have low : t ≤ w.1 := by
      rcases x w hw with e1 | ⟨l, hl, e1, e2, e3⟩
      · exact least _ (b _ e1)
      · have := thr_gt (rows l hl) e2
        omega
    rcases was e with ⟨_, rfl⟩ | e
    · exact low
    · have := h.od q s e _ m
      have : s ≤ t := this
      omega
/-! ### rows in the heap -/
def kOf (r : Int × Str × Str) : HeapM.Key := (r.1, r.2.1.cps.toList, r.2.2.cps.toList)
theorem heapA_congr {k k' : Addr → HeapM.Key} {ts : List Addr} (e : ∀ b ∈ ts, k b = k' b) (h : HeapM.HeapA k ts) : HeapM.HeapA k' ts := by
  have at' : ∀ i, i < ts.length → k (ts.getD i 0) = k' (ts.getD i 0) := fun i hi => by
    rw [List.getD_eq_getElem?_getD, List.getElem?_eq_getElem hi]
    exact e _ (List.getElem_mem hi)
  intro i h0 hi ht
  have hp : HeapP.par i < ts.length := by unfold HeapP.par; omega
  have z := h i h0 hi ht
  show HeapM.keyLt (k' _) (k' _) = false
  rw [← at' i hi, ← at' _ hp]
  exact z
theorem key_le {a b : Int × Str × Str} (h : HeapM.keyLt (kOf b) (kOf a) = false) : a.1 ≤ b.1 := by
  unfold HeapM.keyLt at h
  split at h
  · rename_i e
    have e : b.1 = a.1 := e
    omega
  · have := of_decide_eq_false h
    have : ¬ b.1 < a.1 := this
    omega
end FP

set_option Elab.async false
set_option linter.all false
set_option maxRecDepth 100000
set_option maxHeartbeats 4000000
/-! One more break. -/
namespace FP
open PySem FD
def brk (F : Fire) (b : Str) (m : Int) : Fire := { F with stop := fun p => if b = p then least (F.stop p) (some m) else F.stop p }
theorem ahead_least (a : Option Int) (m t : Int) : ahead (least a (some m)) t = (ahead a t && decide (t < m)) := by
  cases a with
  | none => show decide (t < m) = (true && decide (t < m)); rw [Bool.true_and]
  | some c =>
    show ahead (if m < c then some m else some c) t = (decide (t < c) && decide (t < m))
    by_cases h : m < c
    · rw [if_pos h]
      show decide (t < m) = _
      by_cases z : t < m
      · rw [decide_eq_true z, decide_eq_true (show t < c by omega)]; rfl
      · rw [decide_eq_false z, Bool.and_false]
    · rw [if_neg h]
      show decide (t < c) = _
      by_cases z : t < c
      · rw [decide_eq_true z, decide_eq_true (show t < m by omega)]; rfl
      · rw [decide_eq_false z, Bool.false_and]
theorem brk_at (F : Fire) (b : Str) (m t : Int) : ahead ((brk F b m).stop b) t = (ahead (F.stop b) t && decide (t < m)) := by
  show ahead (if b = b then least (F.stop b) (some m) else F.stop b) t = _
  rw [if_pos rfl, ahead_least]
theorem brk_ne (F : Fire) {b p : Str} (m : Int) (h : p ≠ b) : (brk F b m).stop p = F.stop p := if_neg fun z => h z.symm
theorem brk_ahead {F : Fire} {b p : Str} {m t : Int} (h : ahead ((brk F b m).stop p) t = true) : ahead (F.stop p) t = true ∧ (p = b → t < m) := by
  by_cases c : p = b
  · subst c
    rw [brk_at, Bool.and_eq_true] at h
    exact ⟨h.1, fun _ => of_decide_eq_true h.2⟩
  · rw [brk_ne F m c] at h
    exact ⟨h, fun z => absurd z c⟩
theorem ahead_brk {F : Fire} {b p : Str} {m t : Int} (h : ahead (F.stop p) t = true) (l : p = b → t < m) : ahead ((brk F b m).stop p) t = true := by
  by_cases c : p = b
  · subst c
    rw [brk_at, h, decide_eq_true (l rfl)]
    rfl
  · rw [brk_ne F m c]
    exact h
theorem brk_ok {F : Fire} {ps : List Str} (ok : Ok F ps) (b : Str) (m : Int) : Ok (brk F b m) ps := ⟨ok.nn, ok.rows, ok.sp, ok.ends⟩
theorem brk_reach {F : Fire} {b p : Str} {m t : Int} (h : Reach (brk F b m) p t) : Reach F p t := by
  induction h with
  | start a c => exact .start a (brk_ahead c).1
  | step _ hl ht ha ih => exact .step ih hl ht (brk_ahead ha).1
/-- at its first minute a break keeps a place as one from the beginning -/
theorem brk_zero {F : Fire} {b p : Str} {m t : Int} (hm : first F b = some m) (h : Reach (brk F b m) p t) : Reach (brk F b 0) p t := by
  have never : ∀ {t : Int}, Reach F b t → t < m → False := fun r l => by
    have := (first_some hm).2 _ r
    omega
  induction h with
  | start a c =>
    obtain ⟨c1, c2⟩ := brk_ahead c
    refine .start a (ahead_brk c1 fun z => ?_)
    exact (never (by rw [← z]; exact .start a c1) (c2 z)).elim
  | step r hl ht ha ih =>
    obtain ⟨c1, c2⟩ := brk_ahead ha
    refine .step ih hl ht (ahead_brk c1 fun z => ?_)
    exact (never (by rw [← z]; exact .step (brk_reach r) hl ht c1) (c2 z)).elim
/-- and a minute later it keeps none -/
theorem brk_late {F : Fire} {ps : List Str} (ok : Ok F ps) {b : Str} {m : Int} (hm : first F b = some m) (p : Str) : first (brk F b (m + 1)) p = first F p := by
  have okb := brk_ok ok b (m + 1)
  have early : ∀ {p : Str} {t : Int}, Reach F p t → t ≤ m → Reach (brk F b (m + 1)) p t := fun {p t} r => by
    induction r with
    | start a c => exact fun l => .start a (ahead_brk c fun _ => by omega)
    | @step l t t' _ hl ht ha ih =>
      intro le
      have := thr_gt (ok.rows l hl) ht
      exact .step (ih (by omega)) hl ht (ahead_brk ha fun _ => by omega)
  have rb : Reach (brk F b (m + 1)) b m := early (first_some hm).1 (Int.le_refl _)
  have is : IsFire F (first (brk F b (m + 1))) := by
    refine ⟨fun p t h => brk_reach (first_some h).1, fun p t hp a => ?_, fun l hl t t' e1 e2 e3 => ?_⟩
    · by_cases c : p = b
      · subst c
        obtain ⟨s, e, le⟩ := first_le okb rb
        have := (first_some hm).2 t (.start hp a)
        exact ⟨s, e, by omega⟩
      · exact first_le okb (.start hp (ahead_brk a fun z => absurd z c))
    · by_cases c : l.t = b
      · obtain ⟨s, e, le⟩ := first_le okb rb
        have := (first_some hm).2 t' (by rw [← c]; exact .step (brk_reach (first_some e1).1) hl e2 e3)
        rw [c]
        exact ⟨s, e, by omega⟩
      · exact first_le okb (.step (first_some e1).1 hl e2 (ahead_brk e3 fun z => absurd z c))
  exact is_first ok is p
/-- a break of a place that does not burn changes nothing -/
theorem brk_none {F : Fire} {ps : List Str} (ok : Ok F ps) {b : Str} (m : Int) (hn : first F b = none) (p : Str) : first (brk F b m) p = first F p := by
  have okb := brk_ok ok b m
  have no : ∀ {t : Int}, Reach F b t → False := fun r => by
    obtain ⟨s, e, _⟩ := first_le ok r
    rw [hn] at e
    cases e
  have is : IsFire F (first (brk F b m)) := by
    refine ⟨fun p t h => brk_reach (first_some h).1, fun p t hp a => ?_, fun l hl t t' e1 e2 e3 => ?_⟩
    · by_cases c : p = b
      · exact (no (by rw [← c]; exact .start hp a)).elim
      · exact first_le okb (.start hp (ahead_brk a fun z => absurd z c))
    · by_cases c : l.t = b
      · exact (no (by rw [← c]; exact .step (brk_reach (first_some e1).1) hl e2 e3)).elim
      · exact first_le okb (.step (first_some e1).1 hl e2 (ahead_brk e3 fun z => absurd z c))
  exact is_first ok is p
end FP

set_option Elab.async false
set_option linter.all false
set_option maxRecDepth 100000
set_option maxHeartbeats 4000000
/-! One fire ahead of another. -/
namespace FP
open PySem FD
def RowLe (a b : List (Option Int)) : Prop := ∀ w y, num b w = some y → ∃ x, num a w = some x ∧ x ≤ y
theorem RowLe.refl (a : List (Option Int)) : RowLe a a := fun _ y h => ⟨y, h, Int.le_refl _⟩
theorem thr_row {ws : Wt} {a b : List (Option Int)} {m y : Int} (h : RowLe a b) (e : thr ws b m = some y) : ∃ x, thr ws a m = some x ∧ x ≤ y := by
  obtain ⟨s, hs, c⟩ := thr_mem e
  unfold cand at c
  obtain ⟨n, hn, rfl⟩ := Option.map_eq_some_iff.mp c
  obtain ⟨x, hx, le⟩ := h _ _ hn
  obtain ⟨t, h1, h2⟩ := thr_le (row := a) (x := s + x) hs (by unfold cand; rw [hx]; rfl)
  exact ⟨t, h1, by omega⟩
/-- F is nowhere behind G -/
structure Faster (F G : Fire) : Prop where
  ws : F.ws = G.ws
  st : ∀ r ∈ G.st, r ∈ F.st
  ls : ∀ l ∈ G.ls, ∃ k ∈ F.ls, k.o = l.o ∧ k.t = l.t ∧ RowLe k.row l.row
  stop : ∀ p t, ahead (G.stop p) t = true → ahead (F.stop p) t = true
theorem Faster.reach {F G : Fire} (h : Faster F G) {p : Str} {t : Int} (r : Reach G p t) : ∃ s, s ≤ t ∧ Reach F p s := by
  induction r with
  | start a c => exact ⟨_, Int.le_refl _, .start (h.st _ a) (h.stop _ _ c)⟩
  | @step l t t' _ hl ht ha ih =>
    obtain ⟨s, le, rs⟩ := ih
    obtain ⟨k, hk, e1, e2, rl⟩ := h.ls l hl
    rw [← h.ws] at ht
    obtain ⟨y, hy, ly⟩ := thr_mono le ht
    obtain ⟨x, hx, lx⟩ := thr_row rl hy
    refine ⟨x, Int.le_trans lx ly, ?_⟩
    rw [← e1] at rs
    rw [← e2]
    exact .step rs hk hx (by rw [e2]; exact ahead_mono (Int.le_trans lx ly) (h.stop _ _ ha))
theorem Faster.first {F G : Fire} {ps : List Str} (ok : Ok F ps) (h : Faster F G) {p : Str} {t : Int} (e : first G p = some t) : ∃ s, first F p = some s ∧ s ≤ t := by
  obtain ⟨s, le, r⟩ := h.reach (first_some e).1
  obtain ⟨u, eu, lu⟩ := first_le ok r
  exact ⟨u, eu, Int.le_trans lu le⟩
theorem Faster.none {F G : Fire} {ps : List Str} (ok : Ok F ps) (h : Faster F G) {p : Str} (e : FP.first F p = none) : FP.first G p = none := by
  cases q : FP.first G p with
  | none => rfl
  | some t =>
    obtain ⟨s, es, _⟩ := h.first ok q
    rw [e] at es
    cases es
theorem Faster.brk {F G : Fire} (h : Faster F G) {b : Str} {m m' : Int} (le : m' ≤ m) : Faster (FP.brk F b m) (FP.brk G b m') := by
  refine ⟨h.ws, h.st, h.ls, fun p t a => ?_⟩
  obtain ⟨a1, a2⟩ := brk_ahead a
  exact ahead_brk (h.stop p t a1) fun z => by have := a2 z; omega
theorem Faster.refl (F : Fire) : Faster F F := ⟨rfl, fun _ h => h, fun l hl => ⟨l, hl, rfl, rfl, RowLe.refl _⟩, fun _ _ h => h⟩
end FP

set_option Elab.async false
set_option linter.all false
set_option maxRecDepth 100000
namespace DB
open PySem PySem.Spec PyProof.Rows L2
/-- what == of two dicts of flat items says -/
def eqD (ks ls : List (Key × V)) : Bool := (ks.length == ls.length) && ks.all fun p => match valV ls p.1 with
  | none => false
  | some u => eqV p.2 u
def Flat (ks : List (Key × V)) : Prop := ∀ p ∈ ks, flatV p.2 = true
theorem hits {P : Program} {w : World} {A : Around} {s : Shared} {ls : List (Key × V)} {vb : List (Key × Value)} (rb : KV ls vb) (fl : ∀ k u, valV ls k = some u → flatV u = true) {ks : List (Key × V)} {va : List (Key × Value)} (ra : KV ks va) : Flat ks → PySem.W.KeqHitsP P w A s vb va (ks.all fun p => match valV ls p.1 with
  | none => false
  | some u => eqV p.2 u) := by
  unfold KV at ra
  induction ra with
  | nil => intro _; exact .nil
  | @cons p q ps qs h t k =>
    intro hp
    obtain ⟨h1, h2⟩ := h
    obtain ⟨key, v⟩ := q
    have h1' : p.1 = key := h1
    have ih := k (fun p' hm => hp p' (List.mem_cons_of_mem _ hm))
    have rr := rb.val p.1
    rw [List.all_cons]
    cases hv : valV ls p.1 with
    | none =>
      rw [hv, h1'] at rr
      have hn : valueAt vb key = none := by
        cases e : valueAt vb key with
        | none => rfl
        | some y => rw [e] at rr; cases rr
      exact .miss hn
    | some u =>
      rw [hv] at rr
      obtain ⟨y, hy, ry⟩ := rr.some_of
      rw [h1'] at hy
      exact .hit hy (eqAt_V h2 ry (hp p List.mem_cons_self) (fl _ _ hv)).eqP ih
theorem flat_val {ls : List (Key × V)} (h : Flat ls) {k : Key} {u : V} (e : valV ls k = some u) : flatV u = true := by
  unfold valV at e
  obtain ⟨kv, h1, rfl⟩ := Option.map_eq_some_iff.mp e
  exact h kv (List.mem_of_find?_eq_some h1)
section
variable {X : Cx} {pins : List (Addr × Obj)} {σ : L2.St} {H : Hp} {s : Shared}
theorem dict_run (I : Inv X pins σ H s) {A : Around} (hu : A.units < cLine) {a b : Addr} {ks ls : List (Key × V)} (ha : H a = some (.dK ks)) (hb : H b = some (.dK ls)) (fk : Flat ks) (fl : Flat ls) (E Q : Value → Shared → Prop) (q : Q (.bool (eqD ks ls)) s) : wpAny (model X.prog X.w) A (richCompare .Eq (.ref a) (.ref b)) Q E s := by
  obtain ⟨_, ya, va, ra, da⟩ := (show ObjOk X.prog X.w H s.heap a (.dK ks) from I.hok a _ ha)
  obtain ⟨_, yb, vb, rb, db⟩ := (show ObjOk X.prog X.w H s.heap b (.dK ls) from I.hok b _ hb)
  refine PySem.W.rcP_dicts (knd := mixKind X.prog X.w) ya yb da db hu (fun _ => hits rb (fun k u e => flat_val fl e) ra fk) E Q ?_
  rw [← ra.length, ← rb.length]
  exact q
def rEqTD (K : PySem.W.Frag) : R2 := fun x y H Q => ∃ (p q a0 a1 b0 b1 : Addr) (k0 k1 l0 l1 : List (Key × V)), x = .ref p ∧ y = .ref q ∧ SqT K H p [.ref a0, .ref a1] ∧ SqT K H q [.ref b0, .ref b1] ∧ a0 ≠ b0 ∧ a1 ≠ b1 ∧ H a0 = some (.dK k0) ∧ H a1 = some (.dK k1) ∧ H b0 = some (.dK l0) ∧ H b1 = some (.dK l1) ∧ Flat k0 ∧ Flat k1 ∧ Flat l0 ∧ Flat l1 ∧ Q (.bl (eqD k0 l0 && eqD k1 l1)) H
theorem op_eqTD (hu : X.A.units + 64 < cLine) : OpR X (compareOp .Eq) (rEqTD X.K) := by
  intro pins s σ H x y v u Q I rx ry h
  obtain ⟨p, q, a0, a1, b0, b1, k0, k1, l0, l1, rfl, rfl, hp, hq, n0, n1, h0, h1, g0, g1, f0, f1, e0, e1, qq⟩ := h
  cases (show v = Value.ref p from rx)
  cases (show u = Value.ref q from ry)
  obtain ⟨us, r1, p1, _⟩ := I.tuple hp
  obtain ⟨ws, r2, p2, _⟩ := I.tuple hq
  cases r1 with
  | cons x0 r1 =>
    cases r1 with
    | cons x1 r1 =>
      cases r1
      cases r2 with
      | cons y0 r2 =>
        cases r2 with
        | cons y1 r2 =>
          cases r2
          rename_i ux0 ux1 uy0 uy1
          cases (show ux0 = Value.ref a0 from x0)
          cases (show ux1 = Value.ref a1 from x1)
          cases (show uy0 = Value.ref b0 from y0)
          cases (show uy1 = Value.ref b1 from y1)
          have u1 : X.A.in1.units < cLine := by show X.A.units + 1 < cLine; omega
          refine PySem.SeqAt.rcIn_tuples (e := fun j => if j = 0 then eqD k0 l0 else eqD k1 l1) p1 p2 (by omega) (fun j j1 j2 => ?_) ⟨.bl (eqD k0 l0 && eqD k1 l1), H, I, ?_, qq⟩
          · match j, j1 with
            | 0, _ => exact PySem.SeqAt.EqIn.of_refs n0 fun E Q q => dict_run I u1 h0 g0 f0 e0 E Q q
            | 1, _ => exact PySem.SeqAt.EqIn.of_refs n1 fun E Q q => dict_run I u1 h1 g1 f1 e1 E Q q
          · have e2 : (List.range (min #[Value.ref a0, Value.ref a1].size #[Value.ref b0, Value.ref b1].size)) = [0, 1] := rfl
            show Value.bool _ = Value.bool _
            rw [e2]
            simp [List.all_cons]
def rEqLD (K : PySem.W.Frag) : R2 := fun x y H Q => ∃ (p q a0 a1 b0 b1 : Addr) (k0 k1 l0 l1 : List (Key × V)), x = .ref p ∧ y = .ref q ∧ SqL K H p [.ref a0, .ref a1] ∧ SqL K H q [.ref b0, .ref b1] ∧ a0 ≠ b0 ∧ a1 ≠ b1 ∧ H a0 = some (.dK k0) ∧ H a1 = some (.dK k1) ∧ H b0 = some (.dK l0) ∧ H b1 = some (.dK l1) ∧ Flat k0 ∧ Flat k1 ∧ Flat l0 ∧ Flat l1 ∧ Q (.bl (eqD k0 l0 && eqD k1 l1)) H
theorem op_eqLD (hu : X.A.units + 64 < cLine) : OpR X (compareOp .Eq) (rEqLD X.K) := by
  intro pins s σ H x y v u Q I rx ry h
  obtain ⟨p, q, a0, a1, b0, b1, k0, k1, l0, l1, rfl, rfl, hp, hq, n0, n1, h0, h1, g0, g1, f0, f1, e0, e1, qq⟩ := h
  cases (show v = Value.ref p from rx)
  cases (show u = Value.ref q from ry)
  obtain ⟨us, r1, p1, _⟩ := I.list hp
  obtain ⟨ws, r2, p2, _⟩ := I.list hq
  cases r1 with
  | cons x0 r1 =>
    cases r1 with
    | cons x1 r1 =>
      cases r1
      cases r2 with
      | cons y0 r2 =>
        cases r2 with
        | cons y1 r2 =>
          cases r2
          rename_i ux0 ux1 uy0 uy1
          cases (show ux0 = Value.ref a0 from x0)
          cases (show ux1 = Value.ref a1 from x1)
          cases (show uy0 = Value.ref b0 from y0)
          cases (show uy1 = Value.ref b1 from y1)
          have u1 : X.A.in1.units < cLine := by show X.A.units + 1 < cLine; omega
          refine PySem.SeqAt.rcIn_lists (e := fun j => if j = 0 then eqD k0 l0 else eqD k1 l1) p1.isList p2.isList rfl (by omega) (fun j j1 j2 => ?_) ⟨.bl (eqD k0 l0 && eqD k1 l1), H, I, ?_, qq⟩
          · match j, j1 with
            | 0, _ => exact PySem.SeqAt.EqIn.of_refs n0 fun E Q q => dict_run I u1 h0 g0 f0 e0 E Q q
            | 1, _ => exact PySem.SeqAt.EqIn.of_refs n1 fun E Q q => dict_run I u1 h1 g1 f1 e1 E Q q
          · have e2 : (List.range #[Value.ref a0, Value.ref a1].size) = [0, 1] := rfl
            show Value.bool _ = Value.bool _
            rw [e2]
            simp [List.all_cons]
end
end DB

set_option Elab.async false
set_option linter.all false
set_option maxRecDepth 100000
namespace DB
open PySem PySem.Spec PyProof.Rows L2 FD
theorem pigeon {α : Type} [DecidableEq α] : ∀ {l m : List α}, l.Nodup → (∀ x ∈ l, x ∈ m) → l.length ≤ m.length
  | [], _, _, _ => Nat.zero_le _
  | a :: l, m, nd, h => by
    rw [List.nodup_cons] at nd
    have ha := h a List.mem_cons_self
    have ih := pigeon (l := l) (m := m.erase a) nd.2 (fun x hx => (List.mem_erase_of_ne (fun e : x = a => nd.1 (by rw [← e]; exact hx))).mpr (h x (List.mem_cons_of_mem _ hx)))
    have := List.length_erase_of_mem ha
    have : 0 < m.length := List.length_pos_of_mem ha
    rw [List.length_cons]
    omega
/-- minutes by place: keys are texts, each once -/
def TabN (H : Hp) (d : Addr) (f : Str → Option Int) : Prop := ∃ kvs : List (Key × V), H d = some (.dK kvs) ∧ kvs.length ≤ 100000 ∧ (∀ p : Str, valV kvs (.inr p) = (f p).map V.int) ∧ (∀ e ∈ kvs, ∃ (p : Str) (t : Int), e = (.inr p, .int t)) ∧ (kvs.map (·.1)).Nodup
theorem TabN.tab {H : Hp} {d : Addr} {f : Str → Option Int} (h : TabN H d f) : Tab H d f := by
  obtain ⟨kvs, h1, h2, h3, _⟩ := h
  exact ⟨kvs, h1, h2, h3⟩
theorem val_mem : ∀ {ks : List (Key × V)}, (ks.map (·.1)).Nodup → ∀ e ∈ ks, valV ks e.1 = some e.2
  | k :: ks, nd, e, he => by
    rw [List.map_cons, List.nodup_cons] at nd
    unfold valV
    rw [List.find?_cons]
    rcases List.mem_cons.mp he with rfl | he
    · simp
    · have ne : k.1 ≠ e.1 := fun z => nd.1 (by rw [z]; exact List.mem_map.mpr ⟨e, he, rfl⟩)
      have := val_mem nd.2 e he
      unfold valV at this
      simp [ne, this]
theorem mem_val {ks : List (Key × V)} {k : Key} {v : V} (h : valV ks k = some v) : ∃ e ∈ ks, e.1 = k ∧ e.2 = v := by
  unfold valV at h
  obtain ⟨kv, h1, h2⟩ := Option.map_eq_some_iff.mp h
  have h3 := List.find?_some h1
  exact ⟨kv, List.mem_of_find?_eq_some h1, of_decide_eq_true h3, h2⟩
theorem putK_keys {kvs : List (Key × V)} {k : Key} {v : V} (h : (kvs.map (·.1)).Nodup) : ((putK kvs k v).map (·.1)).Nodup := by
  unfold putK
  split
  · rw [List.map_map, show ((fun x : Key × V => x.1) ∘ fun kv : Key × V => if kv.1 = k then (kv.1, v) else kv) = (·.1) from funext fun kv => by
      show (if kv.1 = k then (kv.1, v) else kv).1 = kv.1
      split <;> rfl]
    exact h
  · rename_i c
    rw [List.map_append, List.nodup_append]
    refine ⟨h, by simp, fun x hx y hy e => c ?_⟩
    rw [List.mem_singleton.mp hy] at e
    obtain ⟨kv, hkv, e2⟩ := List.mem_map.mp hx
    exact List.any_eq_true.mpr ⟨kv, hkv, decide_eq_true (e2.trans e)⟩
def Ints (kvs : List (Key × V)) : Prop := ∀ e ∈ kvs, ∃ (p : Str) (t : Int), e = (.inr p, .int t)
theorem putK_ints {kvs : List (Key × V)} {q : Str} {u : Int} (h : Ints kvs) : Ints (putK kvs (.inr q) (.int u)) := fun e he => by
  unfold putK at he
  split at he
  · obtain ⟨kv, hkv, rfl⟩ := List.mem_map.mp he
    obtain ⟨p, t, rfl⟩ := h kv hkv
    by_cases c : (Sum.inr p : Key) = Sum.inr q
    · exact ⟨p, u, by show (if (Sum.inr p : Key) = Sum.inr q then _ else _) = _; rw [if_pos c]⟩
    · exact ⟨p, t, by show (if (Sum.inr p : Key) = Sum.inr q then _ else _) = _; rw [if_neg c]⟩
  · rcases List.mem_append.mp he with he | he
    · exact h e he
    · exact ⟨q, u, List.mem_singleton.mp he⟩
theorem Ints.flat {kvs : List (Key × V)} (h : Ints kvs) : Flat kvs := fun e he => by
  obtain ⟨p, t, rfl⟩ := h e he
  rfl
theorem eqD_same {ks ls : List (Key × V)} {f g : Str → Option Int} (fk : ∀ p : Str, valV ks (.inr p) = (f p).map V.int) (fl : ∀ p : Str, valV ls (.inr p) = (g p).map V.int) (tk : ∀ e ∈ ks, ∃ (p : Str) (t : Int), e = (.inr p, .int t)) (tl : ∀ e ∈ ls, ∃ (p : Str) (t : Int), e = (.inr p, .int t)) (nk : (ks.map (·.1)).Nodup) (nl : (ls.map (·.1)).Nodup) : eqD ks ls = true ↔ ∀ p, f p = g p := by
  have at_ : ∀ {ks : List (Key × V)} {f : Str → Option Int}, (∀ p : Str, valV ks (.inr p) = (f p).map V.int) → (ks.map (·.1)).Nodup → ∀ {p : Str} {t : Int}, (Sum.inr p, V.int t) ∈ ks → f p = some t := fun {ks f} fk nk {p t} h => by
    have := val_mem nk _ h
    rw [fk p] at this
    obtain ⟨u, hu, e⟩ := Option.map_eq_some_iff.mp this
    rw [hu, V.int.inj e]
  have key : ∀ {ks : List (Key × V)} {f : Str → Option Int}, (∀ p : Str, valV ks (.inr p) = (f p).map V.int) → ∀ {p : Str} {t : Int}, f p = some t → ∃ e ∈ ks, e.1 = Sum.inr p := fun {ks f} fk {p t} h => by
    obtain ⟨e, he, e1, _⟩ := mem_val (ks := ks) (k := Sum.inr p) (v := V.int t) (by rw [fk p, h]; rfl)
    exact ⟨e, he, e1⟩
  unfold eqD
  rw [Bool.and_eq_true, List.all_eq_true, beq_iff_eq]
  constructor
  · rintro ⟨len, al⟩ p
    have fwd : ∀ {q : Str} {t : Int}, f q = some t → g q = some t := fun {q t} h => by
      obtain ⟨e, he, e1⟩ := key fk h
      obtain ⟨q', t', rfl⟩ := tk e he
      cases e1
      have := at_ fk nk he
      rw [h] at this
      cases this
      have a1 := al _ he
      cases hg : g q with
      | none => rw [fl q, hg] at a1; cases a1
      | some u =>
        rw [fl q, hg] at a1
        have a1 : eqV (.int t) (.int u) = true := a1
        have : t = u := by simpa [eqV] using a1
        rw [this]
    cases hf : f p with
    | some t => exact (fwd hf).symm
    | none =>
      cases hg : g p with
      | none => rfl
      | some u =>
        exfalso
        obtain ⟨e, he, e1⟩ := key fl hg
        have nin : (Sum.inr p : Key) ∉ ks.map (·.1) := fun hm => by
          obtain ⟨e2, he2, e3⟩ := List.mem_map.mp hm
          obtain ⟨q', t', rfl⟩ := tk e2 he2
          cases e3
          rw [at_ fk nk he2] at hf
          cases hf
        have sub : ∀ x ∈ (Sum.inr p : Key) :: ks.map (·.1), x ∈ ls.map (·.1) := fun x hx => by
          rcases List.mem_cons.mp hx with rfl | hx
          · exact List.mem_map.mpr ⟨e, he, e1⟩
          · obtain ⟨e2, he2, rfl⟩ := List.mem_map.mp hx
            obtain ⟨q', t', rfl⟩ := tk e2 he2
            obtain ⟨e3, he3, e4⟩ := key fl (fwd (at_ fk nk he2))
            exact List.mem_map.mpr ⟨e3, he3, e4⟩
        have := pigeon (List.nodup_cons.mpr ⟨nin, nk⟩) sub
        rw [List.length_cons, List.length_map, List.length_map] at this
        omega
  · intro same
    have sub : ∀ {ks ls : List (Key × V)} {f g : Str → Option Int}, (∀ p : Str, valV ks (.inr p) = (f p).map V.int) → (∀ p : Str, valV ls (.inr p) = (g p).map V.int) → (∀ e ∈ ks, ∃ (p : Str) (t : Int), e = (.inr p, .int t)) → (ks.map (·.1)).Nodup → (∀ p, f p = g p) → (ks.map (·.1)).length ≤ (ls.map (·.1)).length := fun {ks ls f g} fk fl tk nk same => pigeon nk fun x hx => by
      obtain ⟨e2, he2, rfl⟩ := List.mem_map.mp hx
      obtain ⟨q', t', rfl⟩ := tk e2 he2
      have := at_ fk nk he2
      rw [same] at this
      obtain ⟨e3, he3, e4⟩ := key fl this
      exact List.mem_map.mpr ⟨e3, he3, e4⟩
    refine ⟨?_, fun e he => ?_⟩
    · have h1 := sub fk fl tk nk same
      have h2 := sub fl fk tl nl (fun p => (same p).symm)
      rw [List.length_map, List.length_map] at h1 h2
      omega
    · obtain ⟨q', t', rfl⟩ := tk e he
      have := at_ fk nk he
      rw [same] at this
      show (match valV ls (Sum.inr q') with | none => false | some u => eqV (V.int t') u) = true
      rw [fl q', this]
      show eqV (.int t') (.int t') = true
      simp [eqV]
end DB

set_option Elab.async false
set_option linter.all false
set_option maxRecDepth 100000
set_option maxHeartbeats 4000000
/-! Ways by layers: a place that is come to in r steps and in no fewer stands at the end of a way of layer r. -/
namespace WT
open PySem
def lastW (w : List Str) : Str := w.getLastD ""
/-- come to in n steps, off the places of B -/
inductive DR (E : List (Str × Str)) (S B : List Str) : Nat → Str → Prop
  | zero {s : Str} : s ∈ S → s ∉ B → DR E S B 0 s
  | succ {n : Nat} {o t : Str} : DR E S B n o → (o, t) ∈ E → t ∉ B → DR E S B (n + 1) t
def Min (E : List (Str × Str)) (S B : List Str) (n : Nat) (p : Str) : Prop := DR E S B n p ∧ ∀ m, m < n → ¬ DR E S B m p
def stepE (B : List Str) (ws : List (List Str)) (w : List Str) (acc : List (List Str)) (e : Str × Str) : List (List Str) := if e.1 = lastW w ∧ e.2 ∉ B ∧ e.2 ∉ (ws ++ acc).map lastW ∧ e.2 ∉ w then acc ++ [w ++ [e.2]] else acc
def stepW (E : List (Str × Str)) (B : List Str) (ws acc : List (List Str)) (w : List Str) : List (List Str) := E.foldl (stepE B ws w) acc
def layer (E : List (Str × Str)) (B : List Str) (ws : List (List Str)) : List (List Str) := ws.foldl (stepW E B ws) []
structure Inv (E : List (Str × Str)) (S B : List Str) (r : Nat) (ws : List (List Str)) : Prop where
  way : ∀ w ∈ ws, w.length = r + 1 ∧ (∀ j p, w[j]? = some p → DR E S B j p) ∧ ∀ j p q, w[j]? = some p → w[j + 1]? = some q → (p, q) ∈ E
  all : ∀ p, Min E S B r p → ∃ w ∈ ws, lastW w = p
theorem last_at {w : List Str} {r : Nat} (h : w.length = r + 1) : w[r]? = some (lastW w) := by
  unfold lastW
  cases w with
  | nil => cases h
  | cons x xs =>
    have l : (x :: xs).length - 1 = r := by rw [h]; rfl
    rw [← l, ← List.getLast?_eq_getElem?]
    rw [List.getLast?_eq_some_getLast (List.cons_ne_nil x xs)]
    rfl
theorem last_app (w : List Str) (p : Str) : lastW (w ++ [p]) = p := by
  unfold lastW
  simp
section
variable {E : List (Str × Str)} {S B : List Str} {r : Nat} {ws : List (List Str)}
theorem Inv.last (h : Inv E S B r ws) {w : List Str} (hw : w ∈ ws) : DR E S B r (lastW w) := by
  obtain ⟨l, f, _⟩ := h.way w hw
  exact f r _ (last_at l)
/-- what an edge adds -/
theorem stepE_keep (w : List Str) (acc : List (List Str)) (e : Str × Str) : ∀ v ∈ acc, v ∈ stepE B ws w acc e := fun v hv => by
  unfold stepE
  split
  · exact List.mem_append_left _ hv
  · exact hv
theorem stepW_keep (w : List Str) : ∀ (E' : List (Str × Str)) (acc : List (List Str)), ∀ v ∈ acc, v ∈ E'.foldl (stepE B ws w) acc
  | [], _, v, hv => hv
  | e :: E', acc, v, hv => stepW_keep w E' _ v (stepE_keep w acc e v hv)
def Good (E : List (Str × Str)) (S B : List Str) (r : Nat) (acc : List (List Str)) : Prop := ∀ w ∈ acc, w.length = r + 1 ∧ (∀ j p, w[j]? = some p → DR E S B j p) ∧ ∀ j p q, w[j]? = some p → w[j + 1]? = some q → (p, q) ∈ E
theorem stepE_good (h : Inv E S B r ws) {w : List Str} (hw : w ∈ ws) {acc : List (List Str)} (g : Good E S B (r + 1) acc) {e : Str × Str} (he : e ∈ E) : Good E S B (r + 1) (stepE B ws w acc e) := by
  unfold stepE
  split
  · rename_i c
    intro v hv
    rcases List.mem_append.mp hv with hv | hv
    · exact g v hv
    · rw [List.mem_singleton.mp hv]
      obtain ⟨l, f, f2⟩ := h.way w hw
      refine ⟨by rw [List.length_append, l] <;> rfl, fun j p hj => ?_, fun j p q hj hq => ?_⟩
      · by_cases q : j < w.length
        · rw [List.getElem?_append_left q] at hj
          exact f j p hj
        · have lt := (List.getElem?_eq_some_iff.mp hj).1
          rw [List.length_append, List.length_singleton] at lt
          obtain rfl : j = w.length := by omega
          rw [List.getElem?_append_right (Nat.le_refl _), Nat.sub_self] at hj
          cases hj
          rw [l]
          exact .succ (h.last hw) (by rw [← c.1]; exact he) c.2.1
      · have lt := (List.getElem?_eq_some_iff.mp hq).1
        rw [List.length_append, List.length_singleton] at lt
        rw [List.getElem?_append_left (by omega)] at hj
        by_cases z : j + 1 < w.length
        · rw [List.getElem?_append_left z] at hq
          exact f2 j p q hj hq
        · have ej : j + 1 = w.length := by omega
          rw [ej, List.getElem?_append_right (Nat.le_refl _), Nat.sub_self] at hq
          cases hq
          rw [show j = r by omega, last_at l] at hj
          cases hj
          rw [← c.1]
          exact he
  · exact g
theorem stepW_good (h : Inv E S B r ws) {w : List Str} (hw : w ∈ ws) : ∀ (E' : List (Str × Str)) (acc : List (List Str)), (∀ e ∈ E', e ∈ E) → Good E S B (r + 1) acc → Good E S B (r + 1) (E'.foldl (stepE B ws w) acc)
  | [], _, _, g => g
  | e :: E', acc, he, g => stepW_good h hw E' _ (fun x hx => he x (List.mem_cons_of_mem _ hx)) (stepE_good h hw g (he e List.mem_cons_self))
theorem layer_good (h : Inv E S B r ws) : ∀ (vs acc : List (List Str)), (∀ w ∈ vs, w ∈ ws) → Good E S B (r + 1) acc → Good E S B (r + 1) (vs.foldl (stepW E B ws) acc)
  | [], _, _, g => g
  | w :: vs, acc, hv, g => layer_good h vs _ (fun x hx => hv x (List.mem_cons_of_mem _ hx)) (stepW_good h (hv w List.mem_cons_self) E acc (fun _ h => h) g)
/-- an edge to a new place leaves a way to it -/
theorem stepE_has (h : Inv E S B r ws) {w : List Str} (hw : w ∈ ws) {acc : List (List Str)} {p : Str} (m : Min E S B (r + 1) p) (hb : p ∉ B) : ∃ v ∈ stepE B ws w acc (lastW w, p), lastW v = p := by
  unfold stepE
  by_cases c : p ∈ acc.map lastW
  · obtain ⟨v, hv, e⟩ := List.mem_map.mp c
    refine ⟨v, ?_, e⟩
    split
    · exact List.mem_append_left _ hv
    · exact hv
  · have c1 : p ∉ (ws ++ acc).map lastW := fun q => by
      rw [List.map_append, List.mem_append] at q
      rcases q with q | q
      · obtain ⟨v, hv, e⟩ := List.mem_map.mp q
        have := h.last hv
        rw [e] at this
        exact m.2 r (Nat.lt_succ_self r) this
      · exact c q
    have c2 : p ∉ w := fun q => by
      obtain ⟨j, hj⟩ := List.mem_iff_getElem?.mp q
      obtain ⟨l, f, _⟩ := h.way w hw
      have := (List.getElem?_eq_some_iff.mp hj).1
      exact m.2 j (by omega) (f j p hj)
    rw [if_pos ⟨rfl, hb, c1, c2⟩]
    exact ⟨_, List.mem_append_right _ List.mem_cons_self, last_app _ _⟩
theorem stepW_has (h : Inv E S B r ws) {w : List Str} (hw : w ∈ ws) {p : Str} (m : Min E S B (r + 1) p) (hb : p ∉ B) : ∀ (E' : List (Str × Str)) (acc : List (List Str)), (lastW w, p) ∈ E' → ∃ v ∈ E'.foldl (stepE B ws w) acc, lastW v = p
  | [], _, q => absurd q List.not_mem_nil
  | e :: E', acc, q => by
    rcases List.mem_cons.mp q with q | q
    · subst q
      obtain ⟨v, hv, hl⟩ := stepE_has (acc := acc) h hw m hb
      exact ⟨v, stepW_keep w E' _ v hv, hl⟩
    · exact stepW_has h hw m hb E' _ q
theorem layer_keep : ∀ (vs acc : List (List Str)), ∀ v ∈ acc, v ∈ vs.foldl (stepW E B ws) acc
  | [], _, v, hv => hv
  | w :: vs, acc, v, hv => layer_keep vs _ v (stepW_keep w E acc v hv)
theorem layer_has (h : Inv E S B r ws) {p : Str} (m : Min E S B (r + 1) p) (hb : p ∉ B) {w : List Str} (hw : w ∈ ws) (he : (lastW w, p) ∈ E) : ∀ (vs acc : List (List Str)), w ∈ vs → (∀ x ∈ vs, x ∈ ws) → ∃ v ∈ vs.foldl (stepW E B ws) acc, lastW v = p
  | [], _, q, _ => absurd q List.not_mem_nil
  | x :: vs, acc, q, hv => by
    rcases List.mem_cons.mp q with q | q
    · subst q
      obtain ⟨v, h1, h2⟩ := stepW_has h hw m hb E acc he
      exact ⟨v, layer_keep vs _ v h1, h2⟩
    · exact layer_has h m hb hw he vs _ q fun y hy => hv y (List.mem_cons_of_mem _ hy)
theorem Inv.next (h : Inv E S B r ws) : Inv E S B (r + 1) (layer E B ws) where
  way := layer_good h ws [] (fun _ h => h) fun w hw => absurd hw List.not_mem_nil
  all := fun p m => by
    obtain ⟨d, _⟩ := id m
    cases d with
    | @succ _ o _ d he hb =>
      have mo : Min E S B r o := ⟨d, fun k hk q => m.2 (k + 1) (by omega) (.succ q he hb)⟩
      obtain ⟨w, hw, hl⟩ := h.all o mo
      exact layer_has h m hb hw (by rw [hl]; exact he) ws [] hw fun _ h => h
theorem Inv.zero : Inv E S B 0 ((S.filter fun s => decide (s ∉ B)).map fun s => [s]) where
  way := fun w hw => by
    obtain ⟨s, hs, rfl⟩ := List.mem_map.mp hw
    obtain ⟨h1, h2⟩ := List.mem_filter.mp hs
    refine ⟨rfl, fun j p hj => ?_, fun j p q hj hq => by cases hq⟩
    cases j with
    | zero => cases hj; exact .zero h1 (of_decide_eq_true h2)
    | succ j => cases hj
  all := fun p m => by
    obtain ⟨d, _⟩ := m
    cases d with
    | zero h1 h2 => exact ⟨[p], List.mem_map.mpr ⟨p, List.mem_filter.mpr ⟨h1, decide_eq_true h2⟩, rfl⟩, rfl⟩
theorem reach_min : ∀ (n : Nat) {p : Str}, DR E S B n p → ∃ m, m ≤ n ∧ Min E S B m p := fun n => by
  induction n using Nat.strongRecOn with
  | _ n ih =>
    intro p d
    by_cases c : ∃ m, m < n ∧ DR E S B m p
    · obtain ⟨m, lt, dm⟩ := c
      obtain ⟨k, hk, mk⟩ := ih m lt dm
      exact ⟨k, by omega, mk⟩
    · exact ⟨n, Nat.le_refl n, d, fun m lt dm => c ⟨m, lt, dm⟩⟩
theorem min_prev {n : Nat} {p : Str} (m : Min E S B (n + 1) p) : ∃ o, Min E S B n o ∧ (o, p) ∈ E ∧ p ∉ B := by
  obtain ⟨d, h⟩ := m
  cases d with
  | @succ _ o _ d he hb => exact ⟨o, ⟨d, fun k hk q => h (k + 1) (by omega) (.succ q he hb)⟩, he, hb⟩
theorem min_list : ∀ (n : Nat) {p : Str}, Min E S B n p → ∃ l : List Str, l.length = n + 1 ∧ ∀ j q, l[j]? = some q → Min E S B j q
  | 0, p, m => ⟨[p], rfl, fun j q h => by
    cases j with
    | zero => cases h; exact m
    | succ j => cases h⟩
  | n + 1, p, m => by
    obtain ⟨o, mo, _⟩ := min_prev m
    obtain ⟨l, hl, hq⟩ := min_list n mo
    refine ⟨l ++ [p], by rw [List.length_append, hl] <;> rfl, fun j q h => ?_⟩
    by_cases c : j < l.length
    · rw [List.getElem?_append_left c] at h
      exact hq j q h
    · have lt := (List.getElem?_eq_some_iff.mp h).1
      rw [List.length_append, List.length_singleton] at lt
      obtain rfl : j = l.length := by omega
      rw [List.getElem?_append_right (Nat.le_refl _), Nat.sub_self] at h
      cases h
      rw [hl]
      exact m
/-- the least number of steps is less than the number of places -/
theorem min_lt {ps : List Str} (hS : ∀ s ∈ S, s ∈ ps) (hE : ∀ o t, (o, t) ∈ E → t ∈ ps) {n : Nat} {p : Str} (m : Min E S B n p) : n < ps.length := by
  obtain ⟨l, hl, hq⟩ := min_list n m
  have nd : l.Nodup := List.pairwise_iff_getElem.mpr fun i j hi hj lt e => by
    have h1 := hq i _ (List.getElem?_eq_getElem hi)
    have h2 := hq j _ (List.getElem?_eq_getElem hj)
    rw [e] at h1
    exact h2.2 i lt h1.1
  have sub : ∀ q ∈ l, q ∈ ps := fun q h => by
    obtain ⟨j, hj⟩ := List.mem_iff_getElem?.mp h
    have d := (hq j q hj).1
    cases d with
    | zero h1 _ => exact hS _ h1
    | succ _ he _ => exact hE _ _ he
  have := DB.pigeon nd sub
  omega
/-- the ends of a layer's ways differ -/
def Ends (ps : List Str) (acc : List (List Str)) : Prop := (acc.map lastW).Nodup ∧ ∀ v ∈ acc, lastW v ∈ ps
theorem Ends.le {ps : List Str} {acc : List (List Str)} (h : Ends ps acc) : acc.length ≤ ps.length := by
  have := DB.pigeon h.1 (m := ps) fun x hx => by
    obtain ⟨v, hv, rfl⟩ := List.mem_map.mp hx
    exact h.2 v hv
  rwa [List.length_map] at this
theorem stepE_ends {ps : List Str} {w : List Str} {acc : List (List Str)} (h : Ends ps acc) {e : Str × Str} (he : e.2 ∈ ps) : Ends ps (stepE B ws w acc e) := by
  unfold stepE
  split
  · rename_i c
    refine ⟨?_, fun v hv => ?_⟩
    · rw [List.map_append, List.nodup_append]
      refine ⟨h.1, by simp, fun x hx y hy q => ?_⟩
      rw [List.map_cons, List.map_nil, last_app, List.mem_singleton] at hy
      rw [q, hy] at hx
      exact c.2.2.1 (by rw [List.map_append]; exact List.mem_append_right _ hx)
    · rcases List.mem_append.mp hv with hv | hv
      · exact h.2 v hv
      · rw [List.mem_singleton.mp hv, last_app]
        exact he
  · exact h
theorem stepW_ends {ps : List Str} {w : List Str} : ∀ (E' : List (Str × Str)) (acc : List (List Str)), (∀ e ∈ E', e.2 ∈ ps) → Ends ps acc → Ends ps (E'.foldl (stepE B ws w) acc)
  | [], _, _, h => h
  | e :: E', acc, he, h => stepW_ends E' _ (fun x hx => he x (List.mem_cons_of_mem _ hx)) (stepE_ends h (he e List.mem_cons_self))
theorem layer_ends {ps : List Str} (he : ∀ e ∈ E, e.2 ∈ ps) : ∀ (vs acc : List (List Str)), Ends ps acc → Ends ps (vs.foldl (stepW E B ws) acc)
  | [], _, h => h
  | w :: vs, acc, h => layer_ends he vs _ (stepW_ends E acc he h)
end
end WT

set_option Elab.async false
set_option linter.all false
set_option maxRecDepth 100000
set_option maxHeartbeats 4000000
/-! t + u as a tuple whose object is known. -/
namespace TupX
open PySem PySem.Spec PyProof.Rows L2
def rCatF (K : PySem.W.Frag) : R2 := fun x y H Q => ∃ a b xs ys, x = .ref a ∧ y = .ref b ∧ SqT K H a xs ∧ SqT K H b ys ∧ xs ≠ [] ∧ ys ≠ [] ∧ xs.length + ys.length ≤ sizeLine ∧ ∀ p H', H p = none → Evl.Ex H H' → Bare H' p (xs ++ ys) → Q (.ref p) H'
theorem op_catF {X : Cx} : OpR X (binaryOp .Add) (rCatF X.K) := by
  intro pins s σ H x y v u Q I rx ry h
  obtain ⟨a, b, xs, ys, rfl, rfl, ha, hb, hx, hy, hz, q2⟩ := h
  cases rx
  cases ry
  obtain ⟨its, r1, p1, _⟩ := I.tuple ha
  obtain ⟨its2, r2, p2, _⟩ := I.tuple hb
  refine HT.cat_tup p1 p2 (fun z => hx (r1.nil_iff.mp z)) (fun z => absurd (r2.nil_iff.mp z) hy) (fun z => ?_) (by rw [← r1.length, ← r2.length]; exact hz)
  have fr : H s.heap.objs.size = none := I.hok.fresh (Nat.le_refl _)
  refine ⟨.ref s.heap.objs.size, upd H s.heap.objs.size (.frz { cls := .type "tuple", data := .seq (its ++ its2).toArray } (.tup (xs ++ ys))), I.laid (t' := s.toks) (fun b ob q => Heap.get?_push_of_some _ q) (Nat.le_refl _) ⟨?_, by rw [List.length_append]; exact hz, _, r1.append r2, IsTup.new _ _⟩, rfl, q2 _ _ fr (Evl.Ex.new fr) ⟨_, upd_same, rfl, rfl⟩⟩
  exact Heap.get?_push_size _ rfl
end TupX

set_option Elab.async false
set_option linter.all false
set_option maxRecDepth 100000
set_option maxHeartbeats 4000000
namespace EV
open PySem PySem.Spec PyProof.Rows L2 EvS
def top (i : Nat) : Stmt := PySem.Challenge.pw_everyfire_k35_whole_weathers_and_cuts.main.body.getD i (.Pass ⟨0, 0, 0, 0⟩)
abbrev s_is_kept : Stmt := top 9
abbrev s__check_places : Stmt := top 10
abbrev s__passes : Stmt := top 11
abbrev s__keeps_all : Stmt := top 12
abbrev s_is_name : Stmt := top 22
abbrev s__check_count : Stmt := top 23
abbrev s__check_names : Stmt := top 24
abbrev s__check_ends : Stmt := top 25
abbrev s__as_bounds : Stmt := top 26
abbrev s__as_link : Stmt := top 27
abbrev s__as_path : Stmt := top 28
abbrev s__check_single_paths : Stmt := top 29
abbrev s_init : Stmt := inClass (top 30) 0
abbrev s_link_names : Stmt := inClass (top 30) 1
abbrev s_check_place : Stmt := inClass (top 30) 2
abbrev s_check_wind : Stmt := inClass (top 30) 3
abbrev s_check_winds : Stmt := top 34
abbrev s_check_rows : Stmt := top 35
abbrev s_spells_of : Stmt := top 36
abbrev s_ask : Stmt := top 38
abbrev s_ask_all : Stmt := top 39
abbrev s_least_minutes : Stmt := top 40
abbrev s_Question_init : Stmt := inClass (top 41) 0
abbrev s_Question_is_ahead : Stmt := inClass (top 41) 3
abbrev s_Question_through : Stmt := inClass (top 41) 4
abbrev s_Question_catches : Stmt := inClass (top 41) 5
abbrev s_Question_first_minutes : Stmt := inClass (top 41) 6
abbrev s_least_numbers : Stmt := top 43
abbrev s_most_numbers : Stmt := top 44
abbrev s_fastest : Stmt := top 45
abbrev s_slowest : Stmt := top 46
abbrev s__rows_of : Stmt := top 47
abbrev s__law_row : Stmt := top 49
abbrev s__law_numbers : Stmt := top 50
abbrev s__law_parts : Stmt := top 51
abbrev s__law_weather : Stmt := top 52
abbrev s__law_names : Stmt := top 53
abbrev s__law_made : Stmt := top 54
abbrev s__law_some : Stmt := top 55
abbrev s__law_open : Stmt := top 56
abbrev s__law_one_way : Stmt := top 57
abbrev s__law_weather_for : Stmt := top 58
abbrev s__law_fourth : Stmt := top 59
abbrev s_law : Stmt := top 60
theorem sc_is_kept : FnScope ["land", "starts", "goals", "places"] ["land", "starts", "goals", "places"] (defScope s_is_kept) := ⟨rfl, rfl, rfl, by decide +kernel, rfl, by decide +kernel, by decide +kernel⟩
theorem sc__check_places : FnScope ["land", "places", "place"] ["land", "places"] (defScope s__check_places) := ⟨rfl, rfl, rfl, by decide +kernel, rfl, by decide +kernel, by decide +kernel⟩
theorem sc__passes : FnScope ["land", "_", "one", "other", "times", "bounds"] ["land"] (defScope s__passes) := ⟨rfl, rfl, rfl, by decide +kernel, rfl, by decide +kernel, by decide +kernel⟩
theorem sc__keeps_all : FnScope ["land", "starts", "goals", "broken", "passes", "reached", "waiting", "place", "one", "other", "goal"] ["land", "starts", "goals", "broken"] (defScope s__keeps_all) := ⟨rfl, rfl, rfl, by decide +kernel, rfl, by decide +kernel, by decide +kernel⟩
theorem sc_is_name : FnScope ["text", "sign"] ["text"] (defScope s_is_name) := ⟨rfl, rfl, rfl, by decide +kernel, rfl, by decide +kernel, by decide +kernel⟩
theorem sc__check_count : FnScope ["sort", "rows", "least", "most"] ["sort", "rows", "least", "most"] (defScope s__check_count) := ⟨rfl, rfl, rfl, by decide +kernel, rfl, by decide +kernel, by decide +kernel⟩
theorem sc__check_names : FnScope ["sort", "names", "name"] ["sort", "names"] (defScope s__check_names) := ⟨rfl, rfl, rfl, by decide +kernel, rfl, by decide +kernel, by decide +kernel⟩
theorem sc__check_ends : FnScope ["sort", "one", "other", "places"] ["sort", "one", "other", "places"] (defScope s__check_ends) := ⟨rfl, rfl, rfl, by decide +kernel, rfl, by decide +kernel, by decide +kernel⟩
theorem sc__as_bounds : FnScope ["bounds", "least", "most"] ["bounds"] (defScope s__as_bounds) := ⟨rfl, rfl, rfl, by decide +kernel, rfl, by decide +kernel, by decide +kernel⟩
theorem sc__as_link : FnScope ["link", "winds", "places", "name", "one", "other", "times", "bounds"] ["link", "winds", "places"] (defScope s__as_link) := ⟨rfl, rfl, rfl, by decide +kernel, rfl, by decide +kernel, by decide +kernel⟩
theorem sc__as_path : FnScope ["path", "places", "one", "other", "minutes"] ["path", "places"] (defScope s__as_path) := ⟨rfl, rfl, rfl, by decide +kernel, rfl, by decide +kernel, by decide +kernel⟩
theorem sc__check_single_paths : FnScope ["paths", "ends", "one", "other", "_"] ["paths"] (defScope s__check_single_paths) := ⟨rfl, rfl, rfl, by decide +kernel, rfl, by decide +kernel, by decide +kernel⟩
theorem sc_init : FnScope ["self", "winds", "places", "links", "paths", "link", "path"] ["self", "winds", "places", "links", "paths"] (defScope s_init) := ⟨rfl, rfl, rfl, by decide +kernel, rfl, by decide +kernel, by decide +kernel⟩
theorem sc_link_names : FnScope ["self", "link"] ["self"] (defScope s_link_names) := ⟨rfl, rfl, rfl, by decide +kernel, rfl, by decide +kernel, by decide +kernel⟩
theorem sc_check_place : FnScope ["self", "place"] ["self", "place"] (defScope s_check_place) := ⟨rfl, rfl, rfl, by decide +kernel, rfl, by decide +kernel, by decide +kernel⟩
theorem sc_check_wind : FnScope ["self", "wind"] ["self", "wind"] (defScope s_check_wind) := ⟨rfl, rfl, rfl, by decide +kernel, rfl, by decide +kernel, by decide +kernel⟩
theorem sc_check_winds : FnScope ["land", "weather", "_", "wind"] ["land", "weather"] (defScope s_check_winds) := ⟨rfl, rfl, rfl, by decide +kernel, rfl, by decide +kernel, by decide +kernel⟩
theorem sc_check_rows : FnScope ["weather", "minutes", "before", "behind", "minute", "_"] ["weather"] (defScope s_check_rows) := ⟨rfl, rfl, rfl, by decide +kernel, rfl, by decide +kernel, by decide +kernel⟩
theorem sc_spells_of : FnScope ["land", "weather", "ends", "minute", "_", "begin", "wind", "end"] ["land", "weather"] (defScope s_spells_of) := ⟨rfl, rfl, rfl, by decide +kernel, rfl, by decide +kernel, by decide +kernel⟩
theorem sc_ask : FnScope ["land", "weather", "starts", "breaks", "places"] ["land", "weather", "starts", "breaks", "places"] (defScope s_ask) := ⟨rfl, rfl, rfl, by decide +kernel, rfl, by decide +kernel, by decide +kernel⟩
theorem sc_ask_all : FnScope ["land", "weathers", "starts", "breaks", "places", "weather", "place", "_"] ["land", "weathers", "starts", "breaks", "places"] (defScope s_ask_all) := ⟨rfl, rfl, rfl, by decide +kernel, rfl, by decide +kernel, by decide +kernel⟩
theorem sc_least_minutes : FnScope ["rows", "least", "place", "minute"] ["rows"] (defScope s_least_minutes) := ⟨rfl, rfl, rfl, by decide +kernel, rfl, by decide +kernel, by decide +kernel⟩
theorem sc_Question_init : FnScope ["self", "land", "weather", "starts", "breaks", "number", "link", "start", "told", "place"] ["self", "land", "weather", "starts", "breaks"] (defScope s_Question_init) := ⟨rfl, rfl, rfl, by decide +kernel, rfl, by decide +kernel, by decide +kernel⟩
theorem sc_Question_is_ahead : FnScope ["self", "minute", "place"] ["self", "minute", "place"] (defScope s_Question_is_ahead) := ⟨rfl, rfl, rfl, by decide +kernel, rfl, by decide +kernel, by decide +kernel⟩
theorem sc_Question_through : FnScope ["self", "row", "minute", "first", "begin", "end", "wind", "passed"] ["self", "row", "minute"] (defScope s_Question_through) := ⟨rfl, rfl, rfl, by decide +kernel, rfl, by decide +kernel, by decide +kernel⟩
theorem sc_Question_catches : FnScope ["self", "numbers", "waiting", "found", "minute", "place", "name", "number", "link", "passed"] ["self", "numbers"] (defScope s_Question_catches) := ⟨rfl, rfl, rfl, by decide +kernel, rfl, by decide +kernel, by decide +kernel⟩
theorem sc_Question_first_minutes : FnScope ["self", "numbers", "place", "_", "minute"] ["self", "numbers"] (defScope s_Question_first_minutes) := ⟨rfl, rfl, rfl, by decide +kernel, rfl, by decide +kernel, by decide +kernel⟩
theorem sc_least_numbers : FnScope ["land", "link", "bounds"] ["land"] (defScope s_least_numbers) := ⟨rfl, rfl, rfl, by decide +kernel, rfl, by decide +kernel, by decide +kernel⟩
theorem sc_most_numbers : FnScope ["land", "link", "bounds"] ["land"] (defScope s_most_numbers) := ⟨rfl, rfl, rfl, by decide +kernel, rfl, by decide +kernel, by decide +kernel⟩
theorem sc_fastest : FnScope ["land", "weather", "starts", "breaks"] ["land", "weather", "starts", "breaks"] (defScope s_fastest) := ⟨rfl, rfl, rfl, by decide +kernel, rfl, by decide +kernel, by decide +kernel⟩
theorem sc_slowest : FnScope ["land", "weather", "starts", "breaks"] ["land", "weather", "starts", "breaks"] (defScope s_slowest) := ⟨rfl, rfl, rfl, by decide +kernel, rfl, by decide +kernel, by decide +kernel⟩
theorem sc__rows_of : FnScope ["question", "numbers", "minutes", "place"] ["question", "numbers"] (defScope s__rows_of) := ⟨rfl, rfl, rfl, by decide +kernel, rfl, by decide +kernel, by decide +kernel⟩
theorem sc__law_row : FnScope ["cell", "many", "row", "rest", "mixed", "k"] ["cell", "many"] (defScope s__law_row) := ⟨rfl, rfl, rfl, by decide +kernel, rfl, by decide +kernel, by decide +kernel⟩
theorem sc__law_numbers : FnScope ["script", "many", "cells", "each", "numbers", "cell", "number"] ["script", "many"] (defScope s__law_numbers) := ⟨rfl, rfl, rfl, by decide +kernel, rfl, by decide +kernel, by decide +kernel⟩
theorem sc__law_parts : FnScope ["numbers", "at", "winds", "places", "names", "links", "k", "spot", "one", "other", "times", "j", "least", "paths", "known", "path"] ["numbers", "at"] (defScope s__law_parts) := ⟨rfl, rfl, rfl, by decide +kernel, rfl, by decide +kernel, by decide +kernel⟩
theorem sc__law_weather : FnScope ["numbers", "at", "parts", "weather", "k", "wind"] ["numbers", "at", "parts"] (defScope s__law_weather) := ⟨rfl, rfl, rfl, by decide +kernel, rfl, by decide +kernel, by decide +kernel⟩
theorem sc__law_names : FnScope ["number", "many", "letters", "size", "rest", "place", "names", "k", "own", "spot", "step", "first"] ["number", "many"] (defScope s__law_names) := ⟨rfl, rfl, rfl, by decide +kernel, rfl, by decide +kernel, by decide +kernel⟩
theorem sc__law_made : FnScope ["parts"] ["parts"] (defScope s__law_made) := ⟨rfl, rfl, rfl, by decide +kernel, rfl, by decide +kernel, by decide +kernel⟩
theorem sc__law_some : FnScope ["numbers", "at", "parts", "step", "k"] ["numbers", "at", "parts", "step"] (defScope s__law_some) := ⟨rfl, rfl, rfl, by decide +kernel, rfl, by decide +kernel, by decide +kernel⟩
theorem sc__law_open : FnScope ["parts", "found", "name", "one", "other", "times", "pair"] ["parts"] (defScope s__law_open) := ⟨rfl, rfl, rfl, by decide +kernel, rfl, by decide +kernel, by decide +kernel⟩
theorem sc__law_one_way : FnScope ["parts", "starts", "goals", "places", "ways", "turn", "way", "longer", "one", "other", "ends", "place", "row"] ["parts", "starts", "goals", "places"] (defScope s__law_one_way) := ⟨rfl, rfl, rfl, by decide +kernel, rfl, by decide +kernel, by decide +kernel⟩
theorem sc__law_weather_for : FnScope ["parts", "way", "rows", "minute", "k", "chosen", "link", "n"] ["parts", "way"] (defScope s__law_weather_for) := ⟨rfl, rfl, rfl, by decide +kernel, rfl, by decide +kernel, by decide +kernel⟩
theorem sc__law_fourth : FnScope ["parts", "numbers", "at", "links", "k", "name", "one", "other", "times", "pair", "least"] ["parts", "numbers", "at"] (defScope s__law_fourth) := ⟨rfl, rfl, rfl, by decide +kernel, rfl, by decide +kernel, by decide +kernel⟩
theorem sc_law : FnScope ["script", "numbers", "parts", "starts", "goals", "places", "land", "breaks", "way", "fires", "burns", "weather", "first", "last", "end", "place", "k", "goal"] ["script"] (defScope s_law) := ⟨rfl, rfl, rfl, by decide +kernel, rfl, by decide +kernel, by decide +kernel⟩
/-- where the top has put things -/
structure Ad where
  C : Addr
  tl : Addr
  te : Addr
  pr : Addr
  C_Question : Addr
  f_is_kept : Addr
  d_is_kept : FuncData
  f__check_places : Addr
  d__check_places : FuncData
  f__passes : Addr
  d__passes : FuncData
  f__keeps_all : Addr
  d__keeps_all : FuncData
  f_is_name : Addr
  d_is_name : FuncData
  f__check_count : Addr
  d__check_count : FuncData
  f__check_names : Addr
  d__check_names : FuncData
  f__check_ends : Addr
  d__check_ends : FuncData
  f__as_bounds : Addr
  d__as_bounds : FuncData
  f__as_link : Addr
  d__as_link : FuncData
  f__as_path : Addr
  d__as_path : FuncData
  f__check_single_paths : Addr
  d__check_single_paths : FuncData
  f_init : Addr
  d_init : FuncData
  f_link_names : Addr
  d_link_names : FuncData
  f_check_place : Addr
  d_check_place : FuncData
  f_check_wind : Addr
  d_check_wind : FuncData
  f_check_winds : Addr
  d_check_winds : FuncData
  f_check_rows : Addr
  d_check_rows : FuncData
  f_spells_of : Addr
  d_spells_of : FuncData
  f_ask : Addr
  d_ask : FuncData
  te_ask : Addr
  f_ask_all : Addr
  d_ask_all : FuncData
  te_ask_all : Addr
  f_least_minutes : Addr
  d_least_minutes : FuncData
  f_Question_init : Addr
  d_Question_init : FuncData
  f_Question_is_ahead : Addr
  d_Question_is_ahead : FuncData
  f_Question_through : Addr
  d_Question_through : FuncData
  f_Question_catches : Addr
  d_Question_catches : FuncData
  f_Question_first_minutes : Addr
  d_Question_first_minutes : FuncData
  f_least_numbers : Addr
  d_least_numbers : FuncData
  f_most_numbers : Addr
  d_most_numbers : FuncData
  f_fastest : Addr
  d_fastest : FuncData
  f_slowest : Addr
  d_slowest : FuncData
  f__rows_of : Addr
  d__rows_of : FuncData
  f__law_row : Addr
  d__law_row : FuncData
  f__law_numbers : Addr
  d__law_numbers : FuncData
  f__law_parts : Addr
  d__law_parts : FuncData
  f__law_weather : Addr
  d__law_weather : FuncData
  f__law_names : Addr
  d__law_names : FuncData
  f__law_made : Addr
  d__law_made : FuncData
  f__law_some : Addr
  d__law_some : FuncData
  f__law_open : Addr
  d__law_open : FuncData
  f__law_one_way : Addr
  d__law_one_way : FuncData
  f__law_weather_for : Addr
  d__law_weather_for : FuncData
  f__law_fourth : Addr
  d__law_fourth : FuncData
  f_law : Addr
  d_law : FuncData
structure Txt (K : PySem.W.Frag) (mg : Str → Option Value) (a : Ad) : Prop where
  F_is_kept : Fun K "is_kept" "is_kept" s_is_kept a.f_is_kept a.d_is_kept
  B_is_kept : Binds K a.d_is_kept ["land", "starts", "goals", "places"] []
  k_is_kept : PySem.W.keepIn K (.ref a.f_is_kept) = true
  g_is_kept : mg "is_kept" = some (.ref a.f_is_kept)
  F__check_places : Fun K "_check_places" "_check_places" s__check_places a.f__check_places a.d__check_places
  B__check_places : Binds K a.d__check_places ["land", "places"] []
  k__check_places : PySem.W.keepIn K (.ref a.f__check_places) = true
  g__check_places : mg "_check_places" = some (.ref a.f__check_places)
  F__passes : Fun K "_passes" "_passes" s__passes a.f__passes a.d__passes
  B__passes : Binds K a.d__passes ["land"] []
  k__passes : PySem.W.keepIn K (.ref a.f__passes) = true
  g__passes : mg "_passes" = some (.ref a.f__passes)
  F__keeps_all : Fun K "_keeps_all" "_keeps_all" s__keeps_all a.f__keeps_all a.d__keeps_all
  B__keeps_all : Binds K a.d__keeps_all ["land", "starts", "goals", "broken"] []
  k__keeps_all : PySem.W.keepIn K (.ref a.f__keeps_all) = true
  g__keeps_all : mg "_keeps_all" = some (.ref a.f__keeps_all)
  F_is_name : Fun K "is_name" "is_name" s_is_name a.f_is_name a.d_is_name
  B_is_name : Binds K a.d_is_name ["text"] []
  k_is_name : PySem.W.keepIn K (.ref a.f_is_name) = true
  g_is_name : mg "is_name" = some (.ref a.f_is_name)
  F__check_count : Fun K "_check_count" "_check_count" s__check_count a.f__check_count a.d__check_count
  B__check_count : Binds K a.d__check_count ["sort", "rows", "least", "most"] []
  k__check_count : PySem.W.keepIn K (.ref a.f__check_count) = true
  g__check_count : mg "_check_count" = some (.ref a.f__check_count)
  F__check_names : Fun K "_check_names" "_check_names" s__check_names a.f__check_names a.d__check_names
  B__check_names : Binds K a.d__check_names ["sort", "names"] []
  k__check_names : PySem.W.keepIn K (.ref a.f__check_names) = true
  g__check_names : mg "_check_names" = some (.ref a.f__check_names)
  F__check_ends : Fun K "_check_ends" "_check_ends" s__check_ends a.f__check_ends a.d__check_ends
  B__check_ends : Binds K a.d__check_ends ["sort", "one", "other", "places"] []
  k__check_ends : PySem.W.keepIn K (.ref a.f__check_ends) = true
  g__check_ends : mg "_check_ends" = some (.ref a.f__check_ends)
  F__as_bounds : Fun K "_as_bounds" "_as_bounds" s__as_bounds a.f__as_bounds a.d__as_bounds
  B__as_bounds : Binds K a.d__as_bounds ["bounds"] []
  k__as_bounds : PySem.W.keepIn K (.ref a.f__as_bounds) = true
  g__as_bounds : mg "_as_bounds" = some (.ref a.f__as_bounds)
  F__as_link : Fun K "_as_link" "_as_link" s__as_link a.f__as_link a.d__as_link
  B__as_link : Binds K a.d__as_link ["link", "winds", "places"] []
  k__as_link : PySem.W.keepIn K (.ref a.f__as_link) = true
  g__as_link : mg "_as_link" = some (.ref a.f__as_link)
  F__as_path : Fun K "_as_path" "_as_path" s__as_path a.f__as_path a.d__as_path
  B__as_path : Binds K a.d__as_path ["path", "places"] []
  k__as_path : PySem.W.keepIn K (.ref a.f__as_path) = true
  g__as_path : mg "_as_path" = some (.ref a.f__as_path)
  F__check_single_paths : Fun K "_check_single_paths" "_check_single_paths" s__check_single_paths a.f__check_single_paths a.d__check_single_paths
  B__check_single_paths : Binds K a.d__check_single_paths ["paths"] []
  k__check_single_paths : PySem.W.keepIn K (.ref a.f__check_single_paths) = true
  g__check_single_paths : mg "_check_single_paths" = some (.ref a.f__check_single_paths)
  F_init : FunD K "__init__" "Land.__init__" (defArgs s_init) (defBody s_init) (defScope s_init) [] [("links", .ref a.tl), ("paths", .ref a.te)] a.f_init a.d_init
  F_link_names : Fun K "link_names" "Land.link_names" s_link_names a.f_link_names a.d_link_names
  B_link_names : Binds K a.d_link_names ["self"] []
  k_link_names : PySem.W.keepIn K (.ref a.f_link_names) = true
  F_check_place : Fun K "check_place" "Land.check_place" s_check_place a.f_check_place a.d_check_place
  B_check_place : Binds K a.d_check_place ["self", "place"] []
  k_check_place : PySem.W.keepIn K (.ref a.f_check_place) = true
  m_check_place : Meth K a.C "check_place" a.f_check_place
  F_check_wind : Fun K "check_wind" "Land.check_wind" s_check_wind a.f_check_wind a.d_check_wind
  B_check_wind : Binds K a.d_check_wind ["self", "wind"] []
  k_check_wind : PySem.W.keepIn K (.ref a.f_check_wind) = true
  m_check_wind : Meth K a.C "check_wind" a.f_check_wind
  F_check_winds : Fun K "check_winds" "check_winds" s_check_winds a.f_check_winds a.d_check_winds
  B_check_winds : Binds K a.d_check_winds ["land", "weather"] []
  k_check_winds : PySem.W.keepIn K (.ref a.f_check_winds) = true
  g_check_winds : mg "check_winds" = some (.ref a.f_check_winds)
  F_check_rows : Fun K "check_rows" "check_rows" s_check_rows a.f_check_rows a.d_check_rows
  B_check_rows : Binds K a.d_check_rows ["weather"] []
  k_check_rows : PySem.W.keepIn K (.ref a.f_check_rows) = true
  g_check_rows : mg "check_rows" = some (.ref a.f_check_rows)
  F_spells_of : Fun K "spells_of" "spells_of" s_spells_of a.f_spells_of a.d_spells_of
  B_spells_of : Binds K a.d_spells_of ["land", "weather"] []
  k_spells_of : PySem.W.keepIn K (.ref a.f_spells_of) = true
  g_spells_of : mg "spells_of" = some (.ref a.f_spells_of)
  F_ask : FunD K "ask" "ask" (defArgs s_ask) (defBody s_ask) (defScope s_ask) [.ref a.te_ask] [] a.f_ask a.d_ask
  B_ask : Binds K a.d_ask ["land", "weather", "starts", "breaks", "places"] []
  B1_ask : Binds K a.d_ask ["land", "weather", "starts", "breaks", "places"] [.ref a.te_ask]
  teT_ask : ∀ H : Hp, SqT K H a.te_ask []
  k_ask : PySem.W.keepIn K (.ref a.f_ask) = true
  g_ask : mg "ask" = some (.ref a.f_ask)
  F_ask_all : FunD K "ask_all" "ask_all" (defArgs s_ask_all) (defBody s_ask_all) (defScope s_ask_all) [.ref a.te_ask_all] [] a.f_ask_all a.d_ask_all
  B_ask_all : Binds K a.d_ask_all ["land", "weathers", "starts", "breaks", "places"] []
  B1_ask_all : Binds K a.d_ask_all ["land", "weathers", "starts", "breaks", "places"] [.ref a.te_ask_all]
  teT_ask_all : ∀ H : Hp, SqT K H a.te_ask_all []
  k_ask_all : PySem.W.keepIn K (.ref a.f_ask_all) = true
  g_ask_all : mg "ask_all" = some (.ref a.f_ask_all)
  F_least_minutes : Fun K "least_minutes" "least_minutes" s_least_minutes a.f_least_minutes a.d_least_minutes
  B_least_minutes : Binds K a.d_least_minutes ["rows"] []
  k_least_minutes : PySem.W.keepIn K (.ref a.f_least_minutes) = true
  g_least_minutes : mg "least_minutes" = some (.ref a.f_least_minutes)
  F_Question_init : Fun K "__init__" "Question.__init__" s_Question_init a.f_Question_init a.d_Question_init
  B_Question_init : Binds K a.d_Question_init ["self", "land", "weather", "starts", "breaks"] []
  k_Question_init : PySem.W.keepIn K (.ref a.f_Question_init) = true
  mk_Question : Mk K a.C_Question a.f_Question_init
  F_Question_is_ahead : Fun K "is_ahead" "Question.is_ahead" s_Question_is_ahead a.f_Question_is_ahead a.d_Question_is_ahead
  B_Question_is_ahead : Binds K a.d_Question_is_ahead ["self", "minute", "place"] []
  k_Question_is_ahead : PySem.W.keepIn K (.ref a.f_Question_is_ahead) = true
  m_Question_is_ahead : Meth K a.C_Question "is_ahead" a.f_Question_is_ahead
  F_Question_through : Fun K "through" "Question.through" s_Question_through a.f_Question_through a.d_Question_through
  B_Question_through : Binds K a.d_Question_through ["self", "row", "minute"] []
  k_Question_through : PySem.W.keepIn K (.ref a.f_Question_through) = true
  m_Question_through : Meth K a.C_Question "through" a.f_Question_through
  F_Question_catches : Fun K "catches" "Question.catches" s_Question_catches a.f_Question_catches a.d_Question_catches
  B_Question_catches : Binds K a.d_Question_catches ["self", "numbers"] []
  k_Question_catches : PySem.W.keepIn K (.ref a.f_Question_catches) = true
  m_Question_catches : Meth K a.C_Question "catches" a.f_Question_catches
  F_Question_first_minutes : Fun K "first_minutes" "Question.first_minutes" s_Question_first_minutes a.f_Question_first_minutes a.d_Question_first_minutes
  B_Question_first_minutes : Binds K a.d_Question_first_minutes ["self", "numbers"] []
  k_Question_first_minutes : PySem.W.keepIn K (.ref a.f_Question_first_minutes) = true
  m_Question_first_minutes : Meth K a.C_Question "first_minutes" a.f_Question_first_minutes
  F_least_numbers : Fun K "least_numbers" "least_numbers" s_least_numbers a.f_least_numbers a.d_least_numbers
  B_least_numbers : Binds K a.d_least_numbers ["land"] []
  k_least_numbers : PySem.W.keepIn K (.ref a.f_least_numbers) = true
  g_least_numbers : mg "least_numbers" = some (.ref a.f_least_numbers)
  F_most_numbers : Fun K "most_numbers" "most_numbers" s_most_numbers a.f_most_numbers a.d_most_numbers
  B_most_numbers : Binds K a.d_most_numbers ["land"] []
  k_most_numbers : PySem.W.keepIn K (.ref a.f_most_numbers) = true
  g_most_numbers : mg "most_numbers" = some (.ref a.f_most_numbers)
  F_fastest : Fun K "fastest" "fastest" s_fastest a.f_fastest a.d_fastest
  B_fastest : Binds K a.d_fastest ["land", "weather", "starts", "breaks"] []
  k_fastest : PySem.W.keepIn K (.ref a.f_fastest) = true
  g_fastest : mg "fastest" = some (.ref a.f_fastest)
  F_slowest : Fun K "slowest" "slowest" s_slowest a.f_slowest a.d_slowest
  B_slowest : Binds K a.d_slowest ["land", "weather", "starts", "breaks"] []
  k_slowest : PySem.W.keepIn K (.ref a.f_slowest) = true
  g_slowest : mg "slowest" = some (.ref a.f_slowest)
  F__rows_of : Fun K "_rows_of" "_rows_of" s__rows_of a.f__rows_of a.d__rows_of
  B__rows_of : Binds K a.d__rows_of ["question", "numbers"] []
  k__rows_of : PySem.W.keepIn K (.ref a.f__rows_of) = true
  g__rows_of : mg "_rows_of" = some (.ref a.f__rows_of)
  F__law_row : Fun K "_law_row" "_law_row" s__law_row a.f__law_row a.d__law_row
  B__law_row : Binds K a.d__law_row ["cell", "many"] []
  k__law_row : PySem.W.keepIn K (.ref a.f__law_row) = true
  g__law_row : mg "_law_row" = some (.ref a.f__law_row)
  F__law_numbers : Fun K "_law_numbers" "_law_numbers" s__law_numbers a.f__law_numbers a.d__law_numbers
  B__law_numbers : Binds K a.d__law_numbers ["script", "many"] []
  k__law_numbers : PySem.W.keepIn K (.ref a.f__law_numbers) = true
  g__law_numbers : mg "_law_numbers" = some (.ref a.f__law_numbers)
  F__law_parts : Fun K "_law_parts" "_law_parts" s__law_parts a.f__law_parts a.d__law_parts
  B__law_parts : Binds K a.d__law_parts ["numbers", "at"] []
  k__law_parts : PySem.W.keepIn K (.ref a.f__law_parts) = true
  g__law_parts : mg "_law_parts" = some (.ref a.f__law_parts)
  F__law_weather : Fun K "_law_weather" "_law_weather" s__law_weather a.f__law_weather a.d__law_weather
  B__law_weather : Binds K a.d__law_weather ["numbers", "at", "parts"] []
  k__law_weather : PySem.W.keepIn K (.ref a.f__law_weather) = true
  g__law_weather : mg "_law_weather" = some (.ref a.f__law_weather)
  F__law_names : Fun K "_law_names" "_law_names" s__law_names a.f__law_names a.d__law_names
  B__law_names : Binds K a.d__law_names ["number", "many"] []
  k__law_names : PySem.W.keepIn K (.ref a.f__law_names) = true
  g__law_names : mg "_law_names" = some (.ref a.f__law_names)
  F__law_made : Fun K "_law_made" "_law_made" s__law_made a.f__law_made a.d__law_made
  B__law_made : Binds K a.d__law_made ["parts"] []
  k__law_made : PySem.W.keepIn K (.ref a.f__law_made) = true
  g__law_made : mg "_law_made" = some (.ref a.f__law_made)
  F__law_some : Fun K "_law_some" "_law_some" s__law_some a.f__law_some a.d__law_some
  B__law_some : Binds K a.d__law_some ["numbers", "at", "parts", "step"] []
  k__law_some : PySem.W.keepIn K (.ref a.f__law_some) = true
  g__law_some : mg "_law_some" = some (.ref a.f__law_some)
  F__law_open : Fun K "_law_open" "_law_open" s__law_open a.f__law_open a.d__law_open
  B__law_open : Binds K a.d__law_open ["parts"] []
  k__law_open : PySem.W.keepIn K (.ref a.f__law_open) = true
  g__law_open : mg "_law_open" = some (.ref a.f__law_open)
  F__law_one_way : Fun K "_law_one_way" "_law_one_way" s__law_one_way a.f__law_one_way a.d__law_one_way
  B__law_one_way : Binds K a.d__law_one_way ["parts", "starts", "goals", "places"] []
  k__law_one_way : PySem.W.keepIn K (.ref a.f__law_one_way) = true
  g__law_one_way : mg "_law_one_way" = some (.ref a.f__law_one_way)
  F__law_weather_for : Fun K "_law_weather_for" "_law_weather_for" s__law_weather_for a.f__law_weather_for a.d__law_weather_for
  B__law_weather_for : Binds K a.d__law_weather_for ["parts", "way"] []
  k__law_weather_for : PySem.W.keepIn K (.ref a.f__law_weather_for) = true
  g__law_weather_for : mg "_law_weather_for" = some (.ref a.f__law_weather_for)
  F__law_fourth : Fun K "_law_fourth" "_law_fourth" s__law_fourth a.f__law_fourth a.d__law_fourth
  B__law_fourth : Binds K a.d__law_fourth ["parts", "numbers", "at"] []
  k__law_fourth : PySem.W.keepIn K (.ref a.f__law_fourth) = true
  g__law_fourth : mg "_law_fourth" = some (.ref a.f__law_fourth)
  F_law : Fun K "law" "law" s_law a.f_law a.d_law
  B_law : Binds K a.d_law ["script"] []
  k_law : PySem.W.keepIn K (.ref a.f_law) = true
  g_law : mg "law" = some (.ref a.f_law)
  g_heapify : mg "heapify" = some (.builtin "_heapq.heapify")
  g_heappush : mg "heappush" = some (.builtin "_heapq.heappush")
  g_heappop : mg "heappop" = some (.builtin "_heapq.heappop")
  z_abs : mg "abs" = none
  z_all : mg "all" = none
  z_any : mg "any" = none
  z_dict : mg "dict" = none
  z_enumerate : mg "enumerate" = none
  z_int : mg "int" = none
  z_len : mg "len" = none
  z_list : mg "list" = none
  z_max : mg "max" = none
  z_min : mg "min" = none
  z_range : mg "range" = none
  z_set : mg "set" = none
  z_sorted : mg "sorted" = none
  z_tuple : mg "tuple" = none
  z_zip : mg "zip" = none
  c_DIGITS : ∃ t, mg "DIGITS" = some (.str "0123456789" t)
  c_LAST_CHANGE : ∃ t, mg "LAST_CHANGE" = some (.int 100000 t)
  c_LETTERS : ∃ t, mg "LETTERS" = some (.str "abcdefghijklmnopqrstuvwxyz" t)
  c_LONGEST_NAME : ∃ t, mg "LONGEST_NAME" = some (.int 12 t)
  c_MOST_LINKS : ∃ t, mg "MOST_LINKS" = some (.int 60 t)
  c_MOST_MINUTES : ∃ t, mg "MOST_MINUTES" = some (.int 1000 t)
  c_MOST_PATHS : ∃ t, mg "MOST_PATHS" = some (.int 60 t)
  c_MOST_PLACES : ∃ t, mg "MOST_PLACES" = some (.int 24 t)
  c_MOST_ROWS : ∃ t, mg "MOST_ROWS" = some (.int 40 t)
  c_MOST_WINDS : ∃ t, mg "MOST_WINDS" = some (.int 4 t)
  cl_Question : Cls K a.C_Question
  g_Question : mg "Question" = some (.ref a.C_Question)
  na_Question_land : NoAttr K a.C_Question "land"
  na_Question_weather : NoAttr K a.C_Question "weather"
  na_Question_starts : NoAttr K a.C_Question "starts"
  na_Question_breaks : NoAttr K a.C_Question "breaks"
  na_Question_spells : NoAttr K a.C_Question "spells"
  na_Question_stops : NoAttr K a.C_Question "stops"
  na_Question_leaving : NoAttr K a.C_Question "leaving"
  cl : Cls K a.C
  mk_Land : Mk K a.C a.f_init
  g_Land : mg "Land" = some (.ref a.C)
  nW : NoAttr K a.C "winds"
  nP : NoAttr K a.C "places"
  nL : NoAttr K a.C "links"
  nA : NoAttr K a.C "paths"
  p_link_names : PropOf K a.C "link_names" a.pr a.f_link_names
  tlT : ∀ H : Hp, SqT K H a.tl []
  teT : ∀ H : Hp, SqT K H a.te []
end EV

set_option Elab.async false
set_option linter.all false
set_option maxRecDepth 100000
set_option maxHeartbeats 4000000
namespace EV
open PySem PySem.Spec PyProof.Rows L2 EvS Evl
def LETS : List Nat := ("abcdefghijklmnopqrstuvwxyz" : Str).cps.toList
def DIGS : List Nat := ("0123456789" : Str).cps.toList
def okSign (c : Nat) : Bool := decide (c ∈ LETS) || decide (c ∈ DIGS)
/-- point 2 -/
def isName (z : Str) : Bool := decide (1 ≤ z.length ∧ z.length ≤ 12) && (z.cps.toList.head?.any fun c => decide (c ∈ LETS)) && z.cps.toList.all okSign
def sp_is_name : Sp := fun vs H Q _ => ∃ z : Str, vs = [.str z] ∧ z.length ≤ 10000 ∧ ∀ H', Ex H H' → Q (.bl (isName z)) H'
section
variable {P : Program} {w : World} {K : PySem.W.Frag} {mg : Str → Option Value} {base : Heap} {a : Ad}
theorem G_is_name (T : Txt K mg a) : FnOk P w K mg base CX0 1 a.f_is_name a.d_is_name ["text"] sp_is_name := by
  refine T.F_is_name.ok sc_is_name (fun vs H Q E h => ?_) (fun cdv A outer s H vs Q E hr h => ?_)
  · obtain ⟨z, rfl, _⟩ := h
    rfl
  · obtain ⟨z, rfl, hz, k⟩ := h
    have hzs : z.length ≤ sizeLine := sz_of (by omega)
    refine ⟨_, (pss_cons (ps_if (pt_not (pt_chain op_le op_le pe_int (pe_callB call_len_str (by rfl) T.z_len PySem.boot_len (pa_cons (pv 0) pa_nil)) (pe_gI rfl T.c_LONGEST_NAME))) (pss_one (ps_ret pe_bl)) pss_nil)
      (pss_one (ps_ret (pe_and (pe_cmpR op_in_sign (pe_ix ix_str (pv 0) pe_int (fun _ _ => rfl)) (pe_gS rfl T.c_LETTERS) rfl) (pe_one (pe_callB (cr_all rfl) (by rfl) T.z_all (by decide +kernel) (pa_cons (pe_lc (own := [("sign", 1)]) (g := gName 1) (tt := tYes) rfl sc_is_name.nd (pi_str (pv 0)) (blkOk_by (N := ["text", "sign"]) (sc := defScope s_is_name) (by decide +kernel)) (fun _ _ _ _ _ => pg_name (i := 1) sc_is_name.nd rfl (Or.inl rfl)) (fun _ _ _ _ _ => pts_nil) (fun _ _ _ _ _ => (pe_or (pe_cmpR op_in_sign (pv 1) (pe_gS rfl T.c_LETTERS) rfl) (pe_one (pe_cmpR op_in_sign (pv 1) (pe_gS rfl T.c_DIGITS) rfl))))) pa_nil))))))), ?_⟩
    have no : ¬ (1 ≤ z.length ∧ z.length ≤ 12) → Q (.bl false) H := fun n => by
      have e : isName z = false := by
        unfold isName
        rw [decide_eq_false n]
        rfl
      have q := k H (Ex.refl H)
      rw [e] at q
      exact q
    refine ⟨_, rfl, _, rfl, hzs, _, _, rfl, rfl, _, rfl, ?_⟩
    refine ite2 (fun h1 => ?_) (fun h1 => ?_)
    · refine ⟨_, _, rfl, rfl, _, rfl, ?_⟩
      have h1' : 1 ≤ z.length := by
        have := of_decide_eq_true h1
        omega
      refine ite2 (fun h2 => ?_) (fun h2 => ?_)
      · exact no (fun n => by simp at h2; omega)
      · have h2' : z.length ≤ 12 := by
          simp at h2
          omega
        have hsz : z.cps.size = z.length := rfl
        obtain ⟨c0, hc0⟩ : ∃ c, z.cps[0]? = some c := ⟨_, Array.getElem?_eq_getElem (by omega)⟩
        have hl0 : z.cps.toList[0]? = some c0 := by rw [Array.getElem?_toList]; exact hc0
        have hh : z.cps.toList.head? = some c0 := by rw [List.head?_eq_getElem?]; exact hl0
        refine ⟨_, rfl, z, 0, c0, rfl, rfl, hzs, ?_, ?_⟩
        · have := atI_nat (j := 0) hl0
          simpa using this
        · refine ⟨c0, _, rfl, rfl, _, rfl, ?_⟩
          have rest : ∀ H', Ex H H' → Q (.bl (decide (c0 ∈ LETS) && z.cps.toList.all okSign)) H' := fun H' e => by
            have q := k H' e
            have ei : isName z = (decide (c0 ∈ LETS) && z.cps.toList.all okSign) := by
              unfold isName
              rw [decide_eq_true (show 1 ≤ z.length ∧ z.length ≤ 12 from ⟨h1', h2'⟩), hh]
              rfl
            rw [ei] at q
            exact q
          refine ite2 (fun h3 => ?_) (fun h3 => ?_)
          · have h3' : decide (c0 ∈ LETS) = true := h3
            rw [h3', Bool.true_and] at rest
            have hlen : z.cps.toList.length = z.cps.size := Array.length_toList
            refine ⟨_, rfl, z, rfl, fun D hD => lcY_sign (fun i H' => H D = none ∧ Ex H H' ∧ H' D = some (.lst ((z.cps.toList.take i).map fun c => V.bl (okSign c)))) ⟨hD, Ex.new hD, upd_same⟩ (fun i c H' hc p => ?_) (fun H' p => ?_)⟩
            · obtain ⟨p1, p2, p3⟩ := p
              have hil : i < z.cps.size := (Array.getElem?_eq_some_iff.mp hc).1
              have hlc : z.cps.toList[i]? = some c := by rw [Array.getElem?_toList]; exact hc
              have stp : (z.cps.toList.take (i + 1)).map (fun c => V.bl (okSign c)) = (z.cps.toList.take i).map (fun c => V.bl (okSign c)) ++ [V.bl (okSign c)] := by
                rw [List.take_add_one, hlc, List.map_append]
                rfl
              have fin : ∃ acc, H' D = some (.lst acc) ∧ acc.length < sizeLine ∧ H D = none ∧ Ex H (upd H' D (.lst (acc ++ [V.bl (okSign c)]))) ∧ (upd H' D (.lst (acc ++ [V.bl (okSign c)]))) D = some (.lst ((z.cps.toList.take (i + 1)).map fun c => V.bl (okSign c))) := by
                refine ⟨_, p3, sz_lt ?_, p1, Ex.mut p2 p1, ?_⟩
                · rw [List.length_map, List.length_take]
                  omega
                · rw [stp]
                  exact upd_same
              refine ⟨rfl, ?_⟩
              refine ⟨_, rfl, c, _, rfl, rfl, _, rfl, ?_⟩
              refine ite2 (fun h5 => ?_) (fun h5 => ?_)
              · have e : okSign c = true := by
                  unfold okSign
                  rw [show decide (c ∈ LETS) = true from h5]
                  rfl
                rw [e] at fin
                exact fin
              · refine ⟨_, rfl, c, _, rfl, rfl, ?_⟩
                have e : okSign c = decide (c ∈ DIGS) := by
                  unfold okSign
                  rw [show decide (c ∈ LETS) = false from Bool.eq_false_iff.mpr h5]
                  rfl
                rw [e] at fin
                exact fin
            · obtain ⟨p1, p2, p3⟩ := p
              rw [← hlen, List.take_length] at p3
              refine ⟨D, z.cps.toList.map okSign, rfl, ?_, ?_⟩
              · rw [List.map_map]
                exact SqL.of p3
              · have q := rest H' p2
                have e : (z.cps.toList.map okSign).all id = z.cps.toList.all okSign := by
                  rw [List.all_map]
                  rfl
                rw [e]
                exact q
          · have h3' : decide (c0 ∈ LETS) = false := Bool.eq_false_iff.mpr h3
            rw [h3', Bool.false_and] at rest
            exact rest H (Ex.refl H)
    · exact ⟨_, rfl, no (fun n => by simp at h1; omega)⟩
end
end EV

set_option Elab.async false
set_option linter.all false
set_option maxRecDepth 100000
set_option maxHeartbeats 4000000
namespace EV
open PySem PySem.Spec PyProof.Rows L2 EvS Evl
def Small (l : List Int) : Prop := ∀ n ∈ l, 0 ≤ n ∧ n < 1009
theorem small_snoc {l : List Int} {n : Int} (h : Small l) (a : 0 ≤ n) (b : n < 1009) : Small (l ++ [n]) := fun x hx => by
  rcases List.mem_append.mp hx with q | q
  · exact h x q
  · rw [List.mem_singleton] at q
    subst q
    exact ⟨a, b⟩
/-- a new list of m small numbers -/
def NewNums (m : Int) (H : Hp) (Q : VK) : Prop := ∀ H' p (ns : List Int), Ex H H' → H p = none → H' p = some (.lst (ns.map V.int)) → (ns.length : Int) = m → Small ns → Q (.ref p) H'
def sp__law_row : Sp := fun vs H Q _ => ∃ (c m : Int), vs = [.int c, .int m] ∧ 0 ≤ m ∧ m ≤ 10000 ∧ NewNums m H Q
def sp__law_numbers (K : PySem.W.Frag) : Sp := fun vs H Q _ => ∃ (p : Addr) (ns : List Int) (m : Int), vs = [.ref p, .int m] ∧ SqL K H p (ns.map V.int) ∧ 0 ≤ m ∧ m ≤ 1000 ∧ NewNums m H Q
theorem cutV_to (xs : List V) (k : Nat) : cutV xs none (some (k : Int)) = xs.take k := by
  unfold cutV
  rw [HT.sIx_nat, HT.sIx_none, List.drop_zero, Nat.sub_zero]
  rcases Nat.le_total k xs.length with h | h
  · rw [Nat.min_eq_left h]
  · rw [Nat.min_eq_right h, List.take_length, List.take_of_length_le h]
section
variable {P : Program} {w : World} {K : PySem.W.Frag} {mg : Str → Option Value} {base : Heap} {a : Ad}
theorem G__law_row (T : Txt K mg a) : FnOk P w K mg base CX0 1 a.f__law_row a.d__law_row ["cell", "many"] sp__law_row := by
  refine T.F__law_row.ok sc__law_row (fun vs H Q E h => ?_) (fun cdv A outer s H vs Q E hr h => ?_)
  · obtain ⟨c, m, rfl, _⟩ := h
    rfl
  · obtain ⟨c, m, rfl, m0, m1, k⟩ := h
    refine ⟨_, (pss_cons (ps_set (i := 2) sc__law_row.nd rfl (Or.inl rfl) (pe_lst pa_nil))
      (pss_cons (ps_set (i := 3) sc__law_row.nd rfl (Or.inl rfl) (pe_callB call_abs (by rfl) T.z_abs (by decide +kernel) (pa_cons (pv 0) pa_nil)))
      (pss_cons (ps_set (i := 4) sc__law_row.nd rfl (Or.inl rfl) (pe_op op_mod (pe_callTy call_int1 (by rfl) T.z_int (by decide +kernel) (pa_cons (pe_op op_add (pe_op op_mul (pv 3) pe_int) pe_int) pa_nil)) pe_int))
      (pss_cons (ps_for PassesOwn.never rfl (pi_range1 (by rfl) T.z_range (pa_cons (pv 1) pa_nil)) (pg_name (i := 5) sc__law_row.nd rfl (Or.inl rfl)) (pss_cons (ps_set (i := 4) sc__law_row.nd rfl (Or.inl rfl) (pe_op op_mod (pe_callTy call_int1 (by rfl) T.z_int (by decide +kernel) (pa_cons (pe_op op_add (pe_op op_mul (pv 4) pe_int) (pe_op op_mul pe_int (pe_op op_add (pv 5) pe_int))) pa_nil)) pe_int))
        (pss_one (ps_if (pt_cmpR op_ge (pe_callB call_abs (by rfl) T.z_abs (by decide +kernel) (pa_cons (pv 0) pa_nil)) (pe_op op_pow pe_int pe_int) (nomark _)) (pss_cons (ps_expr (pe_bm PySem.F.plainAttrs_list PySem.F.slot_list_append PySem.F.type_list_append mt_append (pv 2) (pa_cons (pe_op op_mod (pe_callTy call_int1 (by rfl) T.z_int (by decide +kernel) (pa_cons (pv 3) pa_nil)) pe_int) pa_nil)))
          (pss_one (ps_set (i := 3) sc__law_row.nd rfl (Or.inl rfl) (pe_op op_fdiv (pv 3) pe_int)))) (pss_one (ps_expr (pe_bm PySem.F.plainAttrs_list PySem.F.slot_list_append PySem.F.type_list_append mt_append (pv 2) (pa_cons (pe_op op_mod (pe_callTy call_int1 (by rfl) T.z_int (by decide +kernel) (pa_cons (pe_op op_fdiv (pv 4) pe_int) pa_nil)) pe_int) pa_nil))))))))
      (pss_one (ps_ret (pv 2))))))), ?_⟩
    refine ⟨Nat.zero_le _, fun l hl => ?_⟩
    refine ⟨_, rfl, _, rfl, ?_⟩
    refine ⟨_, rfl, _, _, rfl, rfl, .inr ⟨by decide, by decide⟩, _, _, rfl, rfl, .inl ⟨_, rfl, _, _, rfl, rfl, (by show (0 : Int) < 2147483647; decide), ?_⟩⟩
    refine ⟨_, rfl, _, rfl, by omega, by omega, for_range (n := m.toNat) (fun i σ H' => ∃ (r x : Int) (ns : List Int) (v : Option V), σ = [some (.int c), some (.int m), some (.ref l), some (.int r), some (.int x), v] ∧ Ex H H' ∧ H' l = some (.lst (ns.map V.int)) ∧ ns.length = i ∧ Small ns) ?_ ?_ ?_⟩
    · exact ⟨_, _, [], none, rfl, Ex.new hl, upd_same, rfl, fun n hn => by cases hn⟩
    · rintro i σ H' hi ⟨r, x, ns, v, rfl, e, hL, hlen, hs⟩
      have room : (ns.map V.int).length < sizeLine := sz_lt (by rw [List.length_map]; omega)
      have nx : ∀ (r' x' y : Int), 0 ≤ y → y < 1009 → ∃ (r x : Int) (ns' : List Int) (v' : Option V), [some (V.int c), some (V.int m), some (V.ref l), some (V.int r'), some (V.int x'), some (V.int (0 + (i : Int)))] = [some (V.int c), some (V.int m), some (V.ref l), some (V.int r), some (V.int x), v'] ∧
          Ex H (upd H' l (.lst (ns.map V.int ++ [V.int y]))) ∧ (upd H' l (.lst (ns.map V.int ++ [V.int y]))) l = some (.lst (ns'.map V.int)) ∧ ns'.length = i + 1 ∧ Small ns' := fun r' x' y h0 h1 =>
        ⟨_, _, ns ++ [y], _, rfl, Ex.mut e hl, by rw [upd_same, List.map_append] <;> rfl, by rw [List.length_append, hlen] <;> rfl, small_snoc hs h0 h1⟩
      refine ⟨_, rfl, _, _, rfl, rfl, .inr ⟨by decide, by decide⟩, _, rfl, _, _, rfl, rfl, _, _, rfl, rfl, .inl ⟨by decide, by decide⟩, _, _, rfl, rfl, .inl ⟨_, rfl, _, _, rfl, rfl, (by show (0 : Int) < 2147483629; decide), ?_⟩⟩
      refine ⟨_, rfl, _, rfl, _, _, rfl, rfl, ⟨by decide, by decide, by decide⟩, _, _, rfl, rfl, _, rfl, ?_⟩
      refine ite2 (fun _ => ?_) (fun _ => ?_)
      · refine ⟨_, rfl, .inl ⟨rfl, _, SqL.of hL⟩, _, rfl, .inl ⟨_, rfl, _, _, rfl, rfl, (by show (0 : Int) < 1009; decide), l, _, _, rfl, rfl, hL, room, ?_⟩⟩
        refine ⟨_, rfl, _, _, rfl, rfl, ⟨by decide, by decide⟩, ?_⟩
        exact nx _ _ _ (Int.emod_nonneg _ (by decide)) (Int.emod_lt_of_pos _ (by decide))
      · refine ⟨_, rfl, .inl ⟨rfl, _, SqL.of hL⟩, _, rfl, _, _, rfl, rfl, ⟨by decide, by decide⟩, .inl ⟨_, rfl, _, _, rfl, rfl, (by show (0 : Int) < 1009; decide), l, _, _, rfl, rfl, hL, room, ?_⟩⟩
        exact nx _ _ _ (Int.emod_nonneg _ (by decide)) (Int.emod_lt_of_pos _ (by decide))
    · rintro σ H' ⟨r, x, ns, v, rfl, e, hL, hlen, hs⟩
      exact ⟨_, rfl, k H' l ns e hl hL (by omega) hs⟩
theorem G__law_numbers (T : Txt K mg a) : FnOk P w K mg base CX0 2 a.f__law_numbers a.d__law_numbers ["script", "many"] (sp__law_numbers K) := by
  refine T.F__law_numbers.ok sc__law_numbers (fun vs H Q E h => ?_) (fun cdv A outer s H vs Q E hr h => ?_)
  · obtain ⟨p, ns, m, rfl, _⟩ := h
    rfl
  · obtain ⟨p, ns, m, rfl, hS, m0, m1, k⟩ := h
    refine ⟨_, (pss_cons (ps_set (i := 2) sc__law_numbers.nd rfl (Or.inl rfl) (pe_slice sl_list (pv 0) po_none (po_some pe_int)))
      (pss_cons (ps_set (i := 3) sc__law_numbers.nd rfl (Or.inl rfl) (pe_op op_add pe_int (pe_op op_fdivN (pv 1) (pe_callB (call_max2 rfl) (by rfl) T.z_max (by decide +kernel) (pa_cons pe_int (pa_cons (pe_callB call_len_seq (by rfl) T.z_len PySem.boot_len (pa_cons (pv 2) pa_nil)) pa_nil))))))
      (pss_cons (ps_set (i := 4) sc__law_numbers.nd rfl (Or.inl rfl) (pe_lst pa_nil))
      (pss_cons (ps_for PassesOwn.never rfl (pi_list (pv 2)) (pg_name (i := 5) sc__law_numbers.nd rfl (Or.inl rfl)) (pss_one (ps_for PassesOwn.never rfl (pi_list (pe_call (G__law_row T) (hr.mono (by decide)) (by rfl) T.g__law_row T.k__law_row T.B__law_row .nil pass0 (pa_cons (pv 5) (pa_cons (pv 3) pa_nil)))) (pg_name (i := 6) sc__law_numbers.nd rfl (Or.inl rfl)) (pss_one (ps_expr (pe_bm PySem.F.plainAttrs_list PySem.F.slot_list_append PySem.F.type_list_append mt_append (pv 4) (pa_cons (pv 6) pa_nil)))))))
      (pss_cons (ps_while PassesOwn.never (pt_cmpR op_lt (pe_callB call_len_seq (by rfl) T.z_len PySem.boot_len (pa_cons (pv 4) pa_nil)) (pv 1) (nomark _)) (pss_one (ps_expr (pe_bm PySem.F.plainAttrs_list PySem.F.slot_list_append PySem.F.type_list_append mt_append (pv 4) (pa_cons pe_int pa_nil)))))
      (pss_one (ps_ret (pe_slice sl_list (pv 4) po_none (po_some (pv 1)))))))))), ?_⟩
    -- cells = script[:63]
    refine ⟨_, rfl, _, rfl, p, _, rfl, hS, fun q hq => ?_⟩
    have hcs : cutV (ns.map V.int) none (some ((63 : Nat) : Int)) = (ns.take 63).map V.int := by
      rw [cutV_to, List.map_take]
    show tSeq _ _ _ _ (upd H q (.lst (cutV (ns.map V.int) none (some ((63 : Nat) : Int)))))
    rw [hcs]
    generalize hcd : ns.take 63 = cs
    have hcl : cs.length ≤ 63 := by
      rw [← hcd, List.length_take]
      omega
    have hlc : (cs.map V.int).length = cs.length := List.length_map ..
    have e1 : Ex H (upd H q (.lst (cs.map V.int))) := Ex.new hq
    -- each = 1 + many // max(1, len(cells))
    refine ⟨_, rfl, _, rfl, q, _, rfl, .inl (SqL.of upd_same), _, _, rfl, _, _, rfl, rfl, ⟨?_, ?_⟩, _, _, rfl, rfl, ?_⟩
    · split <;> omega
    · rw [hlc]
      split <;> omega
    generalize hd : (if ((cs.map V.int).length : Int) > 1 then ((cs.map V.int).length : Int) else 1) = d
    have d1 : 1 ≤ d := by
      rw [← hd]
      split <;> omega
    have f0 : 0 ≤ m.fdiv d := by
      rw [Int.fdiv_eq_ediv_of_nonneg _ (by omega)]
      exact Int.ediv_nonneg m0 (by omega)
    have f1 : m.fdiv d ≤ 1000 := by
      rw [Int.fdiv_eq_ediv_of_nonneg _ (by omega)]
      exact Int.le_trans (Int.ediv_le_self _ m0) m1
    generalize m.fdiv d = f at f0 f1
    -- numbers = []
    refine ⟨Nat.zero_le _, fun l hl => ?_⟩
    have hlH : H l = none := fresh_back e1 hl
    have nql : q ≠ l := ne_of_none upd_same hl
    have nlq : l ≠ q := Ne.symm nql
    refine ⟨_, rfl, q, rfl, ⟨_, SqL.of (by rw [upd_ne nql]; exact upd_same)⟩, for_list (K := K) (a := q) (xs := cs.map V.int) (fun i σ H' => ∃ (ks : List Int) (v5 v6 : Option V), σ = [some (.ref p), some (.int m), some (.ref q), some (.int (1 + f)), some (.ref l), v5, v6] ∧
      Ex H H' ∧ H' q = some (.lst (cs.map V.int)) ∧ H' l = some (.lst (ks.map V.int)) ∧ ks.length ≤ i * 1001 ∧ Small ks) ?_ ?_ ?_ ?_⟩
    · exact ⟨[], none, none, rfl, e1.trans (Ex.new hl), by rw [upd_ne nql]; exact upd_same, upd_same, by simp, fun n hn => by cases hn⟩
    · rintro i σ H' _ ⟨ks, v5, v6, rfl, e, hQ, hL, _⟩
      exact SqL.of hQ
    · rintro i y σ H' hi ⟨ks, v5, v6, rfl, e, hQ, hL, hn, hs⟩
      have hi63 : i < cs.length := by
        have z := (List.getElem?_eq_some_iff.mp hi).1
        rw [hlc] at z
        exact z
      obtain ⟨c, rfl⟩ : ∃ c, y = V.int c := by
        rw [List.getElem?_map] at hi
        cases z : cs[i]? with
        | none =>
          rw [z] at hi
          cases hi
        | some c =>
          rw [z] at hi
          exact ⟨c, (Option.some.inj hi).symm⟩
      -- for number in _law_row(cell, each)
      refine ⟨_, rfl, _, rfl, c, 1 + f, rfl, by omega, by omega, fun H2 r rs e2 hr hR hrl hrs => ⟨r, rfl, ⟨_, SqL.of hR⟩, ?_⟩⟩
      have nrl : r ≠ l := Ne.symm (ne_of_none hL hr)
      have nrq : q ≠ r := ne_of_none hQ hr
      have nlr : l ≠ r := Ne.symm nrl
      refine for_list (K := K) (a := r) (xs := rs.map V.int) (fun j σ H' => ∃ (ks' : List Int) (v6 : Option V), σ = [some (.ref p), some (.int m), some (.ref q), some (.int (1 + f)), some (.ref l), some (.int c), v6] ∧
        Ex H H' ∧ H' q = some (.lst (cs.map V.int)) ∧ H' r = some (.lst (rs.map V.int)) ∧ H' l = some (.lst (ks'.map V.int)) ∧ ks'.length = ks.length + j ∧ Small ks') ?_ ?_ ?_ ?_
      · exact ⟨ks, v6, rfl, e.trans e2, e2 _ _ hQ, hR, e2 _ _ hL, rfl, hs⟩
      · rintro j σ H' _ ⟨ks', v6, rfl, _, _, h3, _⟩
        exact SqL.of h3
      · rintro j y σ H' hj ⟨ks', v6, rfl, e3, hQ3, hR3, hL3, hn3, hs3⟩
        have hjr : j < rs.length := by
          have z := (List.getElem?_eq_some_iff.mp hj).1
          rw [List.length_map] at z
          exact z
        obtain ⟨n, hnm, rfl⟩ : ∃ n, n ∈ rs ∧ y = V.int n := by
          rw [List.getElem?_map] at hj
          cases z : rs[j]? with
          | none =>
            rw [z] at hj
            cases hj
          | some n =>
            rw [z] at hj
            exact ⟨n, List.mem_of_getElem? z, (Option.some.inj hj).symm⟩
        refine ⟨_, rfl, .inl ⟨rfl, _, SqL.of hL3⟩, _, rfl, l, _, _, rfl, rfl, hL3, sz_lt (by rw [List.length_map]; omega), ?_⟩
        exact ⟨ks' ++ [n], _, rfl, Ex.mut e3 hlH, by rw [upd_ne nql]; exact hQ3, by rw [upd_ne nrl]; exact hR3, by rw [upd_same, List.map_append] <;> rfl, by rw [List.length_append, hn3] <;> rfl, small_snoc hs3 (hrs n hnm).1 (hrs n hnm).2⟩
      · rintro σ H' ⟨ks', v6, rfl, e3, hQ3, hR3, hL3, hn3, hs3⟩
        rw [List.length_map] at hn3
        exact ⟨ks', _, _, rfl, e3, hQ3, hL3, by omega, hs3⟩
    · rintro σ H' ⟨ks, v5, v6, rfl, e, hQ, hL, hn, hs⟩
      rw [hlc] at hn
      -- while len(numbers) < many
      refine ⟨fun j σ H' => ∃ ks' : List Int, j = (m.toNat - ks'.length) ∧ σ = [some (.ref p), some (.int m), some (.ref q), some (.int (1 + f)), some (.ref l), v5, v6] ∧ Ex H H' ∧ H' l = some (.lst (ks'.map V.int)) ∧ ks'.length ≤ 70000 ∧ Small ks',
        ⟨_, ks, rfl, rfl, e, hL, by omega, hs⟩, ?_⟩
      rintro j σ H' ⟨ks', rfl, rfl, e3, hL3, hn3, hs3⟩
      have hlk : (ks'.map V.int).length = ks'.length := List.length_map ..
      refine ⟨_, rfl, l, _, rfl, .inl (SqL.of hL3), _, rfl, _, _, rfl, rfl, _, rfl, ?_⟩
      refine ite2 (fun lt => ?_) (fun ge => ?_)
      · have lt' : (ks'.length : Int) < m := by
          have z := of_decide_eq_true lt
          rw [hlk] at z
          exact z
        refine ⟨_, fun σ' H' z => z, ?_⟩
        refine ⟨_, rfl, .inl ⟨rfl, _, SqL.of hL3⟩, l, _, _, rfl, rfl, hL3, sz_lt (by rw [hlk]; omega), ?_⟩
        exact ⟨_, by show m.toNat - (ks' ++ [0]).length < _; rw [List.length_append, List.length_singleton]; omega, ks' ++ [0], rfl, rfl, Ex.mut e3 hlH, by rw [upd_same, List.map_append] <;> rfl, by rw [List.length_append, List.length_singleton]; omega, small_snoc hs3 (by decide) (by decide)⟩
      · have ge' : m ≤ (ks'.length : Int) := by
          have z : ¬ ((ks'.map V.int).length : Int) < m := fun z => ge (decide_eq_true z)
          rw [hlk] at z
          omega
        -- return numbers[:many]
        refine ⟨_, rfl, _, rfl, _, rfl, l, _, rfl, SqL.of hL3, fun u hu => ?_⟩
        have em : m = ((m.toNat : Nat) : Int) := by omega
        have hcu : cutV (ks'.map V.int) none (some m) = (ks'.take m.toNat).map V.int := by
          rw [em, cutV_to, List.map_take]
          rfl
        show Q (.ref u) (upd H' u (.lst (cutV (ks'.map V.int) none (some m))))
        rw [hcu]
        refine k _ u (ks'.take m.toNat) (e3.trans (Ex.new hu)) (fresh_back e3 hu) upd_same ?_ (fun x hx => hs3 x (List.mem_of_mem_take hx))
        rw [List.length_take]
        omega
end
end EV

set_option Elab.async false
set_option linter.all false
set_option maxRecDepth 100000
set_option maxHeartbeats 4000000
namespace EV
open PySem PySem.Spec PyProof.Rows L2 EvS Evl
/-! ### the data of a land -/
structure Link where
  n : Str
  o : Str
  t : Str
  ts : List (Option (Int × Int))
structure LandD where
  ws : List Str
  ps : List Str
  ls : List Link
  pa : List (Str × Str × Int)
def dTime : Option (Int × Int) → PyData
  | none => .none
  | some b => .tuple [.int b.1, .int b.2]
def dRaw (k : Link) : PyData := .tuple [.str k.n, .str k.o, .str k.t, .list (k.ts.map dTime)]
def dLink (k : Link) : PyData := .tuple [.str k.n, .str k.o, .str k.t, .tuple (k.ts.map dTime)]
def dPath (p : Str × Str × Int) : PyData := .tuple [.str p.1, .str p.2.1, .int p.2.2]
def dParts (D : LandD) : PyData := .list [.list (D.ws.map .str), .list (D.ps.map .str), .list (D.ls.map dRaw), .list (D.pa.map dPath)]
def dLand (D : LandD) : PyData := .tuple [.tuple (D.ws.map .str), .tuple (D.ps.map .str), .tuple (D.ls.map dLink), .tuple (D.pa.map dPath)]
def Good (ns : List Str) : Prop := (∀ n ∈ ns, isName n = true) ∧ ns.Nodup
def TimeOk : Option (Int × Int) → Prop
  | none => True
  | some b => 1 ≤ b.1 ∧ b.1 ≤ b.2 ∧ b.2 ≤ 1000
structure LinkOk (ws ps : List Str) (k : Link) : Prop where
  o : k.o ∈ ps
  t : k.t ∈ ps
  ne : k.o ≠ k.t
  len : k.ts.length = ws.length
  ok : ∀ b ∈ k.ts, TimeOk b
structure PathOk (ps : List Str) (p : Str × Str × Int) : Prop where
  o : p.1 ∈ ps
  t : p.2.1 ∈ ps
  ne : p.1 ≠ p.2.1
  lo : 1 ≤ p.2.2
  hi : p.2.2 ≤ 1000
def Apart (p q : Str × Str) : Prop := ¬ [p.1, p.2].Perm [q.1, q.2]
structure LandOk (D : LandD) : Prop where
  w1 : 1 ≤ D.ws.length
  w4 : D.ws.length ≤ 4
  p1 : 1 ≤ D.ps.length
  p24 : D.ps.length ≤ 24
  l60 : D.ls.length ≤ 60
  a60 : D.pa.length ≤ 60
  gw : Good D.ws
  gp : Good D.ps
  gl : Good (D.ls.map (·.n))
  lk : ∀ k ∈ D.ls, LinkOk D.ws D.ps k
  pt : ∀ p ∈ D.pa, PathOk D.ps p
  ap : (D.pa.map fun p => (p.1, p.2.1)).Pairwise Apart
theorem name_len {z : Str} (h : isName z = true) : 1 ≤ z.length ∧ z.length ≤ 12 := by
  unfold isName at h
  rw [Bool.and_eq_true, Bool.and_eq_true] at h
  exact of_decide_eq_true h.1.1
/-! ### data that stands -/
mutual
theorem dp_ex {K : PySem.W.Frag} {H H' : Hp} (e : Ex H H') : ∀ {v : V} {d : PyData}, Dp K H v d → Dp K H' v d
  | _, _, .non => .non
  | _, _, .bl b => .bl b
  | _, _, .int i => .int i
  | _, _, .str x => .str x
  | _, _, .lst h r => .lst (ex_l e h) (dps_ex e r)
  | _, _, .tup h r => .tup (ex_t e h) (dps_ex e r)
theorem dps_ex {K : PySem.W.Frag} {H H' : Hp} (e : Ex H H') : ∀ {vs : List V} {ds : List PyData}, DpAll K H vs ds → DpAll K H' vs ds
  | _, _, .nil => .nil
  | _, _, .cons h r => .cons (dp_ex e h) (dps_ex e r)
end
theorem dps_len {K : PySem.W.Frag} {H : Hp} : ∀ {vs : List V} {ds : List PyData}, DpAll K H vs ds → vs.length = ds.length
  | _, _, .nil => rfl
  | _, _, .cons _ r => congrArg Nat.succ (dps_len r)
theorem dps_at {K : PySem.W.Frag} {H : Hp} : ∀ {vs : List V} {ds : List PyData} {i : Nat} {v : V}, DpAll K H vs ds → vs[i]? = some v → ∃ d, ds[i]? = some d ∧ Dp K H v d
  | _, _, _, _, .nil, h => by simp at h
  | _, _, 0, _, .cons h _, e => by
    simp only [List.getElem?_cons_zero, Option.some.injEq] at e
    subst e
    exact ⟨_, rfl, h⟩
  | _, _, i + 1, _, .cons _ r, e => by
    simp only [List.getElem?_cons_succ] at e
    exact dps_at (i := i) r e
theorem dps_app {K : PySem.W.Frag} {H : Hp} : ∀ {vs us : List V} {ds es : List PyData}, DpAll K H vs ds → DpAll K H us es → DpAll K H (vs ++ us) (ds ++ es)
  | _, _, _, _, .nil, b => b
  | _, _, _, _, .cons h r, b => .cons h (dps_app r b)
theorem dps_one {K : PySem.W.Frag} {H : Hp} {v : V} {d : PyData} (h : Dp K H v d) : DpAll K H [v] [d] := .cons h .nil
theorem dps_str {K : PySem.W.Frag} {H : Hp} : ∀ ns : List Str, DpAll K H (ns.map V.str) (ns.map PyData.str)
  | [] => .nil
  | n :: r => .cons (.str n) (dps_str r)
theorem dps_strs {K : PySem.W.Frag} {H : Hp} : ∀ {ns : List Str} {vs : List V}, DpAll K H vs (ns.map PyData.str) → vs = ns.map V.str
  | [], _, .nil => rfl
  | n :: r, _, .cons h t => by
    cases h
    rw [dps_strs t]
    rfl
def Seq2 (K : PySem.W.Frag) (H : Hp) (p : Addr) (xs : List V) : Prop := SqL K H p xs ∨ SqT K H p xs
theorem Seq2.ex {K : PySem.W.Frag} {H H' : Hp} {p : Addr} {xs : List V} (e : Ex H H') (h : Seq2 K H p xs) : Seq2 K H' p xs := h.elim (fun q => .inl (ex_l e q)) (fun q => .inr (ex_t e q))
/-- a link as it is handed in: its times are a list or a tuple -/
def LinkIn (K : PySem.W.Frag) (H : Hp) (v : V) (k : Link) : Prop := ∃ t u vs, v = .ref t ∧ SqT K H t [.str k.n, .str k.o, .str k.t, .ref u] ∧ Seq2 K H u vs ∧ DpAll K H vs (k.ts.map dTime)
theorem LinkIn.ex {K : PySem.W.Frag} {H H' : Hp} {v : V} {k : Link} (e : Ex H H') (h : LinkIn K H v k) : LinkIn K H' v k := by
  obtain ⟨t, u, vs, rfl, h1, h2, h3⟩ := h
  exact ⟨t, u, vs, rfl, ex_t e h1, h2.ex e, dps_ex e h3⟩
theorem raw_in {K : PySem.W.Frag} {H : Hp} {v : V} {k : Link} (h : Dp K H v (dRaw k)) : LinkIn K H v k := by
  unfold dRaw at h
  cases h with
  | tup hs hr =>
    cases hr with
    | cons a1 hr =>
      cases a1
      cases hr with
      | cons a2 hr =>
        cases a2
        cases hr with
        | cons a3 hr =>
          cases a3
          cases hr with
          | cons a4 hr =>
            cases hr
            cases a4 with
            | lst hl ha => exact ⟨_, _, _, rfl, hs, .inl hl, ha⟩
theorem made_in {K : PySem.W.Frag} {H : Hp} {v : V} {k : Link} (h : Dp K H v (dLink k)) : LinkIn K H v k := by
  unfold dLink at h
  cases h with
  | tup hs hr =>
    cases hr with
    | cons a1 hr =>
      cases a1
      cases hr with
      | cons a2 hr =>
        cases a2
        cases hr with
        | cons a3 hr =>
          cases a3
          cases hr with
          | cons a4 hr =>
            cases hr
            cases a4 with
            | tup hl ha => exact ⟨_, _, _, rfl, hs, .inr hl, ha⟩
theorem path_in {K : PySem.W.Frag} {H : Hp} {v : V} {p : Str × Str × Int} (h : Dp K H v (dPath p)) : ∃ t, v = .ref t ∧ SqT K H t [.str p.1, .str p.2.1, .int p.2.2] := by
  unfold dPath at h
  cases h with
  | tup hs hr =>
    cases hr with
    | cons a1 hr =>
      cases a1
      cases hr with
      | cons a2 hr =>
        cases a2
        cases hr with
        | cons a3 hr =>
          cases a3
          cases hr
          exact ⟨_, rfl, hs⟩
/-- a land as it stands -/
def landFs (wi pl li pa : Addr) : List (Str × V) := putF "paths" (.ref pa) (putF "links" (.ref li) (putF "places" (.ref pl) (putF "winds" (.ref wi) [])))
structure LandAt (K : PySem.W.Frag) (C : Addr) (H : Hp) (x : Addr) (D : LandD) (dx wi pl li pa : Addr) (rows prs : List V) : Prop where
  ob : H x = some (.ins C dx (landFs wi pl li pa))
  wi : TupX.Bare H wi (D.ws.map V.str)
  pl : SqT K H pl (D.ps.map V.str)
  li : SqT K H li rows
  ls : DpAll K H rows (D.ls.map dLink)
  pa : SqT K H pa prs
  ps : DpAll K H prs (D.pa.map dPath)
def IsLand (K : PySem.W.Frag) (C : Addr) (H : Hp) (x : Addr) (D : LandD) : Prop := ∃ dx wi pl li pa rows prs, LandAt K C H x D dx wi pl li pa rows prs
theorem IsLand.ex {K : PySem.W.Frag} {C : Addr} {H H' : Hp} {x : Addr} {D : LandD} (e : Ex H H') (h : IsLand K C H x D) : IsLand K C H' x D := by
  obtain ⟨dx, wi, pl, li, pa, rows, prs, L⟩ := h
  exact ⟨dx, wi, pl, li, pa, rows, prs, e _ _ L.ob, L.wi.ex e, ex_t e L.pl, ex_t e L.li, dps_ex e L.ls, ex_t e L.pa, dps_ex e L.ps⟩
theorem fs_winds (wi pl li pa : Addr) : (landFs wi pl li pa).lookup ("winds" : Str) = some (V.ref wi) := by
  unfold landFs
  rw [lookup_putF, if_neg (by decide +kernel), lookup_putF, if_neg (by decide +kernel), lookup_putF, if_neg (by decide +kernel), lookup_putF, if_pos rfl]
theorem fs_places (wi pl li pa : Addr) : (landFs wi pl li pa).lookup ("places" : Str) = some (V.ref pl) := by
  unfold landFs
  rw [lookup_putF, if_neg (by decide +kernel), lookup_putF, if_neg (by decide +kernel), lookup_putF, if_pos rfl]
theorem fs_links (wi pl li pa : Addr) : (landFs wi pl li pa).lookup ("links" : Str) = some (V.ref li) := by
  unfold landFs
  rw [lookup_putF, if_neg (by decide +kernel), lookup_putF, if_pos rfl]
theorem fs_paths (wi pl li pa : Addr) : (landFs wi pl li pa).lookup ("paths" : Str) = some (V.ref pa) := by
  unfold landFs
  rw [lookup_putF, if_pos rfl]
/-! ### the checks, where all is well -/
theorem flat_str (ys : List Str) : (ys.map V.str).all flatV = true := by
  rw [List.all_map]
  exact List.all_eq_true.mpr fun _ _ => rfl
theorem inV_str {z : Str} {ys : List Str} (h : z ∈ ys) : inV (.str z) (ys.map V.str) = true := by
  unfold inV
  rw [List.any_map, List.any_eq_true]
  refine ⟨z, h, ?_⟩
  show (z == z) = true
  exact beq_self_eq_true z
def sp__check_count (K : PySem.W.Frag) : Sp := fun vs H Q _ => ∃ (z : Str) (p : Addr) (xs : List V) (lo hi : Int), vs = [.str z, .ref p, .int lo, .int hi] ∧ Seq2 K H p xs ∧ lo ≤ xs.length ∧ (xs.length : Int) ≤ hi ∧ Q .non H
def sp__check_names (K : PySem.W.Frag) : Sp := fun vs H Q _ => ∃ (z : Str) (p : Addr) (ns : List Str), vs = [.str z, .ref p] ∧ Seq2 K H p (ns.map V.str) ∧ ns.length ≤ 1000 ∧ Good ns ∧ ∀ H', Ex H H' → Q .non H'
def sp__check_ends (K : PySem.W.Frag) : Sp := fun vs H Q _ => ∃ (z one other : Str) (p : Addr) (ps : List Str), vs = [.str z, .str one, .str other, .ref p] ∧ Seq2 K H p (ps.map V.str) ∧ one ∈ ps ∧ other ∈ ps ∧ one ≠ other ∧ Q .non H
def sp__as_bounds (K : PySem.W.Frag) : Sp := fun vs H Q _ => ∃ (v : V) (b : Option (Int × Int)), vs = [v] ∧ Dp K H v (dTime b) ∧ TimeOk b ∧ ∀ v' H', Ex H H' → Dp K H' v' (dTime b) → Q v' H'
def sp__as_link (K : PySem.W.Frag) : Sp := fun vs H Q _ => ∃ (v : V) (wi pl : Addr) (ws ps : List Str) (k : Link), vs = [v, .ref wi, .ref pl] ∧ LinkIn K H v k ∧ Seq2 K H wi (ws.map V.str) ∧ Seq2 K H pl (ps.map V.str) ∧ LinkOk ws ps k ∧ ws.length ≤ 100 ∧
  ∀ H' p, Ex H H' → H p = none → Dp K H' (.ref p) (dLink k) → Q (.ref p) H'
def sp__as_path (K : PySem.W.Frag) : Sp := fun vs H Q _ => ∃ (v : V) (pl : Addr) (ps : List Str) (p : Str × Str × Int), vs = [v, .ref pl] ∧ Dp K H v (dPath p) ∧ Seq2 K H pl (ps.map V.str) ∧ PathOk ps p ∧ ∀ H' q, Ex H H' → H q = none → Dp K H' (.ref q) (dPath p) → Q (.ref q) H'
def sp__check_single_paths (K : PySem.W.Frag) : Sp := fun vs H Q _ => ∃ (p : Addr) (prs : List V) (pa : List (Str × Str × Int)), vs = [.ref p] ∧ SqT K H p prs ∧ DpAll K H prs (pa.map dPath) ∧ pa.length ≤ 60 ∧ (pa.map fun p => (p.1, p.2.1)).Pairwise Apart ∧ ∀ H', Ex H H' → Q .non H'
def sp_link_names (K : PySem.W.Frag) (C : Addr) : Sp := fun vs H Q _ => ∃ (x dx : Addr) (fs : List (Str × V)) (l : Addr) (rows : List V) (ls : List Link), vs = [.ref x] ∧ H x = some (.ins C dx fs) ∧ fs.lookup ("links" : Str) = some (V.ref l) ∧ SqT K H l rows ∧ DpAll K H rows (ls.map dLink) ∧ ls.length ≤ 1000 ∧
  ∀ H' p, Ex H H' → H p = none → H' p = some (.tup ((ls.map (·.n)).map V.str)) → Q (.ref p) H'
section
variable {P : Program} {w : World} {K : PySem.W.Frag} {mg : Str → Option Value} {base : Heap} {a : Ad}
theorem G__check_count (T : Txt K mg a) : FnOk P w K mg base CX0 1 a.f__check_count a.d__check_count ["sort", "rows", "least", "most"] (sp__check_count K) := by
  refine T.F__check_count.ok sc__check_count (fun vs H Q E h => ?_) (fun cdv A outer s H vs Q E hr h => ?_)
  · obtain ⟨z, p, xs, lo, hi, rfl, _⟩ := h
    rfl
  · obtain ⟨z, p, xs, lo, hi, rfl, hS, h1, h2, k⟩ := h
    refine ⟨_, (pss_one (ps_if (pt_not (pt_chain op_le op_le (pv 2) (pe_callB call_len_seq (by rfl) T.z_len PySem.boot_len (pa_cons (pv 1) pa_nil)) (pv 3))) pss_any pss_nil)), ?_⟩
    refine ⟨_, rfl, _, rfl, p, _, rfl, hS, _, _, rfl, rfl, _, rfl, ?_⟩
    refine ite2 (fun _ => ?_) (fun n => absurd (decide_eq_true h1) n)
    exact ⟨_, rfl, _, _, rfl, rfl, _, rfl, iteNS h2 k⟩
theorem G__check_names (T : Txt K mg a) : FnOk P w K mg base CX0 2 a.f__check_names a.d__check_names ["sort", "names"] (sp__check_names K) := by
  refine T.F__check_names.ok sc__check_names (fun vs H Q E h => ?_) (fun cdv A outer s H vs Q E hr h => ?_)
  · obtain ⟨z, p, ns, rfl, _⟩ := h
    rfl
  · obtain ⟨z, p, ns, rfl, hS, hl, hg, k⟩ := h
    refine ⟨_, (pss_cons (ps_for PassesOwn.never rfl (pi_or (pi_list (pv 1)) (pi_tup (pv 1))) (pg_name (i := 2) sc__check_names.nd rfl (Or.inl rfl)) (pss_one (ps_if (pt_not (pt_val (pe_call (G_is_name T) (hr.mono (by decide)) (by rfl) T.g_is_name T.k_is_name T.B_is_name .nil pass0 (pa_cons (pv 2) pa_nil)))) pss_any pss_nil)))
      (pss_one (ps_if (pt_cmpR op_ne (pe_lenSetS rfl (by rfl) T.z_len (by rfl) T.z_set (pv 1)) (pe_callB call_len_seq (by rfl) T.z_len PySem.boot_len (pa_cons (pv 1) pa_nil)) (nomark _)) pss_any pss_nil))), ?_⟩
    have hlen : (ns.map V.str).length = ns.length := List.length_map ..
    have pick : ∀ {i : Nat} {y : V}, (ns.map V.str)[i]? = some y → ∃ n, n ∈ ns ∧ y = .str n := fun {i y} hy => by
      rw [List.getElem?_map] at hy
      cases q : ns[i]? with
      | none =>
        rw [q] at hy
        cases hy
      | some n =>
        rw [q] at hy
        exact ⟨n, List.mem_of_getElem? q, (Option.some.inj hy).symm⟩
    have dl := (dd_len_eq ns [] List.nodup_nil).mpr (by rw [List.nil_append]; exact hg.2)
    rw [List.length_nil, Nat.zero_add] at dl
    rcases hS with hS | hS
    · refine .inl ⟨_, rfl, p, rfl, ⟨_, hS⟩, for_list (K := K) (a := p) (xs := ns.map V.str) (fun i σ H' => ∃ v, σ = [some (V.str z), some (V.ref p), v] ∧ Ex H H') ⟨none, rfl, Ex.refl H⟩ ?_ ?_ ?_⟩
      · rintro i σ H' _ ⟨v, rfl, e⟩
        exact ex_l e hS
      · rintro i y σ H' hy ⟨v, rfl, e⟩
        obtain ⟨n, hn, rfl⟩ := pick hy
        have nl := name_len (hg.1 n hn)
        refine ⟨_, rfl, n, rfl, by omega, fun H2 e2 => ⟨_, rfl, ?_⟩⟩
        rw [hg.1 n hn]
        exact iteF ⟨_, rfl, e.trans e2⟩
      · rintro σ H' ⟨v, rfl, e⟩
        refine ⟨_, rfl, p, ns, rfl, .inl (ex_l e hS), by omega, _, rfl, p, _, rfl, .inl (ex_l e hS), rfl, _, rfl, ?_⟩
        rw [hlen, dl]
        exact iteNS rfl (k _ e)
    · refine .inr ⟨_, rfl, p, rfl, ⟨_, hS⟩, for_tup (K := K) (a := p) (xs := ns.map V.str) (fun i σ H' => ∃ v, σ = [some (V.str z), some (V.ref p), v] ∧ Ex H H') ⟨none, rfl, Ex.refl H⟩ ?_ ?_ ?_⟩
      · rintro i σ H' _ ⟨v, rfl, e⟩
        exact ex_t e hS
      · rintro i y σ H' hy ⟨v, rfl, e⟩
        obtain ⟨n, hn, rfl⟩ := pick hy
        have nl := name_len (hg.1 n hn)
        refine ⟨_, rfl, n, rfl, by omega, fun H2 e2 => ⟨_, rfl, ?_⟩⟩
        rw [hg.1 n hn]
        exact iteF ⟨_, rfl, e.trans e2⟩
      · rintro σ H' ⟨v, rfl, e⟩
        refine ⟨_, rfl, p, ns, rfl, .inr (ex_t e hS), by omega, _, rfl, p, _, rfl, .inr (ex_t e hS), rfl, _, rfl, ?_⟩
        rw [hlen, dl]
        exact iteNS rfl (k _ e)
theorem G__check_ends (T : Txt K mg a) : FnOk P w K mg base CX0 1 a.f__check_ends a.d__check_ends ["sort", "one", "other", "places"] (sp__check_ends K) := by
  refine T.F__check_ends.ok sc__check_ends (fun vs H Q E h => ?_) (fun cdv A outer s H vs Q E hr h => ?_)
  · obtain ⟨z, one, other, p, ps, rfl, _⟩ := h
    rfl
  · obtain ⟨z, one, other, p, ps, rfl, hS, h1, h2, h3, k⟩ := h
    refine ⟨_, (pss_cons (ps_if (PW.pt (pw_or (pt_cmpR op_notIn_seq (pv 1) (pv 3) (by rfl)) (pw_or1 (pt_cmpR op_notIn_seq (pv 2) (pv 3) (by rfl))))) pss_any pss_nil)
      (pss_one (ps_if (pt_cmpR op_eq (pv 1) (pv 2) (nomark _)) pss_any pss_nil))), ?_⟩
    refine ⟨_, rfl, _, rfl, p, _, rfl, hS, rfl, flat_str _, _, rfl, ?_⟩
    rw [inV_str h1]
    refine iteF ⟨_, rfl, _, rfl, p, _, rfl, hS, rfl, flat_str _, _, rfl, ?_⟩
    rw [inV_str h2]
    refine iteF ?_
    refine ⟨_, rfl, _, rfl, rfl, _, rfl, ?_⟩
    rw [decide_eq_false (fun q => h3 (V.str.inj q))]
    exact iteF k
theorem G__as_bounds (T : Txt K mg a) : FnOk P w K mg base CX0 1 a.f__as_bounds a.d__as_bounds ["bounds"] (sp__as_bounds K) := by
  refine T.F__as_bounds.ok sc__as_bounds (fun vs H Q E h => ?_) (fun cdv A outer s H vs Q E hr h => ?_)
  · obtain ⟨v, b, rfl, _⟩ := h
    rfl
  · obtain ⟨v, b, rfl, hv, hok, k⟩ := h
    refine ⟨_, (pss_cons (ps_if (pt_cmpR op_isN (pv 0) pe_non (nomark _)) (pss_one (ps_ret pe_non)) pss_nil)
      (pss_cons (ps_if (pt_cmpR op_ne (pe_callB call_len_seq (by rfl) T.z_len PySem.boot_len (pa_cons (pv 0) pa_nil)) pe_int (nomark _)) pss_any pss_nil)
      (pss_cons (ps_asg (pv 0) (pg_tup (by rfl) (pgs_cons (pg_name (i := 1) sc__as_bounds.nd rfl (Or.inl rfl)) (pgs_cons (pg_name (i := 2) sc__as_bounds.nd rfl (Or.inl rfl)) pgs_nil))))
      (pss_cons (ps_if (pt_not (pt_chain3 op_le op_le op_le pe_int (pv 1) (pv 2) (pe_gI rfl T.c_MOST_MINUTES))) pss_any pss_nil)
      (pss_one (ps_ret (pe_tup (pa_cons (pv 1) (pa_cons (pv 2) pa_nil))))))))), ?_⟩
    cases b with
    | none =>
      cases hv
      exact ⟨_, rfl, rfl, _, rfl, iteT (k .non H (Ex.refl H) .non)⟩
    | some b =>
      obtain ⟨lo, hi⟩ := b
      obtain ⟨o1, o2, o3⟩ := hok
      cases hv with
      | tup hs hr =>
        cases hr with
        | cons a1 hr =>
          cases a1
          cases hr with
          | cons a2 hr =>
            cases a2
            cases hr
            rename_i p
            refine ⟨_, rfl, rfl, _, rfl, iteF ?_⟩
            refine ⟨_, rfl, p, _, rfl, .inr hs, rfl, _, rfl, iteNS rfl ?_⟩
            refine ⟨_, rfl, p, _, rfl, hs, rfl, _, _, rfl, _, _, rfl, rfl, ?_⟩
            refine ⟨_, rfl, _, _, rfl, rfl, _, rfl, ?_⟩
            refine ite2 (fun _ => ?_) (fun n => absurd (decide_eq_true o1) n)
            refine ⟨_, rfl, _, _, rfl, rfl, _, rfl, ?_⟩
            refine ite2 (fun _ => ?_) (fun n => absurd (decide_eq_true o2) n)
            refine ⟨_, _, rfl, rfl, _, rfl, iteNS o3 ?_⟩
            refine ⟨_, rfl, _, rfl, by show 2 ≤ sizeLine; decide, fun q hq => ?_⟩
            exact k _ _ (Ex.new hq) (.tup (st_of upd_same) (.cons (.int lo) (.cons (.int hi) .nil)))
theorem G_link_names (T : Txt K mg a) : FnOk P w K mg base CX0 1 a.f_link_names a.d_link_names ["self"] (sp_link_names K a.C) := by
  refine T.F_link_names.ok sc_link_names (fun vs H Q E h => ?_) (fun cdv A outer s H vs Q E hr h => ?_)
  · obtain ⟨x, dx, fs, l, rows, ls, rfl, _⟩ := h
    rfl
  · obtain ⟨x, dx, fs, l, rows, ls, rfl, hx, hf, hl, hd, hmax, k⟩ := h
    have hlen : rows.length = ls.length := by rw [dps_len hd, List.length_map]
    refine ⟨_, (pss_one (ps_ret (pe_callTy call_tupK (by rfl) T.z_tuple (by decide +kernel) (pa_cons (pe_lc (own := [("link", 1)]) (g := gName 1) (tt := tYes) rfl sc_link_names.nd (pi_tup (pe_fld (pv 0) rfl)) (blkOk_by (N := ["self", "link"]) (sc := defScope s_link_names) (by decide +kernel)) (fun _ _ _ _ _ => pg_name (i := 1) sc_link_names.nd rfl (Or.inl rfl)) (fun _ _ _ _ _ => pts_nil) (fun _ _ _ _ _ => (pe_ix (show IxR _ (rIxT K) from ix_tup) (pv 1) pe_int (fun _ _ => rfl)))) pa_nil)))), ?_⟩
    refine ⟨_, rfl, x, _, dx, fs, _, rfl, hx, T.cl, T.nL, hf, l, rfl, ⟨_, hl⟩, fun D hD => lcY_tup (K := K) (a := l) (xs := rows) (fun i H' => Ex H H' ∧ H' D = some (.lst (((ls.map (·.n)).take i).map V.str))) ⟨Ex.new hD, upd_same⟩ (fun i H' _ p => ex_t p.1 hl) (fun i r H' hi p => ?_) (fun H' p => ?_)⟩
    · obtain ⟨d, hd1, hd2⟩ := dps_at hd hi
      have hil : i < rows.length := (List.getElem?_eq_some_iff.mp hi).1
      obtain ⟨k0, hk0⟩ : ∃ k0, ls[i]? = some k0 := ⟨ls[i]'(by omega), List.getElem?_eq_getElem (by omega)⟩
      rw [List.getElem?_map, hk0] at hd1
      obtain rfl : dLink k0 = d := Option.some.inj hd1
      obtain ⟨t, u, vs, rfl, hT, _, _⟩ := made_in hd2
      refine ⟨rfl, _, rfl, t, _, 0, .str k0.n, rfl, rfl, ex_t p.1 hT, atI_nat (j := 0) rfl, _, p.2, sz_lt (by rw [List.length_map, List.length_take, List.length_map]; omega), Ex.mut p.1 hD, ?_⟩
      rw [upd_same, List.take_add_one, List.getElem?_map, hk0, List.map_append]
      rfl
    · rw [hlen, ← List.length_map (f := (·.n)), List.take_length] at p
      refine ⟨D, _, rfl, .inl ⟨SqL.of p.2, fun q hq => ?_⟩⟩
      exact k _ q (p.1.trans (Ex.new hq)) (fresh_back p.1 hq) upd_same
end
end EV

set_option Elab.async false
set_option linter.all false
set_option maxRecDepth 100000
set_option maxHeartbeats 4000000
namespace EV
open PySem PySem.Spec PyProof.Rows L2 EvS Evl
/-! ### data without lists stands while lists change -/
mutual
def frozen : PyData → Bool
  | .none => true
  | .bool _ => true
  | .int _ => true
  | .str _ => true
  | .tuple ds => frozenAll ds
  | .list _ => false
  | .dict _ => false
def frozenAll : List PyData → Bool
  | [] => true
  | d :: ds => frozen d && frozenAll ds
end
theorem frozenAll_of : ∀ {ds : List PyData}, (∀ d ∈ ds, frozen d = true) → frozenAll ds = true
  | [], _ => by simp [frozenAll]
  | d :: ds, h => by
    rw [frozenAll, h d List.mem_cons_self, frozenAll_of fun x hx => h x (List.mem_cons_of_mem _ hx)]
    rfl
theorem frozen_time (b : Option (Int × Int)) : frozen (dTime b) = true := by cases b <;> simp [dTime, frozen, frozenAll]
theorem frozen_times (ts : List (Option (Int × Int))) : frozenAll (ts.map dTime) = true := frozenAll_of fun d hd => by
  obtain ⟨b, _, rfl⟩ := List.mem_map.mp hd
  exact frozen_time b
theorem frozen_link (k : Link) : frozen (dLink k) = true := by simp [dLink, frozen, frozenAll, frozen_times]
theorem frozen_path (p : Str × Str × Int) : frozen (dPath p) = true := by simp [dPath, frozen, frozenAll]
theorem frozen_links (ls : List Link) : frozenAll (ls.map dLink) = true := frozenAll_of fun d hd => by
  obtain ⟨b, _, rfl⟩ := List.mem_map.mp hd
  exact frozen_link b
theorem frozen_paths (ls : List (Str × Str × Int)) : frozenAll (ls.map dPath) = true := frozenAll_of fun d hd => by
  obtain ⟨b, _, rfl⟩ := List.mem_map.mp hd
  exact frozen_path b
theorem frozen_strs (ls : List Str) : frozenAll (ls.map PyData.str) = true := frozenAll_of fun d hd => by
  obtain ⟨b, _, rfl⟩ := List.mem_map.mp hd
  simp [frozen]
theorem frozen_land (D : LandD) : frozen (dLand D) = true := by simp [dLand, frozen, frozenAll, frozen_links, frozen_paths, frozen_strs]
def ExT (H H' : Hp) : Prop := ∀ a xs, Rd H a (.tup xs) → Rd H' a (.tup xs)
theorem exT_of {H H' : Hp} (e : Ex H H') : ExT H H' := fun _ _ h => ex_rd e h
theorem ExT.trans {H H1 H2 : Hp} (a : ExT H H1) (b : ExT H1 H2) : ExT H H2 := fun x y h => b x y (a x y h)
theorem exT_mut {H : Hp} {l : Addr} {xs ys : List V} (h : H l = some (.lst xs)) : ExT H (upd H l (.lst ys)) := fun a zs r => by
  rcases r with r | ⟨o, r⟩
  · exact .inl (by rw [upd_ne (ne_of r h (by intro z; cases z))]; exact r)
  · exact .inr ⟨o, by rw [upd_ne (ne_of r h (by intro z; cases z))]; exact r⟩
theorem exT_t {K : PySem.W.Frag} {H H' : Hp} {p : Addr} {xs : List V} (e : ExT H H') (h : SqT K H p xs) : SqT K H' p xs := h.elim (fun r => .inl (e _ _ r)) .inr
mutual
theorem dp_exT {K : PySem.W.Frag} {H H' : Hp} (e : ExT H H') : ∀ {v : V} {d : PyData}, Dp K H v d → frozen d = true → Dp K H' v d
  | _, _, .non, _ => .non
  | _, _, .bl b, _ => .bl b
  | _, _, .int i, _ => .int i
  | _, _, .str x, _ => .str x
  | _, _, .lst _ _, f => by simp [frozen] at f
  | _, _, .tup h r, f => .tup (exT_t e h) (dps_exT e r (by simpa [frozen] using f))
theorem dps_exT {K : PySem.W.Frag} {H H' : Hp} (e : ExT H H') : ∀ {vs : List V} {ds : List PyData}, DpAll K H vs ds → frozenAll ds = true → DpAll K H' vs ds
  | _, _, .nil, _ => .nil
  | _, _, .cons h r, f => by
    simp only [frozenAll, Bool.and_eq_true] at f
    exact .cons (dp_exT e h f.1) (dps_exT e r f.2)
end
/-! ### side by side -/
inductive All2 {α β : Type} (R : α → β → Prop) : List α → List β → Prop
  | nil : All2 R [] []
  | cons {a : α} {b : β} {as : List α} {bs : List β} : R a b → All2 R as bs → All2 R (a :: as) (b :: bs)
theorem All2.len {α β : Type} {R : α → β → Prop} : ∀ {as : List α} {bs : List β}, All2 R as bs → as.length = bs.length
  | _, _, .nil => rfl
  | _, _, .cons _ r => congrArg Nat.succ r.len
theorem All2.mono {α β : Type} {R S : α → β → Prop} (f : ∀ a b, R a b → S a b) : ∀ {as : List α} {bs : List β}, All2 R as bs → All2 S as bs
  | _, _, .nil => .nil
  | _, _, .cons h r => .cons (f _ _ h) (r.mono f)
theorem All2.app {α β : Type} {R : α → β → Prop} : ∀ {as cs : List α} {bs ds : List β}, All2 R as bs → All2 R cs ds → All2 R (as ++ cs) (bs ++ ds)
  | _, _, _, _, .nil, b => b
  | _, _, _, _, .cons h r, b => .cons h (r.app b)
theorem All2.at {α β : Type} {R : α → β → Prop} : ∀ {as : List α} {bs : List β} (i : Nat) {a : α}, All2 R as bs → as[i]? = some a → ∃ b, bs[i]? = some b ∧ R a b
  | _, _, _, _, .nil, h => by simp at h
  | _, _, 0, _, .cons h _, e => by
    simp only [List.getElem?_cons_zero, Option.some.injEq] at e
    subst e
    exact ⟨_, rfl, h⟩
  | _, _, i + 1, _, .cons _ r, e => by
    simp only [List.getElem?_cons_succ] at e
    exact r.at i e
theorem all2_dps {β : Type} {K : PySem.W.Frag} {H : Hp} {f : β → PyData} {R : V → β → Prop} (g : ∀ v b, Dp K H v (f b) → R v b) : ∀ {vs : List V} {bs : List β}, DpAll K H vs (bs.map f) → All2 R vs bs
  | _, [], .nil => .nil
  | _, _ :: _, .cons h r => .cons (g _ _ h) (all2_dps g r)
theorem take_one {α : Type} {l : List α} {i : Nat} {x : α} (h : l[i]? = some x) : l.take (i + 1) = l.take i ++ [x] := by
  rw [List.take_add_one, h]
  rfl
section
variable {P : Program} {w : World} {K : PySem.W.Frag} {mg : Str → Option Value} {base : Heap} {a : Ad}
theorem G__as_link (T : Txt K mg a) : FnOk P w K mg base CX0 2 a.f__as_link a.d__as_link ["link", "winds", "places"] (sp__as_link K) := by
  refine T.F__as_link.ok sc__as_link (fun vs H Q E h => ?_) (fun cdv A outer s H vs Q E hr h => ?_)
  · obtain ⟨v, wi, pl, ws, ps, k0, rfl, _⟩ := h
    rfl
  · obtain ⟨v, wi, pl, ws, ps, k0, rfl, hv, hW, hP, ok, hmax, k⟩ := h
    obtain ⟨t, u, vs, rfl, hT, hU, hD0⟩ := hv
    have lv : vs.length = k0.ts.length := by rw [dps_len hD0, List.length_map]
    refine ⟨_, (pss_cons (ps_if (pt_cmpR op_ne (pe_callB call_len_seq (by rfl) T.z_len PySem.boot_len (pa_cons (pv 0) pa_nil)) pe_int (nomark _)) pss_any pss_nil)
      (pss_cons (ps_asg (pv 0) (pg_tup (by rfl) (pgs_cons (pg_name (i := 3) sc__as_link.nd rfl (Or.inl rfl)) (pgs_cons (pg_name (i := 4) sc__as_link.nd rfl (Or.inl rfl)) (pgs_cons (pg_name (i := 5) sc__as_link.nd rfl (Or.inl rfl)) (pgs_cons (pg_name (i := 6) sc__as_link.nd rfl (Or.inl rfl)) pgs_nil))))))
      (pss_cons (ps_expr (pe_call (G__check_ends T) (hr.mono (by decide)) (by rfl) T.g__check_ends T.k__check_ends T.B__check_ends .nil pass0 (pa_cons pe_str (pa_cons (pv 4) (pa_cons (pv 5) (pa_cons (pv 2) pa_nil))))))
      (pss_cons (ps_if (pt_cmpR op_ne (pe_callB call_len_seq (by rfl) T.z_len PySem.boot_len (pa_cons (pv 6) pa_nil)) (pe_callB call_len_seq (by rfl) T.z_len PySem.boot_len (pa_cons (pv 1) pa_nil)) (nomark _)) pss_any pss_nil)
      (pss_one (ps_ret (pe_tup (pa_cons (pv 3) (pa_cons (pv 4) (pa_cons (pv 5) (pa_cons (pe_callTy call_tupK (by rfl) T.z_tuple (by decide +kernel) (pa_cons (pe_lc (own := [("bounds", 7)]) (g := gName 7) (tt := tYes) rfl sc__as_link.nd (pi_or (pi_list (pv 6)) (pi_tup (pv 6))) (blkOk_by (N := ["link", "winds", "places", "name", "one", "other", "times", "bounds"]) (sc := defScope s__as_link) (by decide +kernel)) (fun _ _ _ _ _ => pg_name (i := 7) sc__as_link.nd rfl (Or.inl rfl)) (fun _ _ _ _ _ => pts_nil) (fun _ _ _ _ _ => (pe_call (G__as_bounds T) (hr.mono (by decide)) (by rfl) T.g__as_bounds T.k__as_bounds T.B__as_bounds .nil pass0 (pa_cons (pv 7) pa_nil)))) pa_nil)) pa_nil))))))))))), ?_⟩
    refine ⟨_, rfl, t, _, rfl, .inr hT, rfl, _, rfl, iteNS rfl ?_⟩
    refine ⟨_, rfl, t, _, rfl, hT, rfl, _, _, rfl, _, _, rfl, _, _, rfl, _, _, rfl, rfl, ?_⟩
    refine ⟨_, rfl, _, rfl, _, rfl, _, k0.o, k0.t, pl, ps, rfl, hP, ok.o, ok.t, ok.ne, ?_⟩
    refine ⟨_, rfl, u, _, rfl, hU, _, rfl, wi, _, rfl, hW, rfl, _, rfl, iteNS (by rw [lv, ok.len, List.length_map]) ?_⟩
    refine ⟨_, rfl, _, rfl, _, rfl, ?_⟩
    let Pv : Addr → Nat → Hp → Prop := fun D i H' => Ex H H' ∧ ∃ made, H' D = some (.lst made) ∧ made.length = i ∧ DpAll K H' made ((k0.ts.take i).map dTime)
    have start : ∀ {D : Addr}, H D = none → Pv D 0 (upd H D (.lst [])) := fun hD => ⟨Ex.new hD, [], upd_same, rfl, .nil⟩
    have turn : ∀ {D : Addr} (i : Nat) (y : V) (H' : Hp) (σ : L2.St), H D = none → vs[i]? = some y → Pv D i H' → σ[7]? = some (some y) →
        tCall (sp__as_bounds K) [] E0 (tCons (tVar 7) tNil) σ H' fun y H4 => ∃ acc, H4 D = some (.lst acc) ∧ acc.length < sizeLine ∧ Pv D (i + 1) (upd H4 D (.lst (acc ++ [y]))) := by
      rintro D i y H' σ hD hy ⟨e, made, hm, hl, hd⟩ hs
      obtain ⟨d, hd1, hd2⟩ := dps_at hD0 hy
      have hil : i < vs.length := (List.getElem?_eq_some_iff.mp hy).1
      obtain ⟨b, hb⟩ : ∃ b, k0.ts[i]? = some b := ⟨k0.ts[i]'(by omega), List.getElem?_eq_getElem (by omega)⟩
      rw [List.getElem?_map, hb] at hd1
      obtain rfl : dTime b = d := Option.some.inj hd1
      refine ⟨y, hs, y, b, rfl, dp_ex e hd2, ok.ok b (List.mem_of_getElem? hb), fun v' H6 e6 hv' => ⟨made, e6 _ _ hm, sz_lt (by have := ok.len; omega), (e.trans e6).mut hD, _, upd_same, by rw [List.length_append, hl] <;> rfl, ?_⟩⟩
      rw [take_one hb, List.map_append]
      exact dps_app (dps_exT (exT_mut (e6 _ _ hm)) (dps_ex e6 hd) (frozen_times _)) (dps_one (dp_exT (exT_mut (e6 _ _ hm)) hv' (frozen_time _)))
    have fin : ∀ {D : Addr} {H' : Hp}, Pv D vs.length H' → rTupK K [.ref D] H' fun x H2 => (5 : Nat) - 1 ≤ sizeLine ∧ ∀ p, H2 p = none → Q (.ref p) (upd H2 p (.tup [.str k0.n, .str k0.o, .str k0.t, x])) := by
      rintro D H' ⟨e, made, hm, hl, hd⟩
      rw [lv, List.take_length] at hd
      refine ⟨D, made, rfl, .inl ⟨SqL.of hm, fun q hq => ⟨by decide, fun r hr0 => ?_⟩⟩⟩
      have e1 : Ex H' (upd (upd H' q (.tup made)) r (.tup [.str k0.n, .str k0.o, .str k0.t, .ref q])) := (Ex.new hq).trans (Ex.new hr0)
      have nqr : q ≠ r := ne_of_none upd_same hr0
      exact k _ r (e.trans e1) (fresh_back (e.trans (Ex.new hq)) hr0) (.tup (st_of upd_same) (.cons (.str _) (.cons (.str _) (.cons (.str _) (.cons (.tup (st_of (by rw [upd_ne nqr, upd_same])) (dps_ex e1 hd)) .nil)))))
    rcases hU with hU | hU
    · exact .inl ⟨_, rfl, u, rfl, ⟨_, hU⟩, fun D hD => lcY_list (K := K) (a := u) (xs := vs) (Pv D) (start hD) (fun i H' _ p => ex_l p.1 hU) (fun i y H' hi p => ⟨rfl, turn i y H' _ hD hi p rfl⟩) (fun H' p => fin p)⟩
    · exact .inr ⟨_, rfl, u, rfl, ⟨_, hU⟩, fun D hD => lcY_tup (K := K) (a := u) (xs := vs) (Pv D) (start hD) (fun i H' _ p => ex_t p.1 hU) (fun i y H' hi p => ⟨rfl, turn i y H' _ hD hi p rfl⟩) (fun H' p => fin p)⟩
theorem G__as_path (T : Txt K mg a) : FnOk P w K mg base CX0 2 a.f__as_path a.d__as_path ["path", "places"] (sp__as_path K) := by
  refine T.F__as_path.ok sc__as_path (fun vs H Q E h => ?_) (fun cdv A outer s H vs Q E hr h => ?_)
  · obtain ⟨v, pl, ps, p, rfl, _⟩ := h
    rfl
  · obtain ⟨v, pl, ps, p, rfl, hv, hP, ok, k⟩ := h
    obtain ⟨t, rfl, hT⟩ := path_in hv
    have lo := ok.lo
    have hi := ok.hi
    refine ⟨_, (pss_cons (ps_if (pt_cmpR op_ne (pe_callB call_len_seq (by rfl) T.z_len PySem.boot_len (pa_cons (pv 0) pa_nil)) pe_int (nomark _)) pss_any pss_nil)
      (pss_cons (ps_asg (pv 0) (pg_tup (by rfl) (pgs_cons (pg_name (i := 2) sc__as_path.nd rfl (Or.inl rfl)) (pgs_cons (pg_name (i := 3) sc__as_path.nd rfl (Or.inl rfl)) (pgs_cons (pg_name (i := 4) sc__as_path.nd rfl (Or.inl rfl)) pgs_nil)))))
      (pss_cons (ps_expr (pe_call (G__check_ends T) (hr.mono (by decide)) (by rfl) T.g__check_ends T.k__check_ends T.B__check_ends .nil pass0 (pa_cons pe_str (pa_cons (pv 2) (pa_cons (pv 3) (pa_cons (pv 1) pa_nil))))))
      (pss_cons (ps_if (pt_not (pt_chain op_le op_le pe_int (pv 4) (pe_gI rfl T.c_MOST_MINUTES))) pss_any pss_nil)
      (pss_one (ps_ret (pe_tup (pa_cons (pv 2) (pa_cons (pv 3) (pa_cons (pv 4) pa_nil)))))))))), ?_⟩
    refine ⟨_, rfl, t, _, rfl, .inr hT, rfl, _, rfl, iteNS rfl ?_⟩
    refine ⟨_, rfl, t, _, rfl, hT, rfl, _, _, rfl, _, _, rfl, _, _, rfl, rfl, ?_⟩
    refine ⟨_, rfl, _, rfl, _, rfl, _, p.1, p.2.1, pl, ps, rfl, hP, ok.o, ok.t, ok.ne, ?_⟩
    refine ⟨_, rfl, _, _, rfl, rfl, _, rfl, ?_⟩
    refine ite2 (fun _ => ?_) (fun n => absurd (decide_eq_true lo) n)
    refine ⟨_, _, rfl, rfl, _, rfl, iteNS hi ?_⟩
    refine ⟨_, rfl, _, rfl, _, rfl, by show 3 ≤ sizeLine; decide, fun q hq => ?_⟩
    exact k _ q (Ex.new hq) hq (.tup (st_of upd_same) (.cons (.str _) (.cons (.str _) (.cons (.int _) .nil))))
theorem G__check_single_paths (T : Txt K mg a) : FnOk P w K mg base CX0 1 a.f__check_single_paths a.d__check_single_paths ["paths"] (sp__check_single_paths K) := by
  refine T.F__check_single_paths.ok sc__check_single_paths (fun vs H Q E h => ?_) (fun cdv A outer s H vs Q E hr h => ?_)
  · obtain ⟨p, prs, pa, rfl, _⟩ := h
    rfl
  · obtain ⟨p, prs, pa, rfl, hT, hd, h60, hap, k⟩ := h
    have lp : prs.length = pa.length := by rw [dps_len hd, List.length_map]
    refine ⟨_, (pss_cons (ps_setLc (i := 1) (own := [("one", 2), ("other", 3), ("_", 4)]) (g := gTup K 3 (gCons (gName 2) (gCons (gName 3) (gCons (gName 4) gNil)))) (tt := tYes) rfl sc__check_single_paths.nd rfl rfl (sw_true rfl rfl rfl (by decide +kernel)) (pi_tup (pv 0)) (blkOk_by (N := ["paths", "ends", "one", "other", "_"]) (sc := defScope s__check_single_paths) (by decide +kernel)) (fun _ _ _ _ _ => (pg_tup (by rfl) (pgs_cons (pg_name (i := 2) sc__check_single_paths.nd rfl (Or.inl rfl)) (pgs_cons (pg_name (i := 3) sc__check_single_paths.nd rfl (Or.inl rfl)) (pgs_cons (pg_name (i := 4) sc__check_single_paths.nd rfl (Or.inl rfl)) pgs_nil))))) (fun _ _ _ _ _ => pts_nil) (fun _ _ _ _ _ => (pe_callTy (show CallR _ _ (rTupK K) from call_tupK) (by rfl) T.z_tuple (by decide +kernel) (pa_cons (pe_callB (show CallR _ _ (rSortedS K) from cr_sortedS) (by rfl) T.z_sorted (by decide +kernel) (pa_cons (pe_lst (pa_cons (pv 2) (pa_cons (pv 3) pa_nil))) pa_nil)) pa_nil))))
      (pss_one (ps_if (pt_cmpR op_ne (TxSet.pe_lenSetT hr rfl (by rfl) T.z_len (by rfl) T.z_set (pv 1)) (pe_callB call_len_seq (by rfl) T.z_len PySem.boot_len (pa_cons (pv 1) pa_nil)) (nomark _)) pss_any pss_nil))), ?_⟩
    refine ⟨_, rfl, p, rfl, ⟨_, hT⟩, fun D hD => lcY_tup (K := K) (a := p) (xs := prs) (fun i H' => Ex H H' ∧ ∃ ks : List (Addr × List Str), H' D = some (.lst (ks.map fun p => V.ref p.1)) ∧ (∀ p ∈ ks, H' p.1 = some (.tup (p.2.map V.str))) ∧ All2 (fun q r => q.2.Perm [r.1, r.2.1]) ks (pa.take i))
      ⟨Ex.new hD, [], upd_same, fun p hp => (by cases hp), .nil⟩ (fun i H' _ q => ex_t q.1 hT) (fun i y H' hi q => ?_) (fun H' q => ?_)⟩
    · obtain ⟨e, ks, hks, hat, h2⟩ := q
      have hil : i < prs.length := (List.getElem?_eq_some_iff.mp hi).1
      obtain ⟨d, hd1, hd2⟩ := dps_at hd hi
      obtain ⟨b, hb⟩ : ∃ b, pa[i]? = some b := ⟨pa[i]'(by omega), List.getElem?_eq_getElem (by omega)⟩
      rw [List.getElem?_map, hb] at hd1
      obtain rfl : dPath b = d := Option.some.inj hd1
      obtain ⟨t, rfl, hb2⟩ := path_in hd2
      have lk : ks.length = (pa.take i).length := h2.len
      refine ⟨t, _, rfl, ex_t e hb2, rfl, _, _, rfl, _, _, rfl, _, _, rfl, rfl, rfl, ?_⟩
      refine ⟨_, rfl, _, rfl, by show 2 ≤ sizeLine; decide, fun l hl => ?_⟩
      refine ⟨l, [b.1, b.2.1], rfl, SqL.of upd_same, (by show 2 < 64; decide), fun ys m pm _ hm => ?_⟩
      refine ⟨m, _, rfl, .inl ⟨SqL.of upd_same, fun n hn => ?_⟩⟩
      have e3 : Ex H' (upd (upd (upd H' l (.lst [.str b.1, .str b.2.1])) m (.lst (ys.map V.str))) n (.tup (ys.map V.str))) := ((Ex.new hl).trans (Ex.new hm)).trans (Ex.new hn)
      have hD3 := e3 _ _ hks
      refine ⟨_, hD3, sz_lt (by rw [List.length_map, lk, List.length_take]; omega), (e.trans e3).mut hD, ks ++ [(n, ys)], by rw [upd_same, List.map_append] <;> rfl, fun q hq => ?_, ?_⟩
      · rcases List.mem_append.mp hq with z | z
        · have h3 := e3 _ _ (hat q z)
          rw [upd_ne (ne_of h3 hD3 (by intro z; cases z))]
          exact h3
        · rw [List.mem_singleton.mp z]
          have h3 : (upd (upd (upd H' l (.lst [.str b.1, .str b.2.1])) m (.lst (ys.map V.str))) n (.tup (ys.map V.str))) n = some (.tup (ys.map V.str)) := upd_same
          show (upd _ D _) n = _
          rw [upd_ne (ne_of h3 hD3 (by intro z; cases z))]
          exact h3
      · rw [take_one hb]
        exact h2.app (.cons pm .nil)
    · obtain ⟨e, ks, hks, hat, h2⟩ := q
      rw [lp, List.take_length] at h2
      have lk := h2.len
      have diff : (ks.map (·.2)).Nodup := by
        have go : ∀ {ks : List (Addr × List Str)} {pa : List (Str × Str × Int)}, All2 (fun q r => q.2.Perm [r.1, r.2.1]) ks pa → (pa.map fun p => (p.1, p.2.1)).Pairwise Apart → (ks.map (·.2)).Nodup := by
          intro ks pa h
          induction h with
          | nil => intro _; exact List.nodup_nil
          | @cons q r ks pa h hr ih =>
            intro hp
            rw [List.map_cons, List.pairwise_cons] at hp
            rw [List.map_cons, List.nodup_cons]
            refine ⟨fun hm => ?_, ih hp.2⟩
            obtain ⟨q2, hq2, e2⟩ := List.mem_map.mp hm
            obtain ⟨i, hi, ei⟩ := List.getElem_of_mem hq2
            obtain ⟨r2, hr2, p2⟩ := hr.at i (show ks[i]? = some q2 by rw [List.getElem?_eq_getElem hi, ei])
            refine hp.1 (r2.1, r2.2.1) (List.mem_map.mpr ⟨r2, List.mem_of_getElem? hr2, rfl⟩) ?_
            rw [e2] at p2
            exact h.symm.trans p2
        exact go h2 hap
      refine ⟨_, rfl, D, ks, rfl, SqL.of hks, fun q hq => st_of (hat q hq), by omega, diff, _, rfl, D, _, rfl, .inl (SqL.of hks), rfl, _, rfl, ?_⟩
      rw [List.length_map]
      exact iteNS rfl (k _ e)
end
end EV

set_option Elab.async false
set_option linter.all false
set_option maxRecDepth 100000
set_option maxHeartbeats 4000000
namespace EV
open PySem PySem.Spec PyProof.Rows L2 EvS Evl
/-- a new land of well formed parts -/
def sp_init (K : PySem.W.Frag) (C : Addr) : Sp := fun vs H Q _ => ∃ (H0 : Hp) (x dx wi pl li pa : Addr) (D : LandD) (rows prs : List V), vs = [.ref x, .ref wi, .ref pl, .ref li, .ref pa] ∧ Ex H0 H ∧ H0 x = none ∧ H x = some (.ins C dx []) ∧
  (SqL K H0 wi (D.ws.map V.str) ∨ TupX.Bare H0 wi (D.ws.map V.str)) ∧ Seq2 K H0 pl (D.ps.map V.str) ∧ Seq2 K H0 li rows ∧ All2 (LinkIn K H0) rows D.ls ∧ Seq2 K H0 pa prs ∧ DpAll K H0 prs (D.pa.map dPath) ∧ LandOk D ∧ ∀ H', Ex H0 H' → IsLand K C H' x D → Q .non H'
theorem bare_ins {H : Hp} {x u : Addr} {C dx : Addr} {fs gs : List (Str × V)} {xs : List V} (h : H x = some (.ins C dx fs)) (b : TupX.Bare H u xs) : TupX.Bare (upd H x (.ins C dx gs)) u xs := by
  obtain ⟨o, h1, h2⟩ := b
  exact ⟨o, by rw [upd_ne (ne_of h1 h (by intro z; cases z))]; exact h1, h2⟩
theorem seqB {K : PySem.W.Frag} {H H' : Hp} {p : Addr} {xs : List V} (e : Ex H H') (h : SqL K H p xs ∨ TupX.Bare H p xs) : Seq2 K H' p xs := h.elim (fun h => .inl (ex_l e h)) (fun h => .inr (h.ex e).sq)
section
variable {P : Program} {w : World} {K : PySem.W.Frag} {mg : Str → Option Value} {base : Heap} {a : Ad}
theorem G_init (T : Txt K mg a) : FnOk P w K mg base CX0 3 a.f_init a.d_init ["self", "winds", "places", "links", "paths"] (sp_init K a.C) := by
  refine T.F_init.ok sc_init (fun vs H Q E h => ?_) (fun cdv A outer s H vs Q E hr h => ?_)
  · obtain ⟨H0, x, dx, wi, pl, li, pa, D, rows, prs, rfl, _⟩ := h
    rfl
  · obtain ⟨H0, x, dx, wi, pl, li, pa, D, rows, prs, rfl, e0, x0, hx, hW, hP, hL, hLs, hA, hAs, ok, k⟩ := h
    have lw : (D.ws.map V.str).length = D.ws.length := List.length_map ..
    have lp : (D.ps.map V.str).length = D.ps.length := List.length_map ..
    have ll := hLs.len
    have la : prs.length = D.pa.length := by rw [dps_len hAs, List.length_map]
    have b1 := ok.w1
    have b2 := ok.w4
    have b3 := ok.p1
    have b4 := ok.p24
    have b5 := ok.l60
    have b6 := ok.a60
    refine ⟨_, (pss_cons (ps_expr (pe_call (G__check_count T) (hr.mono (by decide)) (by rfl) T.g__check_count T.k__check_count T.B__check_count .nil pass0 (pa_cons pe_str (pa_cons (pv 1) (pa_cons pe_int (pa_cons (pe_gI rfl T.c_MOST_WINDS) pa_nil))))))
      (pss_cons (ps_expr (pe_call (G__check_names T) (hr.mono (by decide)) (by rfl) T.g__check_names T.k__check_names T.B__check_names .nil pass0 (pa_cons pe_str (pa_cons (pv 1) pa_nil))))
      (pss_cons (ps_expr (pe_call (G__check_count T) (hr.mono (by decide)) (by rfl) T.g__check_count T.k__check_count T.B__check_count .nil pass0 (pa_cons pe_str (pa_cons (pv 2) (pa_cons pe_int (pa_cons (pe_gI rfl T.c_MOST_PLACES) pa_nil))))))
      (pss_cons (ps_expr (pe_call (G__check_names T) (hr.mono (by decide)) (by rfl) T.g__check_names T.k__check_names T.B__check_names .nil pass0 (pa_cons pe_str (pa_cons (pv 2) pa_nil))))
      (pss_cons (ps_expr (pe_call (G__check_count T) (hr.mono (by decide)) (by rfl) T.g__check_count T.k__check_count T.B__check_count .nil pass0 (pa_cons pe_str (pa_cons (pv 3) (pa_cons pe_int (pa_cons (pe_gI rfl T.c_MOST_LINKS) pa_nil))))))
      (pss_cons (ps_expr (pe_call (G__check_count T) (hr.mono (by decide)) (by rfl) T.g__check_count T.k__check_count T.B__check_count .nil pass0 (pa_cons pe_str (pa_cons (pv 4) (pa_cons pe_int (pa_cons (pe_gI rfl T.c_MOST_PATHS) pa_nil))))))
      (pss_cons (ps_fld (pv 0) (pe_callTy TupX.call_tupG (by rfl) T.z_tuple (by decide +kernel) (pa_cons (pv 1) pa_nil)) rfl)
      (pss_cons (ps_fld (pv 0) (pe_callTy call_tupS (by rfl) T.z_tuple (by decide +kernel) (pa_cons (pv 2) pa_nil)) rfl)
      (Evl.pss_cut (ps_fld (pv 0) (pe_callTy call_tupK (by rfl) T.z_tuple (by decide +kernel) (pa_cons (pe_lc (own := [("link", 5)]) (g := gName 5) (tt := tYes) rfl sc_init.nd (pi_or (pi_list (pv 3)) (pi_tup (pv 3))) (blkOk_by (N := ["self", "winds", "places", "links", "paths", "link", "path"]) (sc := defScope s_init) (by decide +kernel)) (fun _ _ _ _ _ => pg_name (i := 5) sc_init.nd rfl (Or.inl rfl)) (fun _ _ _ _ _ => pts_nil) (fun _ _ _ _ _ => (pe_call (G__as_link T) (hr.mono (by decide)) (by rfl) T.g__as_link T.k__as_link T.B__as_link .nil pass0 (pa_cons (pv 5) (pa_cons (show PE _ _ (tFld K (tVar 0) "winds") from pe_fld (pv 0) rfl) (pa_cons (show PE _ _ (tFld K (tVar 0) "places") from pe_fld (pv 0) rfl) pa_nil)))))) pa_nil)) rfl)
      (pss_cons (ps_expr (pe_call (G__check_names T) (hr.mono (by decide)) (by rfl) T.g__check_names T.k__check_names T.B__check_names .nil pass0 (pa_cons pe_str (pa_cons (pe_prop (pv 0) T.cl T.p_link_names (G_link_names T) (hr.mono (by decide)) T.B_link_names .nil pass0 rfl) pa_nil))))
      (Evl.pss_cut (ps_fld (pv 0) (pe_callTy call_tupK (by rfl) T.z_tuple (by decide +kernel) (pa_cons (pe_lc (own := [("path", 6)]) (g := gName 6) (tt := tYes) rfl sc_init.nd (pi_or (pi_list (pv 4)) (pi_tup (pv 4))) (blkOk_by (N := ["self", "winds", "places", "links", "paths", "link", "path"]) (sc := defScope s_init) (by decide +kernel)) (fun _ _ _ _ _ => pg_name (i := 6) sc_init.nd rfl (Or.inl rfl)) (fun _ _ _ _ _ => pts_nil) (fun _ _ _ _ _ => (pe_call (G__as_path T) (hr.mono (by decide)) (by rfl) T.g__as_path T.k__as_path T.B__as_path .nil pass0 (pa_cons (pv 6) (pa_cons (show PE _ _ (tFld K (tVar 0) "places") from pe_fld (pv 0) rfl) pa_nil))))) pa_nil)) rfl)
      (pss_one (ps_expr (pe_call (G__check_single_paths T) (hr.mono (by decide)) (by rfl) T.g__check_single_paths T.k__check_single_paths T.B__check_single_paths .nil pass0 (pa_cons (pe_fld (pv 0) rfl) pa_nil))))))))))))))), ?_⟩
    refine ⟨_, rfl, _, wi, _, _, _, rfl, seqB e0 hW, by rw [lw]; omega, by rw [lw]; omega, ?_⟩
    refine ⟨_, rfl, _, wi, D.ws, rfl, seqB e0 hW, by omega, ok.gw, fun H1 e1 => ?_⟩
    have f1 : Ex H0 H1 := e0.trans e1
    refine ⟨_, rfl, _, pl, _, _, _, rfl, hP.ex f1, by rw [lp]; omega, by rw [lp]; omega, ?_⟩
    refine ⟨_, rfl, _, pl, D.ps, rfl, hP.ex f1, by omega, ok.gp, fun H2 e2 => ?_⟩
    have f2 : Ex H0 H2 := f1.trans e2
    have hx2 : H2 x = some (.ins a.C dx []) := e2 _ _ (e1 _ _ hx)
    refine ⟨_, rfl, _, li, _, _, _, rfl, hL.ex f2, by omega, by omega, ?_⟩
    refine ⟨_, rfl, _, pa, _, _, _, rfl, hA.ex f2, by omega, by omega, ?_⟩
    -- self.winds
    refine ⟨_, rfl, wi, _, rfl, hW.elim (fun h => .inl (ex_l f2 h)) (fun h => .inr (h.ex f2)), fun u H3 e3 hu => ?_⟩
    have hx3 := e3 _ _ hx2
    refine ⟨_, rfl, x, a.C, dx, [], rfl, hx3, T.cl, T.nW, by show 0 < 1000; decide, ?_⟩
    have ins_t : ∀ {H : Hp} {fs gs : List (Str × V)}, H x = some (.ins a.C dx fs) → ExT H (upd H x (.ins a.C dx gs)) := fun {H fs gs} h b xs r => by
      rcases r with r | ⟨o, r⟩
      · exact .inl (by rw [upd_ne (ne_of r h (by intro z; cases z))]; exact r)
      · exact .inr ⟨o, by rw [upd_ne (ne_of r h (by intro z; cases z))]; exact r⟩
    have f4 : Ex H0 (upd H3 x (.ins a.C dx (putF "winds" (.ref u) []))) := (f2.trans e3).mut x0
    have hu4 := bare_ins (gs := putF "winds" (.ref u) []) hx3 hu
    have hx4 : (upd H3 x (.ins a.C dx (putF "winds" (.ref u) []))) x = some (.ins a.C dx (putF "winds" (.ref u) [])) := upd_same
    generalize upd H3 x (.ins a.C dx (putF "winds" (.ref u) [])) = H4 at f4 hu4 hx4
    -- self.places
    refine ⟨_, rfl, pl, _, rfl, hP.ex f4, fun q H5 e5 hq => ?_⟩
    have hx5 := e5 _ _ hx4
    refine ⟨_, rfl, x, a.C, dx, _, rfl, hx5, T.cl, T.nP, by show 1 < 1000; decide, ?_⟩
    have f6 : Ex H0 (upd H5 x (.ins a.C dx (putF "places" (.ref q) (putF "winds" (.ref u) [])))) := (f4.trans e5).mut x0
    have hu6 := bare_ins (gs := putF "places" (.ref q) (putF "winds" (.ref u) [])) hx5 (hu4.ex e5)
    have hq6 := exT_t (ins_t (gs := putF "places" (.ref q) (putF "winds" (.ref u) [])) hx5) hq
    have hx6 : (upd H5 x (.ins a.C dx (putF "places" (.ref q) (putF "winds" (.ref u) [])))) x = some (.ins a.C dx (putF "places" (.ref q) (putF "winds" (.ref u) []))) := upd_same
    generalize upd H5 x (.ins a.C dx (putF "places" (.ref q) (putF "winds" (.ref u) []))) = H6 at f6 hu6 hq6 hx6
    have lkW : (putF "places" (.ref q) (putF "winds" (.ref u) [])).lookup ("winds" : Str) = some (V.ref u) := by
      rw [lookup_putF, if_neg (by decide +kernel), lookup_putF, if_pos rfl]
    have lkP : (putF "places" (.ref q) (putF "winds" (.ref u) [])).lookup ("places" : Str) = some (V.ref q) := by
      rw [lookup_putF, if_pos rfl]
    -- self.links
    refine ⟨fun σ H' => σ = [some (.ref x), some (.ref wi), some (.ref pl), some (.ref li), some (.ref pa), none, none] ∧ ∃ v made, Ex H0 H' ∧ H' x = some (.ins a.C dx (putF "links" (.ref v) (putF "places" (.ref q) (putF "winds" (.ref u) [])))) ∧ TupX.Bare H' u (D.ws.map V.str) ∧ SqT K H' q (D.ps.map V.str) ∧ SqT K H' v made ∧ DpAll K H' made (D.ls.map dLink), ?_, ?_⟩
    let Pv : Addr → Nat → Hp → Prop := fun D0 i H' => Ex H6 H' ∧ ∃ made, H' D0 = some (.lst made) ∧ made.length = i ∧ DpAll K H' made ((D.ls.take i).map dLink)
    have start : ∀ {D0 : Addr}, H6 D0 = none → Pv D0 0 (upd H6 D0 (.lst [])) := fun hD => ⟨Ex.new hD, [], upd_same, rfl, .nil⟩
    have turn : ∀ {D0 : Addr} (i : Nat) (y : V) (H' : Hp) (σ : L2.St), H6 D0 = none → rows[i]? = some y → Pv D0 i H' → σ[5]? = some (some y) → σ[0]? = some (some (.ref x)) →
        tCall (sp__as_link K) [] E0 (tCons (tVar 5) (tCons (tFld K (tVar 0) "winds") (tCons (tFld K (tVar 0) "places") tNil))) σ H' fun y H4 => ∃ acc, H4 D0 = some (.lst acc) ∧ acc.length < sizeLine ∧ Pv D0 (i + 1) (upd H4 D0 (.lst (acc ++ [y]))) := by
      rintro D0 i y H' σ hD hy ⟨e, made, hm, hl, hd⟩ s5 s0
      obtain ⟨k0, hk0, hin⟩ := hLs.at i hy
      have hil : i < rows.length := (List.getElem?_eq_some_iff.mp hy).1
      have hx' := e _ _ hx6
      refine ⟨y, s5, _, s0, x, a.C, dx, _, _, rfl, hx', T.cl, T.nW, lkW, _, s0, x, a.C, dx, _, _, rfl, hx', T.cl, T.nP, lkP, ?_⟩
      refine ⟨y, u, q, D.ws, D.ps, k0, rfl, hin.ex (f6.trans e), .inr (hu6.ex e).sq, .inr (ex_t e hq6), ok.lk k0 (List.mem_of_getElem? hk0), by omega, fun H8 t e8 ht hM => ⟨made, e8 _ _ hm, sz_lt (by omega), (e.trans e8).mut hD, _, upd_same, by rw [List.length_append, hl] <;> rfl, ?_⟩⟩
      rw [take_one hk0, List.map_append]
      exact dps_app (dps_exT (exT_mut (e8 _ _ hm)) (dps_ex e8 hd) (frozen_links _)) (dps_one (dp_exT (exT_mut (e8 _ _ hm)) hM (frozen_link _)))
    · have fin : ∀ {D0 : Addr} {H' : Hp}, Pv D0 rows.length H' → rTupK K [.ref D0] H' fun y H1 => tVar 0 [some (.ref x), some (.ref wi), some (.ref pl), some (.ref li), some (.ref pa), none, none] H1 fun x2 H2 => ∃ (b C2 d2 : Addr) (fs : List (Str × V)), x2 = .ref b ∧ H2 b = some (.ins C2 d2 fs) ∧ Cls K C2 ∧ NoAttr K C2 "links" ∧ fs.length < 1000 ∧
          ∃ v made, Ex H0 (upd H2 b (.ins C2 d2 (putF "links" y fs))) ∧ (upd H2 b (.ins C2 d2 (putF "links" y fs))) x = some (.ins a.C dx (putF "links" (.ref v) (putF "places" (.ref q) (putF "winds" (.ref u) [])))) ∧ TupX.Bare (upd H2 b (.ins C2 d2 (putF "links" y fs))) u (D.ws.map V.str) ∧ SqT K (upd H2 b (.ins C2 d2 (putF "links" y fs))) q (D.ps.map V.str) ∧ SqT K (upd H2 b (.ins C2 d2 (putF "links" y fs))) v made ∧ DpAll K (upd H2 b (.ins C2 d2 (putF "links" y fs))) made (D.ls.map dLink) := by
        rintro D0 H' ⟨e, made, hm, hl, hd⟩
        rw [ll, List.take_length] at hd
        refine ⟨D0, made, rfl, .inl ⟨SqL.of hm, fun v hv => ?_⟩⟩
        have e2 : Ex H6 (upd H' v (.tup made)) := e.trans (Ex.new hv)
        have hx' := e2 _ _ hx6
        refine ⟨_, rfl, x, a.C, dx, _, rfl, hx', T.cl, T.nL, by show 2 < 1000; decide, v, made, (f6.trans e2).mut x0, upd_same, bare_ins hx' (hu6.ex e2), exT_t (ins_t hx') (ex_t e2 hq6), exT_t (ins_t hx') (st_of upd_same), dps_exT (ins_t hx') (dps_ex (Ex.new hv) hd) (frozen_links _)⟩
      rcases hL.ex f6 with hL6 | hL6
      · refine .inl ⟨_, rfl, li, rfl, ⟨_, hL6⟩, fun D0 hD => lcY_list (K := K) (a := li) (xs := rows) (Pv D0) (start hD) (fun i H' _ p => ex_l p.1 hL6) (fun i y H' hi p => ⟨rfl, turn i y H' _ hD hi p rfl rfl⟩) (fun H' p => ?_)⟩
        obtain ⟨p0, ys, y1, y2⟩ := fin p
        refine ⟨p0, ys, y1, ?_⟩
        rcases y2 with ⟨z1, z2⟩ | ⟨z1, z2⟩
        · refine .inl ⟨z1, fun l hl => ?_⟩
          obtain ⟨c1, c2, c3, c4, c5, c6, c7, c8, c9, c10, c11, c12⟩ := z2 l hl
          exact ⟨c1, c2, c3, c4, c5, c6, c7, c8, c9, c10, c11, rfl, c12⟩
        · obtain ⟨c1, c2, c3, c4, c5, c6, c7, c8, c9, c10, c11, c12⟩ := z2
          exact .inr ⟨z1, c1, c2, c3, c4, c5, c6, c7, c8, c9, c10, c11, rfl, c12⟩
      · refine .inr ⟨_, rfl, li, rfl, ⟨_, hL6⟩, fun D0 hD => lcY_tup (K := K) (a := li) (xs := rows) (Pv D0) (start hD) (fun i H' _ p => ex_t p.1 hL6) (fun i y H' hi p => ⟨rfl, turn i y H' _ hD hi p rfl rfl⟩) (fun H' p => ?_)⟩
        obtain ⟨p0, ys, y1, y2⟩ := fin p
        refine ⟨p0, ys, y1, ?_⟩
        rcases y2 with ⟨z1, z2⟩ | ⟨z1, z2⟩
        · refine .inl ⟨z1, fun l hl => ?_⟩
          obtain ⟨c1, c2, c3, c4, c5, c6, c7, c8, c9, c10, c11, c12⟩ := z2 l hl
          exact ⟨c1, c2, c3, c4, c5, c6, c7, c8, c9, c10, c11, rfl, c12⟩
        · obtain ⟨c1, c2, c3, c4, c5, c6, c7, c8, c9, c10, c11, c12⟩ := z2
          exact .inr ⟨z1, c1, c2, c3, c4, c5, c6, c7, c8, c9, c10, c11, rfl, c12⟩
    rintro σ H7 ⟨rfl, v, made, f7, hx7, hu7, hq7, hv7, hM7⟩
    have lkL : (putF "links" (.ref v) (putF "places" (.ref q) (putF "winds" (.ref u) []))).lookup ("links" : Str) = some (V.ref v) := by
      rw [lookup_putF, if_pos rfl]
    -- _check_names('links', self.link_names)
    refine ⟨_, rfl, x, dx, _, rfl, hx7, x, dx, _, v, made, D.ls, rfl, hx7, lkL, hv7, hM7, by omega, fun H8 t e8 ht hT => ?_⟩
    refine ⟨_, t, D.ls.map (·.n), rfl, .inr (st_of hT), by rw [List.length_map]; omega, ok.gl, fun H9 e9 => ?_⟩
    have f9 : Ex H0 H9 := (f7.trans e8).trans e9
    have hx9 := e9 _ _ (e8 _ _ hx7)
    have hu9 := (hu7.ex e8).ex e9
    have hq9 := ex_t e9 (ex_t e8 hq7)
    have hv9 := ex_t e9 (ex_t e8 hv7)
    have hM9 := dps_ex e9 (dps_ex e8 hM7)
    -- self.paths
    refine ⟨fun σ H' => σ = [some (.ref x), some (.ref wi), some (.ref pl), some (.ref li), some (.ref pa), none, none] ∧ ∃ y prs', Ex H0 H' ∧ LandAt K a.C H' x D dx u q v y made prs', ?_, ?_⟩
    · let Pw : Addr → Nat → Hp → Prop := fun D0 i H' => Ex H9 H' ∧ ∃ got, H' D0 = some (.lst got) ∧ got.length = i ∧ DpAll K H' got ((D.pa.take i).map dPath)
      have start : ∀ {D0 : Addr}, H9 D0 = none → Pw D0 0 (upd H9 D0 (.lst [])) := fun hD => ⟨Ex.new hD, [], upd_same, rfl, .nil⟩
      have lkP9 : (putF "links" (.ref v) (putF "places" (.ref q) (putF "winds" (.ref u) []))).lookup ("places" : Str) = some (V.ref q) := by
        rw [lookup_putF, if_neg (by decide +kernel), lookup_putF, if_pos rfl]
      have turn : ∀ {D0 : Addr} (i : Nat) (y : V) (H' : Hp) (σ : L2.St), H9 D0 = none → prs[i]? = some y → Pw D0 i H' → σ[6]? = some (some y) → σ[0]? = some (some (.ref x)) →
          tCall (sp__as_path K) [] E0 (tCons (tVar 6) (tCons (tFld K (tVar 0) "places") tNil)) σ H' fun y H4 => ∃ acc, H4 D0 = some (.lst acc) ∧ acc.length < sizeLine ∧ Pw D0 (i + 1) (upd H4 D0 (.lst (acc ++ [y]))) := by
        rintro D0 i y H' σ hD hy ⟨e, got, hm, hl, hd⟩ s6 s0
        obtain ⟨d, hd1, hd2⟩ := dps_at hAs hy
        have hil : i < prs.length := (List.getElem?_eq_some_iff.mp hy).1
        obtain ⟨b, hb⟩ : ∃ b, D.pa[i]? = some b := ⟨D.pa[i]'(by omega), List.getElem?_eq_getElem (by omega)⟩
        rw [List.getElem?_map, hb] at hd1
        obtain rfl : dPath b = d := Option.some.inj hd1
        refine ⟨y, s6, _, s0, x, a.C, dx, _, _, rfl, e _ _ hx9, T.cl, T.nP, lkP9, ?_⟩
        refine ⟨y, q, D.ps, b, rfl, dp_ex (f9.trans e) hd2, .inr (ex_t e hq9), ok.pt b (List.mem_of_getElem? hb), fun H8 t e8 ht hM => ⟨got, e8 _ _ hm, sz_lt (by omega), (e.trans e8).mut hD, _, upd_same, by rw [List.length_append, hl] <;> rfl, ?_⟩⟩
        rw [take_one hb, List.map_append]
        exact dps_app (dps_exT (exT_mut (e8 _ _ hm)) (dps_ex e8 hd) (frozen_paths _)) (dps_one (dp_exT (exT_mut (e8 _ _ hm)) hM (frozen_path _)))
      have fin : ∀ {D0 : Addr} {H' : Hp}, Pw D0 prs.length H' → ∃ got, H' D0 = some (.lst got) ∧ ∀ y, H' y = none → (upd H' y (.tup got)) x = some (.ins a.C dx (putF "links" (.ref v) (putF "places" (.ref q) (putF "winds" (.ref u) [])))) ∧
          ∃ y2 prs', Ex H0 (upd (upd H' y (.tup got)) x (.ins a.C dx (landFs u q v y))) ∧ LandAt K a.C (upd (upd H' y (.tup got)) x (.ins a.C dx (landFs u q v y))) x D dx u q v y2 made prs' := by
        rintro D0 H' ⟨e, got, hm, hl, hd⟩
        rw [la, List.take_length] at hd
        refine ⟨got, hm, fun y hy => ?_⟩
        have e2 : Ex H9 (upd H' y (.tup got)) := e.trans (Ex.new hy)
        have hx' := e2 _ _ hx9
        exact ⟨hx', y, got, (f9.trans e2).mut x0, upd_same, bare_ins hx' (hu9.ex e2), exT_t (ins_t hx') (ex_t e2 hq9), exT_t (ins_t hx') (ex_t e2 hv9), dps_exT (ins_t hx') (dps_ex e2 hM9) (frozen_links _), exT_t (ins_t hx') (st_of upd_same), dps_exT (ins_t hx') (dps_ex (Ex.new hy) hd) (frozen_paths _)⟩
      rcases hA.ex f9 with hA9 | hA9
      · refine .inl ⟨_, rfl, pa, rfl, ⟨_, hA9⟩, fun D0 hD => lcY_list (K := K) (a := pa) (xs := prs) (Pw D0) (start hD) (fun i H' _ p => ex_l p.1 hA9) (fun i y H' hi p => ⟨rfl, turn i y H' _ hD hi p rfl rfl⟩) (fun H' p => ?_)⟩
        obtain ⟨got, hm, z⟩ := fin p
        refine ⟨D0, got, rfl, .inl ⟨SqL.of hm, fun y hy => ?_⟩⟩
        obtain ⟨hx', z2⟩ := z y hy
        exact ⟨_, rfl, x, a.C, dx, _, rfl, hx', T.cl, T.nA, by show 3 < 1000; decide, rfl, z2⟩
      · refine .inr ⟨_, rfl, pa, rfl, ⟨_, hA9⟩, fun D0 hD => lcY_tup (K := K) (a := pa) (xs := prs) (Pw D0) (start hD) (fun i H' _ p => ex_t p.1 hA9) (fun i y H' hi p => ⟨rfl, turn i y H' _ hD hi p rfl rfl⟩) (fun H' p => ?_)⟩
        obtain ⟨got, hm, z⟩ := fin p
        refine ⟨D0, got, rfl, .inl ⟨SqL.of hm, fun y hy => ?_⟩⟩
        obtain ⟨hx', z2⟩ := z y hy
        exact ⟨_, rfl, x, a.C, dx, _, rfl, hx', T.cl, T.nA, by show 3 < 1000; decide, rfl, z2⟩
    rintro σ H10 ⟨rfl, y, prs', f10, L⟩
    refine ⟨_, rfl, x, a.C, dx, _, _, rfl, L.ob, T.cl, T.nA, fs_paths u q v y, y, prs', D.pa, rfl, L.pa, L.ps, ok.a60, ok.ap, fun H11 e11 => ?_⟩
    exact k H11 (f10.trans e11) (IsLand.ex e11 ⟨dx, u, q, v, y, made, prs', L⟩)
/-- which of __init__'s parameters a call names -/
theorem kb_wplp (T : Txt K mg a) : ∃ mv : List Value, KBn K a.d_init ["self", "winds", "places", "links", "paths"] 1 ["winds", "places", "links", "paths"] (fun us ws => us ++ (ws ++ mv)) (fun vs zs => vs ++ (zs ++ [])) :=
  T.F_init.kbinds0 (ps := ["self", "winds", "places", "links", "paths"]) 1 ["winds", "places", "links", "paths"] [] (fun us mv ws => us ++ (ws ++ mv)) (by simp) (fun q hq => by cases hq) (fun r1 r2 r3 => r1.append (r3.append r2))
    (fun D doc pm an cdv ct us mv ws h1 h2 h3 => match us, mv, ws, h1, h2, h3 with
      | [_], [], [_, _, _, _], _, _, _ => rfl)
theorem vals_take : ∀ {vs : List V} {us : List Value} (n : Nat), Vals vs us → Vals (vs.take n) (us.take n)
  | _, _, 0, _ => .nil
  | _, _, _ + 1, .nil => .nil
  | _, _, n + 1, .cons h r => .cons h (vals_take n r)
def turned {α : Type} (l : List α) : List α := (l.drop 2).take 1 ++ (l.take 1 ++ (l.drop 3 ++ (l.drop 1).take 1))
theorem kb_ppwl (T : Txt K mg a) : ∃ mv : List Value, KBn K a.d_init ["self", "winds", "places", "links", "paths"] 1 ["places", "paths", "winds", "links"] (fun us ws => us ++ (turned ws ++ mv)) (fun vs zs => vs ++ (turned zs ++ [])) :=
  T.F_init.kbinds0 (ps := ["self", "winds", "places", "links", "paths"]) 1 ["places", "paths", "winds", "links"] [] (fun us mv ws => us ++ (turned ws ++ mv)) (by simp) (fun q hq => by cases hq)
    (fun r1 r2 r3 => r1.append (((vals_take 1 (r3.drop 2)).append ((vals_take 1 r3).append ((r3.drop 3).append (vals_take 1 (r3.drop 1))))).append r2))
    (fun D doc pm an cdv ct us mv ws h1 h2 h3 => match us, mv, ws, h1, h2, h3 with
      | [_], [], [_, _, _, _], _, _, _ => rfl)
theorem kb_wp (T : Txt K mg a) : ∃ mv : List Value, KBn K a.d_init ["self", "winds", "places", "links", "paths"] 1 ["winds", "places"] (fun us ws => us ++ (ws ++ mv)) (fun vs zs => vs ++ (zs ++ [.ref a.tl, .ref a.te])) :=
  T.F_init.kbinds0 (ps := ["self", "winds", "places", "links", "paths"]) 1 ["winds", "places"] [("links", .ref a.tl), ("paths", .ref a.te)] (fun us mv ws => us ++ (ws ++ mv)) (by simp) (fun q hq => by simpa using hq) (fun r1 r2 r3 => r1.append (r3.append r2))
    (fun D doc pm an cdv ct us mv ws h1 h2 h3 => match us, mv, ws, h1, h2, h3 with
      | [_], [_, _], [_, _], _, _, _ => ⟨_, _, _, _, _, _, rfl, rfl, _, _, _, _, _, _, rfl, rfl, rfl⟩)
end
end EV

set_option Elab.async false
set_option linter.all false
set_option maxRecDepth 100000
set_option maxHeartbeats 4000000
namespace EV
open PySem PySem.Spec PyProof.Rows L2 EvS Evl
theorem num_in {ks : List Int} {i : Int} (h0 : 0 ≤ i) (h : i < ks.length) : ∃ n, n ∈ ks ∧ atI (ks.map V.int) i = some (.int n) ∧ n = ks.getD i.toNat 0 := by
  have hl : i.toNat < ks.length := by omega
  have e : ks[i.toNat]? = some ks[i.toNat] := List.getElem?_eq_getElem hl
  have z : atI (ks.map V.int) ((i.toNat : Nat) : Int) = some (.int ks[i.toNat]) := atI_nat (by rw [List.getElem?_map, e] <;> rfl)
  rw [show ((i.toNat : Nat) : Int) = i by omega] at z
  exact ⟨ks[i.toNat], List.getElem_mem hl, z, by rw [List.getD_eq_getElem?_getD, e] <;> rfl⟩
theorem at3 {α : Type} {x y z : α} {i : Int} (h0 : 0 ≤ i) (h : i < 3) : ∃ v, atI [x, y, z] i = some v ∧ (v = x ∨ v = y ∨ v = z) := by
  have c : i = 0 ∨ i = 1 ∨ i = 2 := by omega
  rcases c with rfl | rfl | rfl
  · exact ⟨x, atI_nat (j := 0) rfl, .inl rfl⟩
  · exact ⟨y, atI_nat (j := 1) rfl, .inr (.inl rfl)⟩
  · exact ⟨z, atI_nat (j := 2) rfl, .inr (.inr rfl)⟩
theorem at4 {α : Type} {x y z u : α} {i : Int} (h0 : 0 ≤ i) (h : i < 4) : ∃ v, atI [x, y, z, u] i = some v ∧ (v = x ∨ v = y ∨ v = z ∨ v = u) := by
  have c : i = 0 ∨ i = 1 ∨ i = 2 ∨ i = 3 := by omega
  rcases c with rfl | rfl | rfl | rfl
  · exact ⟨x, atI_nat (j := 0) rfl, .inl rfl⟩
  · exact ⟨y, atI_nat (j := 1) rfl, .inr (.inl rfl)⟩
  · exact ⟨z, atI_nat (j := 2) rfl, .inr (.inr (.inl rfl))⟩
  · exact ⟨u, atI_nat (j := 3) rfl, .inr (.inr (.inr rfl))⟩
/-- the drawn numbers -/
structure Nums (K : PySem.W.Frag) (H : Hp) (p : Addr) (ks : List Int) : Prop where
  at_ : SqL K H p (ks.map V.int)
  sm : Small ks
  lo : 170 ≤ ks.length
  hi : ks.length ≤ 1000
theorem Nums.ex {K : PySem.W.Frag} {H H' : Hp} {p : Addr} {ks : List Int} (e : Ex H H') (h : Nums K H p ks) : Nums K H' p ks := ⟨ex_l e h.at_, h.sm, h.lo, h.hi⟩
def sp__law_pick (K : PySem.W.Frag) : Sp := fun vs H Q _ => ∃ (p : Addr) (ks : List Int) (k : Int), vs = [.ref p, .int k] ∧ Nums K H p ks ∧ 0 ≤ k ∧ ∀ v, 0 ≤ v → Q (.int v) H
def sp__law_count : Sp := fun vs H Q _ => ∃ n lo hi : Int, vs = [.int n, .int lo, .int hi] ∧ lo ≤ hi ∧ ∀ v, lo ≤ v → v ≤ hi → Q (.int v) H
def sp__law_times (K : PySem.W.Frag) : Sp := fun vs H Q _ => ∃ (p : Addr) (ks : List Int) (k m : Int), vs = [.ref p, .int k, .int m] ∧ Nums K H p ks ∧ 0 ≤ k ∧ 0 ≤ m ∧ m ≤ 1000 ∧
  ∀ H' u us (ts : List (Option (Int × Int))), Ex H H' → H u = none → H' u = some (.lst us) → DpAll K H' us (ts.map dTime) → (ts.length : Int) = m → (∀ b ∈ ts, TimeOk b) → Q (.ref u) H'
section
variable {P : Program} {w : World} {K : PySem.W.Frag} {mg : Str → Option Value} {base : Heap} {a : Ad}
end
end EV

set_option Elab.async false
set_option linter.all false
set_option maxRecDepth 100000
set_option maxHeartbeats 4000000
namespace EV
open PySem PySem.Spec PyProof.Rows L2 EvS Evl
/-! ### names as the law makes them -/
def CH : List Nat := ("abcdefghijklmnopqrstuvwxyz0123456789" : Str).cps.toList
def chAt (i : Int) : Nat := CH.getD i.toNat 0
theorem ch_len : CH.length = 36 := by decide +kernel
theorem ch_slen : ("abcdefghijklmnopqrstuvwxyz0123456789" : Str).length = 36 := by decide +kernel
theorem ch_get {i : Int} (h0 : 0 ≤ i) (h : i < 36) : atI CH i = some (chAt i) := by
  have hl : i.toNat < CH.length := by rw [ch_len]; omega
  have z := atI_nat (xs := CH) (j := i.toNat) (List.getElem?_eq_getElem hl)
  rw [show ((i.toNat : Nat) : Int) = i by omega] at z
  rw [z]
  unfold chAt
  rw [List.getD_eq_getElem?_getD, List.getElem?_eq_getElem hl]
  rfl
theorem ch_all : ∀ i, i < 36 → okSign (CH.getD i 0) = true := by decide +kernel
theorem ch_let : ∀ i, i < 26 → decide (CH.getD i 0 ∈ LETS) = true := by decide +kernel
theorem ch_inj : ∀ i, i < 36 → ∀ j, j < 36 → CH.getD i 0 = CH.getD j 0 → i = j := by decide +kernel
theorem chAt_ok {i : Int} (h0 : 0 ≤ i) (h : i < 36) : okSign (chAt i) = true := ch_all i.toNat (by omega)
theorem chAt_let {i : Int} (h0 : 0 ≤ i) (h : i < 26) : chAt i ∈ LETS := of_decide_eq_true (ch_let i.toNat (by omega))
theorem chAt_inj {i j : Int} (h0 : 0 ≤ i) (h : i < 36) (k0 : 0 ≤ j) (k : j < 36) (e : chAt i = chAt j) : i = j := by
  have := ch_inj i.toNat (by omega) j.toNat (by omega) e
  omega
theorem m36 (x : Int) : 0 ≤ x % 36 ∧ x % 36 < 36 := ⟨Int.emod_nonneg _ (by decide), Int.emod_lt_of_pos _ (by decide)⟩
def bas (ks : List Int) (at_ : Nat) : Nat := if ks.getD 1 0 % 5 = 1 then 2 else at_
def preN (ks : List Int) (b n : Nat) : List Nat := chAt (ks.getD b 0 % 26) :: (List.range n).map fun (k : Nat) => chAt ((ks.getD (b + 2) 0 + (k : Int) * ks.getD (b + 3) 0) % 36)
def pre (ks : List Int) (b : Nat) : List Nat := preN ks b (ks.getD (b + 1) 0 % 10).toNat
def plc (ks : List Int) (b : Nat) : Nat := (1 + (ks.getD (b + 4) 0).fmod (((pre ks b).length : Nat) : Int)).toNat
def tailN (k : Nat) : List Nat := if 36 ≤ k then [113] else []
def codes (ks : List Int) (b k : Nat) : List Nat := (pre ks b).take (plc ks b) ++ ([chAt ((ks.getD (b + 5) 0 + 5 * (k : Int)) % 36)] ++ (tailN k ++ (pre ks b).drop (plc ks b)))
def nameOf (ks : List Int) (at_ k : Nat) : Str := ⟨(codes ks (bas ks at_) k).toArray⟩
def names (ks : List Int) (at_ m : Nat) : List Str := (List.range m).map (nameOf ks at_)
theorem pre_len (ks : List Int) (b : Nat) : 1 ≤ (pre ks b).length ∧ (pre ks b).length ≤ 10 := by
  unfold pre preN
  rw [List.length_cons, List.length_map, List.length_range]
  have := Int.emod_nonneg (ks.getD (b + 1) 0) (show (10 : Int) ≠ 0 by decide)
  have := Int.emod_lt_of_pos (ks.getD (b + 1) 0) (show (0 : Int) < 10 by decide)
  omega
theorem plc_le (ks : List Int) (b : Nat) : 1 ≤ plc ks b ∧ plc ks b ≤ (pre ks b).length := by
  have h := pre_len ks b
  have p : (0 : Int) < (((pre ks b).length : Nat) : Int) := by omega
  have := Int.fmod_nonneg_of_pos (ks.getD (b + 4) 0) p
  have := Int.fmod_lt_of_pos (ks.getD (b + 4) 0) p
  unfold plc
  omega
theorem pre_ok (ks : List Int) (b : Nat) : ∀ c ∈ pre ks b, okSign c = true := by
  intro c hc
  unfold pre preN at hc
  rcases List.mem_cons.mp hc with e | hc
  · rw [e]
    have := Int.emod_lt_of_pos (ks.getD b 0) (show (0 : Int) < 26 by decide)
    exact chAt_ok (Int.emod_nonneg _ (by decide)) (by omega)
  · obtain ⟨k, _, rfl⟩ := List.mem_map.mp hc
    exact chAt_ok (m36 _).1 (m36 _).2
theorem tail_len (k : Nat) : (tailN k).length = if 36 ≤ k then 1 else 0 := by
  unfold tailN
  split <;> rfl
theorem codes_len (ks : List Int) (b k : Nat) : (codes ks b k).length = (pre ks b).length + 1 + if 36 ≤ k then 1 else 0 := by
  have h := plc_le ks b
  unfold codes
  rw [List.length_append, List.length_append, List.length_append, List.length_take, List.length_drop, tail_len, List.length_singleton]
  omega
theorem name_ok (ks : List Int) (at_ k : Nat) : isName (nameOf ks at_ k) = true := by
  have hl := codes_len ks (bas ks at_) k
  have hp := pre_len ks (bas ks at_)
  have hq := plc_le ks (bas ks at_)
  have len : (nameOf ks at_ k).length = (codes ks (bas ks at_) k).length := by
    show (codes ks (bas ks at_) k).toArray.size = _
    rw [List.size_toArray]
  have lst : (nameOf ks at_ k).cps.toList = codes ks (bas ks at_) k := rfl
  unfold isName
  rw [lst, len, Bool.and_eq_true, Bool.and_eq_true]
  refine ⟨⟨decide_eq_true ⟨by omega, by rw [hl]; split <;> omega⟩, ?_⟩, ?_⟩
  · obtain ⟨m, hm⟩ : ∃ m, plc ks (bas ks at_) = m + 1 := ⟨plc ks (bas ks at_) - 1, by omega⟩
    have e : (codes ks (bas ks at_) k).head? = some (chAt (ks.getD (bas ks at_) 0 % 26)) := by
      unfold codes
      rw [hm]
      unfold pre preN
      rfl
    rw [e]
    exact decide_eq_true (chAt_let (Int.emod_nonneg _ (by decide)) (Int.emod_lt_of_pos _ (by decide)))
  · rw [List.all_eq_true]
    intro c hc
    unfold codes at hc
    rcases List.mem_append.mp hc with z | z
    · exact pre_ok _ _ c (List.mem_of_mem_take z)
    rcases List.mem_append.mp z with z | z
    · rw [List.mem_singleton.mp z]
      exact chAt_ok (m36 _).1 (m36 _).2
    rcases List.mem_append.mp z with z | z
    · unfold tailN at z
      split at z
      · rw [List.mem_singleton.mp z]
        decide +kernel
      · cases z
    · exact pre_ok _ _ c (List.mem_of_mem_drop z)
theorem name_inj (ks : List Int) (at_ : Nat) {i j : Nat} (hi : i < 72) (hj : j < 72) (e : nameOf ks at_ i = nameOf ks at_ j) : i = j := by
  have ec : codes ks (bas ks at_) i = codes ks (bas ks at_) j := by
    have z := congrArg (fun s : Str => s.cps.toList) e
    exact z
  have hl := congrArg List.length ec
  rw [codes_len, codes_len] at hl
  have hb : (36 ≤ i) ↔ (36 ≤ j) := by
    constructor
    · intro h
      rw [if_pos h] at hl
      by_cases q : 36 ≤ j
      · exact q
      · rw [if_neg q] at hl
        omega
    · intro h
      rw [if_pos h] at hl
      by_cases q : 36 ≤ i
      · exact q
      · rw [if_neg q] at hl
        omega
  have ht := plc_le ks (bas ks at_)
  have lt : ((pre ks (bas ks at_)).take (plc ks (bas ks at_))).length = plc ks (bas ks at_) := by
    rw [List.length_take]
    omega
  have gi : ∀ k, (codes ks (bas ks at_) k)[plc ks (bas ks at_)]? = some (chAt ((ks.getD (bas ks at_ + 5) 0 + 5 * (k : Int)) % 36)) := fun k => by
    unfold codes
    rw [List.getElem?_append_right (by omega), lt, Nat.sub_self]
    rfl
  have z := gi i
  rw [ec, gi j] at z
  have y := chAt_inj (m36 _).1 (m36 _).2 (m36 _).1 (m36 _).2 (Option.some.inj z)
  omega
theorem names_good (ks : List Int) (at_ : Nat) {m : Nat} (h : m ≤ 72) : Good (names ks at_ m) := by
  refine ⟨fun n hn => ?_, ?_⟩
  · obtain ⟨k, _, rfl⟩ := List.mem_map.mp hn
    exact name_ok ks at_ k
  · unfold names
    refine List.pairwise_map.mpr (List.Pairwise.imp_of_mem (fun ha hb ne e => ?_) (List.nodup_range (n := m)))
    have h1 := List.mem_range.mp ha
    have h2 := List.mem_range.mp hb
    exact ne (name_inj ks at_ (by omega) (by omega) e)
theorem names_len (ks : List Int) (at_ m : Nat) : (names ks at_ m).length = m := by
  unfold names
  rw [List.length_map, List.length_range]
theorem names_more (ks : List Int) (at_ m : Nat) : names ks at_ (m + 1) = names ks at_ m ++ [nameOf ks at_ m] := by
  unfold names
  rw [List.range_succ, List.map_append]
  rfl
/-! texts by their codes -/
abbrev tx (l : List Nat) : Str := ⟨l.toArray⟩
theorem tx_add (l m : List Nat) : tx l ++ tx m = tx (l ++ m) := Str.ext' (by rw [Str.cps_append]; simp)
theorem tx_one (c : Nat) : (⟨#[c]⟩ : Str) = tx [c] := rfl
theorem tx_len (l : List Nat) : (tx l).length = l.length := by
  show l.toArray.size = _
  rw [List.size_toArray]
theorem tx_to (l : List Nat) (n : Nat) : cutS (tx l) none (some (n : Int)) = tx (l.take n) := by
  have e : (tx l).cps.toList = l := rfl
  unfold cutS
  rw [HT.sIx_nat, HT.sIx_none, e, tx_len, List.drop_zero, Nat.sub_zero]
  rcases Nat.le_total n l.length with h | h
  · rw [Nat.min_eq_left h]
  · rw [Nat.min_eq_right h, List.take_length, List.take_of_length_le h]
theorem tx_from (l : List Nat) (n : Nat) : cutS (tx l) (some (n : Int)) none = tx (l.drop n) := by
  have e : (tx l).cps.toList = l := rfl
  unfold cutS
  rw [HT.sIx_nat, HT.sIx_none, e, tx_len]
  rcases Nat.le_total n l.length with h | h
  · rw [Nat.min_eq_left h, List.take_of_length_le (by rw [List.length_drop]; exact Nat.le_refl _)]
  · rw [Nat.min_eq_right h, List.drop_length, List.drop_eq_nil_of_le h, List.take_nil]
theorem one_len (c : Nat) : (⟨#[c]⟩ : Str).length = 1 := rfl
def sp__law_names (K : PySem.W.Frag) : Sp := fun vs H Q _ => ∃ (p : Addr) (ks : List Int) (at_ m : Nat), vs = [.ref p, .int (at_ : Int), .int (m : Int)] ∧ Nums K H p ks ∧ 2 ≤ at_ ∧ at_ ≤ 100 ∧ m ≤ 72 ∧
  ∀ H' q, Ex H H' → H q = none → H' q = some (.lst ((names ks at_ m).map V.str)) → Q (.ref q) H'
section
variable {P : Program} {w : World} {K : PySem.W.Frag} {mg : Str → Option Value} {base : Heap} {a : Ad}
end
end EV

set_option Elab.async false
set_option linter.all false
set_option maxRecDepth 100000
set_option maxHeartbeats 4000000
namespace EV
open PySem PySem.Spec PyProof.Rows L2 EvS Evl
/-! ### a heap without one place -/
def del (H : Hp) (D : Addr) : Hp := fun a => if a = D then none else H a
theorem del_upd {H : Hp} {D : Addr} {o : HO} : del (upd H D o) D = del H D := by
  funext a
  unfold del
  by_cases h : a = D
  · rw [if_pos h, if_pos h]
  · rw [if_neg h, if_neg h, upd_ne h]
theorem del_ex {H : Hp} {D : Addr} : Ex (del H D) H := fun a o h => by
  unfold del at h
  split at h
  · cases h
  · exact h
theorem ex_del {H H' : Hp} {D : Addr} (e : Ex H H') : Ex (del H D) (del H' D) := fun a o h => by
  unfold del at h ⊢
  split at h
  · cases h
  · rename_i n
    rw [if_neg n]
    exact e _ _ h
theorem ex_to_del {H H' : Hp} {D : Addr} (e : Ex H H') (h : H D = none) : Ex H (del H' D) := fun a o q => by
  unfold del
  rw [if_neg (ne_of_none q h)]
  exact e _ _ q
theorem del_at {H : Hp} {D a : Addr} {o : HO} (n : a ≠ D) (h : H a = some o) : del H D a = some o := by
  unfold del
  rw [if_neg n]
  exact h
theorem dps_drop {K : PySem.W.Frag} {H : Hp} : ∀ {vs : List V} {ds : List PyData} (n : Nat), DpAll K H vs ds → DpAll K H (vs.drop n) (ds.drop n)
  | _, _, 0, h => h
  | _, _, _ + 1, .nil => .nil
  | _, _, n + 1, .cons _ r => dps_drop n r
theorem dps_take {K : PySem.W.Frag} {H : Hp} : ∀ {vs : List V} {ds : List PyData} (n : Nat), DpAll K H vs ds → DpAll K H (vs.take n) (ds.take n)
  | _, _, 0, _ => .nil
  | _, _, _ + 1, .nil => .nil
  | _, _, n + 1, .cons h r => .cons h (dps_take n r)
theorem cut_from (xs : List V) (n : Nat) : cutV xs (some (n : Int)) none = xs.drop n := by
  unfold cutV
  rw [HT.sIx_nat, HT.sIx_none]
  rcases Nat.le_total n xs.length with h | h
  · rw [Nat.min_eq_left h, List.take_of_length_le (by rw [List.length_drop]; exact Nat.le_refl _)]
  · rw [Nat.min_eq_right h, List.drop_length, List.drop_eq_nil_of_le h, List.take_nil]
theorem cut_to (xs : List V) (n : Nat) : cutV xs none (some (n : Int)) = xs.take n := by
  unfold cutV
  rw [HT.sIx_nat, HT.sIx_none, List.drop_zero, Nat.sub_zero]
  rcases Nat.le_total n xs.length with h | h
  · rw [Nat.min_eq_left h]
  · rw [Nat.min_eq_right h, List.take_length, List.take_of_length_le h]
/-! ### pairs of places, by their numbers -/
def dIdx (ps : List Str) (q : Nat × Nat) : PyData := .tuple [.str (ps.getD q.1 ""), .str (ps.getD q.2 "")]
theorem getD_in {ps : List Str} {i : Nat} (h : i < ps.length) : ps.getD i "" ∈ ps ∧ ps[i]? = some (ps.getD i "") := by
  rw [List.getD_eq_getElem?_getD, List.getElem?_eq_getElem h]
  exact ⟨List.getElem_mem h, rfl⟩
theorem getD_inj {ps : List Str} (nd : ps.Nodup) {i j : Nat} (hi : i < ps.length) (hj : j < ps.length) (e : ps.getD i "" = ps.getD j "") : i = j := by
  rw [List.getD_eq_getElem?_getD, List.getElem?_eq_getElem hi, List.getD_eq_getElem?_getD, List.getElem?_eq_getElem hj] at e
  rcases Nat.lt_trichotomy i j with h | h | h
  · exact absurd e (List.pairwise_iff_getElem.mp nd i j hi hj h)
  · exact h
  · exact absurd e.symm (List.pairwise_iff_getElem.mp nd j i hj hi h)
theorem idx_ne {ps : List Str} (nd : ps.Nodup) {q r : Nat × Nat} (hq : q.1 < q.2 ∧ q.2 < ps.length) (hr : r.1 < r.2 ∧ r.2 < ps.length) (ne : q ≠ r) : ¬ [ps.getD q.1 "", ps.getD q.2 ""].Perm [ps.getD r.1 "", ps.getD r.2 ""] := fun p => by
  have inj := fun {i j : Nat} (hi : i < ps.length) (hj : j < ps.length) e => getD_inj nd hi hj e
  have h1 : q.1 = r.1 ∨ q.1 = r.2 := by
    have z := p.mem_iff.mp (List.mem_cons_self : ps.getD q.1 "" ∈ _)
    rcases List.mem_cons.mp z with z | z
    · exact .inl (inj (by omega) (by omega) z)
    · exact .inr (inj (by omega) (by omega) (List.mem_singleton.mp z))
  have h2 : q.2 = r.1 ∨ q.2 = r.2 := by
    have z := p.mem_iff.mp (List.mem_cons_of_mem _ (List.mem_singleton.mpr rfl) : ps.getD q.2 "" ∈ [ps.getD q.1 "", ps.getD q.2 ""])
    rcases List.mem_cons.mp z with z | z
    · exact .inl (inj (by omega) (by omega) z)
    · exact .inr (inj (by omega) (by omega) (List.mem_singleton.mp z))
  refine ne (Prod.ext ?_ ?_) <;> omega
theorem idx_apart {ps : List Str} (nd : ps.Nodup) {I : List (Nat × Nat)} : ∀ {pa : List (Str × Str × Int)}, I.Nodup → (∀ q ∈ I, q.1 < q.2 ∧ q.2 < ps.length) → All2 (fun (x : Str × Str × Int) (q : Nat × Nat) => [x.1, x.2.1].Perm [ps.getD q.1 "", ps.getD q.2 ""] ∧ 1 ≤ x.2.2 ∧ x.2.2 ≤ 1000) pa I → (pa.map fun p => (p.1, p.2.1)).Pairwise Apart ∧ ∀ p ∈ pa, PathOk ps p := by
  induction I with
  | nil =>
    intro pa _ _ h
    cases h
    exact ⟨List.Pairwise.nil, fun p hp => by cases hp⟩
  | cons q I ih =>
    intro pa hn hI h
    cases h with
    | @cons x _ xs _ hx r =>
      rw [List.nodup_cons] at hn
      obtain ⟨h1, h2⟩ := ih hn.2 (fun q hq => hI q (List.mem_cons_of_mem _ hq)) r
      have hq := hI q List.mem_cons_self
      refine ⟨?_, fun p hp => ?_⟩
      · rw [List.map_cons, List.pairwise_cons]
        refine ⟨fun y hy pm => ?_, h1⟩
        obtain ⟨z, hz, rfl⟩ := List.mem_map.mp hy
        obtain ⟨i, hi, ei⟩ := List.getElem_of_mem hz
        obtain ⟨r2, hr2, p2⟩ := r.at i (show xs[i]? = some z by rw [List.getElem?_eq_getElem hi, ei])
        have hm := List.mem_of_getElem? hr2
        exact idx_ne nd hq (hI r2 (List.mem_cons_of_mem _ hm)) (fun e => hn.1 (e ▸ hm)) (hx.1.symm.trans (pm.trans p2.1))
      · rcases List.mem_cons.mp hp with rfl | hp
        · have g1 := (getD_in (ps := ps) (i := q.1) (by omega)).1
          have g2 := (getD_in (ps := ps) (i := q.2) (by omega)).1
          have m1 := hx.1.mem_iff.mp (List.mem_cons_self : p.1 ∈ _)
          have m2 := hx.1.mem_iff.mp (List.mem_cons_of_mem _ (List.mem_singleton.mpr rfl) : p.2.1 ∈ [p.1, p.2.1])
          refine ⟨?_, ?_, fun e => ?_, hx.2.1, hx.2.2⟩
          · rcases List.mem_cons.mp m1 with z | z
            · rw [z]; exact g1
            · rw [List.mem_singleton.mp z]; exact g2
          · rcases List.mem_cons.mp m2 with z | z
            · rw [z]; exact g1
            · rw [List.mem_singleton.mp z]; exact g2
          · have z1 := hx.1.symm.mem_iff.mp (List.mem_cons_self : ps.getD q.1 "" ∈ _)
            have z2 := hx.1.symm.mem_iff.mp (List.mem_cons_of_mem _ (List.mem_singleton.mpr rfl) : ps.getD q.2 "" ∈ [ps.getD q.1 "", ps.getD q.2 ""])
            rw [← e] at z1 z2
            have w1 : ps.getD q.1 "" = p.1 := by simpa using z1
            have w2 : ps.getD q.2 "" = p.1 := by simpa using z2
            have := getD_inj nd (by omega) (by omega) (w1.trans w2.symm)
            omega
        · exact h2 p hp
def sp__law_paths (K : PySem.W.Frag) : Sp := fun vs H Q _ => ∃ (p pl : Addr) (ks : List Int) (ps : List Str) (k m : Int), vs = [.ref p, .int k, .ref pl, .int m] ∧ Nums K H p ks ∧ SqL K H pl (ps.map V.str) ∧ Good ps ∧ ps.length ≤ 24 ∧ 0 ≤ k ∧ 0 ≤ m ∧ m ≤ 60 ∧
  ∀ H' q (pa : List (Str × Str × Int)), Ex H H' → H q = none → Dp K H' (.ref q) (.list (pa.map dPath)) → pa.length ≤ 60 → (∀ p ∈ pa, PathOk ps p) → (pa.map fun p => (p.1, p.2.1)).Pairwise Apart → Q (.ref q) H'
section
variable {P : Program} {w : World} {K : PySem.W.Frag} {mg : Str → Option Value} {base : Heap} {a : Ad}
end
end EV

set_option Elab.async false
set_option linter.all false
set_option maxRecDepth 100000
set_option maxHeartbeats 4000000
namespace EV
open PySem PySem.Spec PyProof.Rows L2 EvS Evl
theorem other_ne {o y L : Int} (o0 : 0 ≤ o) (oL : o < L) (y0 : 0 ≤ y) (yL : y < L - 1) : 0 ≤ (o + 1 + y).fmod L ∧ (o + 1 + y).fmod L < L ∧ (o + 1 + y).fmod L ≠ o := by
  rw [Int.fmod_eq_emod_of_nonneg _ (by omega)]
  rcases Int.lt_or_le (o + 1 + y) L with h | h
  · rw [Int.emod_eq_of_lt (by omega) h]
    omega
  · have e : o + 1 + y = (o + 1 + y - L) + L := by omega
    rw [e, Int.add_emod_right, Int.emod_eq_of_lt (by omega) (by omega)]
    omega
def sp__law_parts (K : PySem.W.Frag) : Sp := fun vs H Q _ => ∃ (p : Addr) (ks : List Int), vs = [.ref p] ∧ Nums K H p ks ∧ ∀ H' q D, Ex H H' → H q = none → Dp K H' (.ref q) (dParts D) → LandOk D → Q (.ref q) H'
section
variable {P : Program} {w : World} {K : PySem.W.Frag} {mg : Str → Option Value} {base : Heap} {a : Ad}
end
end EV

set_option Elab.async false
set_option linter.all false
set_option maxRecDepth 100000
set_option maxHeartbeats 4000000
namespace EV
open PySem PySem.Spec PyProof.Rows L2 EvS Evl
/-! ### data that may be compared -/
theorem sign_small : ∀ c ∈ LETS ++ DIGS, c < 1114112 := by decide +kernel
theorem name_strOk {z : Str} (h : isName z = true) : PyData.strOk z = true := by
  unfold isName at h
  rw [Bool.and_eq_true] at h
  unfold PyData.strOk
  rw [Array.all_eq_true_iff_forall_mem]
  intro c hc
  have q := List.all_eq_true.mp h.2 c (Array.mem_toList_iff.mpr hc)
  unfold okSign at q
  rw [Bool.or_eq_true] at q
  refine decide_eq_true (sign_small c ?_)
  rcases q with q | q
  · exact List.mem_append_left _ (of_decide_eq_true q)
  · exact List.mem_append_right _ (of_decide_eq_true q)
theorem lay_of : ∀ {ds : List PyData}, (∀ d ∈ ds, PyData.canLay0 d = true) → PyData.canLayAll0 ds = true
  | [], _ => by simp [PyData.canLayAll0]
  | d :: ds, h => by
    rw [PyData.canLayAll0, h d List.mem_cons_self, lay_of fun x hx => h x (List.mem_cons_of_mem _ hx)]
    rfl
theorem deep_of {n : Nat} : ∀ {ds : List PyData}, (∀ d ∈ ds, PyData.depth d ≤ n) → PyData.depthAll ds ≤ n
  | [], _ => by simp [PyData.depthAll]
  | d :: ds, h => by
    have h1 := h d List.mem_cons_self
    have h2 := deep_of (n := n) (ds := ds) fun x hx => h x (List.mem_cons_of_mem _ hx)
    simp only [PyData.depthAll]
    omega
/-- small data: fit to be laid, and not deep -/
def Sh (n : Nat) (d : PyData) : Prop := PyData.canLay0 d = true ∧ PyData.depth d ≤ n
theorem sh_str {z : Str} {n : Nat} (h : isName z = true) : Sh (n + 1) (.str z) := ⟨by simp only [PyData.canLay0]; exact name_strOk h, by simp only [PyData.depth]; omega⟩
theorem sh_tup {n : Nat} {ds : List PyData} (h : ∀ d ∈ ds, Sh n d) : Sh (n + 1) (.tuple ds) := by
  have := deep_of (n := n) fun d hd => (h d hd).2
  exact ⟨by simp only [PyData.canLay0]; exact lay_of fun d hd => (h d hd).1, by simp only [PyData.depth]; omega⟩
theorem sh_lst {n : Nat} {ds : List PyData} (h : ∀ d ∈ ds, Sh n d) : Sh (n + 1) (.list ds) := by
  have := deep_of (n := n) fun d hd => (h d hd).2
  exact ⟨by simp only [PyData.canLay0]; exact lay_of fun d hd => (h d hd).1, by simp only [PyData.depth]; omega⟩
theorem sh_int (i : Int) (n : Nat) : Sh (n + 1) (.int i) := ⟨by simp only [PyData.canLay0], by simp only [PyData.depth]; omega⟩
theorem sh_up {n m : Nat} {d : PyData} (h : n ≤ m) (q : Sh n d) : Sh m d := ⟨q.1, Nat.le_trans q.2 h⟩
theorem sh_shaped {n : Nat} {d : PyData} (h : Sh n d) (hn : n ≤ 64) : SeqAt.shaped d = true := by
  show (PyData.canLay0 d && decide (PyData.depth d ≤ 64)) = true
  rw [Bool.and_eq_true]
  exact ⟨h.1, decide_eq_true (Nat.le_trans h.2 hn)⟩
theorem sh_time (b : Option (Int × Int)) : Sh 3 (dTime b) := by
  cases b with
  | none => exact ⟨by simp [dTime, PyData.canLay0], by simp [dTime, PyData.depth]⟩
  | some b =>
    refine sh_tup (n := 2) fun d hd => ?_
    rcases List.mem_cons.mp hd with rfl | hd
    · exact sh_int _ _
    · rw [List.mem_singleton.mp hd]
      exact sh_int _ _
theorem sh_strs {ns : List Str} (h : ∀ n ∈ ns, isName n = true) : Sh 6 (.tuple (ns.map .str)) := sh_tup (n := 5) fun d hd => by
  obtain ⟨n, hn, rfl⟩ := List.mem_map.mp hd
  exact sh_str (h n hn)
theorem mem4 {α : Type} {x a b c d : α} (h : x ∈ [a, b, c, d]) : x = a ∨ x = b ∨ x = c ∨ x = d := by simpa using h
theorem sh_link {D : LandD} (ok : LandOk D) {k : Link} (hk : k ∈ D.ls) : Sh 5 (dLink k) := by
  have l := ok.lk k hk
  refine sh_tup (n := 4) fun d hd => ?_
  rcases mem4 hd with rfl | rfl | rfl | rfl
  · exact sh_str (ok.gl.1 _ (List.mem_map.mpr ⟨k, hk, rfl⟩))
  · exact sh_str (ok.gp.1 _ l.o)
  · exact sh_str (ok.gp.1 _ l.t)
  · refine sh_tup (n := 3) fun d hd => ?_
    obtain ⟨b, _, rfl⟩ := List.mem_map.mp hd
    exact sh_time b
theorem sh_path {D : LandD} (ok : LandOk D) {p : Str × Str × Int} (hp : p ∈ D.pa) : Sh 5 (dPath p) := by
  have l := ok.pt p hp
  refine sh_tup (n := 4) fun d hd => ?_
  have q : d = .str p.1 ∨ d = .str p.2.1 ∨ d = .int p.2.2 := by simpa using hd
  rcases q with rfl | rfl | rfl
  · exact sh_str (ok.gp.1 _ l.o)
  · exact sh_str (ok.gp.1 _ l.t)
  · exact sh_int _ _
theorem sh_land {D : LandD} (ok : LandOk D) : Sh 7 (dLand D) := by
  refine sh_tup (n := 6) fun d hd => ?_
  rcases mem4 hd with rfl | rfl | rfl | rfl
  · exact sh_strs ok.gw.1
  · exact sh_strs ok.gp.1
  · refine sh_tup (n := 5) fun d hd => ?_
    obtain ⟨b, hb, rfl⟩ := List.mem_map.mp hd
    exact sh_link ok hb
  · refine sh_tup (n := 5) fun d hd => ?_
    obtain ⟨b, hb, rfl⟩ := List.mem_map.mp hd
    exact sh_path ok hb
theorem shaped_land {D : LandD} (ok : LandOk D) : SeqAt.shaped (dLand D) = true := sh_shaped (sh_land ok) (by decide)
theorem eqv_self {d : PyData} (h : SeqAt.shaped d = true) : PyData.eqv d d = true := SeqAt.eqv_refl _ (SeqAt.canLay_of_shaped h)
/-! ### the parts of a list of parts -/
structure PartsAt (K : PySem.W.Frag) (H : Hp) (p : Addr) (D : LandD) (wi pl li pa : Addr) (rows prs : List V) : Prop where
  ob : SqL K H p [.ref wi, .ref pl, .ref li, .ref pa]
  wi : SqL K H wi (D.ws.map V.str)
  pl : SqL K H pl (D.ps.map V.str)
  li : SqL K H li rows
  ls : DpAll K H rows (D.ls.map dRaw)
  pa : SqL K H pa prs
  ps : DpAll K H prs (D.pa.map dPath)
theorem PartsAt.ex {K : PySem.W.Frag} {H H' : Hp} {p : Addr} {D : LandD} {wi pl li pa : Addr} {rows prs : List V} (e : Ex H H') (h : PartsAt K H p D wi pl li pa rows prs) : PartsAt K H' p D wi pl li pa rows prs :=
  ⟨ex_l e h.ob, ex_l e h.wi, ex_l e h.pl, ex_l e h.li, dps_ex e h.ls, ex_l e h.pa, dps_ex e h.ps⟩
theorem parts_in {K : PySem.W.Frag} {H : Hp} {p : Addr} {D : LandD} (h : Dp K H (.ref p) (dParts D)) : ∃ wi pl li pa rows prs, PartsAt K H p D wi pl li pa rows prs := by
  unfold dParts at h
  cases h with
  | lst hs hr =>
    cases hr with
    | cons a1 hr =>
      cases a1 with
      | lst s1 d1 =>
        cases hr with
        | cons a2 hr =>
          cases a2 with
          | lst s2 d2 =>
            cases hr with
            | cons a3 hr =>
              cases a3 with
              | lst s3 d3 =>
                cases hr with
                | cons a4 hr =>
                  cases a4 with
                  | lst s4 d4 =>
                    cases hr
                    rw [dps_strs d1] at s1
                    rw [dps_strs d2] at s2
                    exact ⟨_, _, _, _, _, _, hs, s1, s2, s3, d3, s4, d4⟩
def sp__law_made (K : PySem.W.Frag) (C : Addr) : Sp := fun vs H Q _ => ∃ (p : Addr) (D : LandD), vs = [.ref p] ∧ Dp K H (.ref p) (dParts D) ∧ LandOk D ∧ ∀ H' x, Ex H H' → H x = none → IsLand K C H' x D → Q (.ref x) H'
def sp__law_frozen (K : PySem.W.Frag) : Sp := fun vs H Q _ => ∃ (p : Addr) (D : LandD), vs = [.ref p] ∧ Dp K H (.ref p) (dParts D) ∧ LandOk D ∧ ∀ H' q, Ex H H' → H q = none → Dp K H' (.ref q) (dLand D) → Q (.ref q) H'
def sp__law_same (K : PySem.W.Frag) (C : Addr) : Sp := fun vs H Q _ => ∃ (x d : Addr) (D : LandD), vs = [.ref x, .ref d] ∧ IsLand K C H x D ∧ Dp K H (.ref d) (dLand D) ∧ LandOk D ∧ ∀ H', Ex H H' → Q (.bl true) H'
section
variable {P : Program} {w : World} {K : PySem.W.Frag} {mg : Str → Option Value} {base : Heap} {a : Ad}
end
end EV

set_option Elab.async false
set_option linter.all false
set_option maxRecDepth 100000
set_option maxHeartbeats 4000000
namespace EV
open PySem PySem.Spec PyProof.Rows L2 EvS Evl
/-! ### names as the law makes them from one number -/
def sizeN (n : Int) : Nat := (n % 11).toNat
def restTo (n : Int) (m : Nat) : List Nat := (List.range m).map fun (k : Nat) => chAt ((n + 7 * (k : Int) * (k : Int)) % 36)
def restN (n : Int) : List Nat := restTo n (sizeN n)
def ownN (n : Int) (k : Nat) : List Nat := if (n / 121 + (k : Int)) % 3 = 0 then (restN n).drop 1 else restN n
def plcN (n : Int) : Nat := ((n / 11).fmod ((sizeN n : Int) + 1)).toNat
def spotN (n : Int) (k : Nat) : Nat := min (plcN n) (ownN n k).length
def stpN (n : Int) : Int := if (n / 363) % 2 = 1 then 31 else 5
def codesN (n : Int) (k : Nat) : List Nat := chAt ((n + 3 * (k : Int)) % 26) :: ((ownN n k).take (spotN n k) ++ (chAt ((n + stpN n * (k : Int)) % 36) :: (ownN n k).drop (spotN n k)))
def nameN (n : Int) (k : Nat) : Str := tx (codesN n k)
def namesN (n : Int) (m : Nat) : List Str := (List.range m).map (nameN n)
theorem sizeN_le (n : Int) : sizeN n ≤ 10 := by
  have := Int.emod_lt_of_pos n (show (0 : Int) < 11 by decide)
  unfold sizeN
  omega
theorem restTo_len (n : Int) (m : Nat) : (restTo n m).length = m := by unfold restTo; rw [List.length_map, List.length_range]
theorem restN_len (n : Int) : (restN n).length = sizeN n := restTo_len _ _
theorem ownN_len (n : Int) (k : Nat) : (ownN n k).length ≤ 10 := by
  have := sizeN_le n
  unfold ownN
  split
  · rw [List.length_drop, restN_len]; omega
  · rw [restN_len]; omega
theorem ownN_ok (n : Int) (k : Nat) : ∀ c ∈ ownN n k, okSign c = true := by
  have r : ∀ c ∈ restN n, okSign c = true := fun c hc => by
    obtain ⟨j, _, rfl⟩ := List.mem_map.mp hc
    exact chAt_ok (m36 _).1 (m36 _).2
  intro c hc
  unfold ownN at hc
  split at hc
  · exact r c (List.mem_of_mem_drop hc)
  · exact r c hc
theorem codesN_len (n : Int) (k : Nat) : (codesN n k).length = (ownN n k).length + 2 := by
  have h : spotN n k ≤ (ownN n k).length := Nat.min_le_right _ _
  unfold codesN
  rw [List.length_cons, List.length_append, List.length_take, List.length_cons, List.length_drop]
  omega
theorem nameN_ok (n : Int) (k : Nat) : isName (nameN n k) = true := by
  have hl := codesN_len n k
  have ho := ownN_len n k
  have len : (nameN n k).length = (codesN n k).length := by
    show (codesN n k).toArray.size = _
    rw [List.size_toArray]
  have lst : (nameN n k).cps.toList = codesN n k := rfl
  unfold isName
  rw [lst, len, Bool.and_eq_true, Bool.and_eq_true]
  refine ⟨⟨decide_eq_true ⟨by omega, by omega⟩, ?_⟩, ?_⟩
  · have e : (codesN n k).head? = some (chAt ((n + 3 * (k : Int)) % 26)) := rfl
    rw [e]
    exact decide_eq_true (chAt_let (Int.emod_nonneg _ (by decide)) (Int.emod_lt_of_pos _ (by decide)))
  · rw [List.all_eq_true]
    intro c hc
    unfold codesN at hc
    rcases List.mem_cons.mp hc with z | z
    · rw [z]
      have := Int.emod_lt_of_pos (n + 3 * (k : Int)) (show (0 : Int) < 26 by decide)
      exact chAt_ok (Int.emod_nonneg _ (by decide)) (by omega)
    rcases List.mem_append.mp z with z | z
    · exact ownN_ok _ _ c (List.mem_of_mem_take z)
    rcases List.mem_cons.mp z with z | z
    · rw [z]
      exact chAt_ok (m36 _).1 (m36 _).2
    · exact ownN_ok _ _ c (List.mem_of_mem_drop z)
theorem nameN_inj (n : Int) {i j : Nat} (hi : i < 36) (hj : j < 36) (e : nameN n i = nameN n j) : i = j := by
  have ec : codesN n i = codesN n j := congrArg (fun s : Str => s.cps.toList) e
  have hl := congrArg List.length ec
  rw [codesN_len, codesN_len] at hl
  have eo : ownN n i = ownN n j := by
    have hs := restN_len n
    unfold ownN at hl ⊢
    split <;> split
    · rfl
    · rename_i h1 h2
      rw [if_pos h1, if_neg h2, List.length_drop] at hl
      have z : (restN n).length = 0 := by omega
      rw [List.length_eq_zero_iff] at z
      rw [z]
      rfl
    · rename_i h1 h2
      rw [if_neg h1, if_pos h2, List.length_drop] at hl
      have z : (restN n).length = 0 := by omega
      rw [List.length_eq_zero_iff] at z
      rw [z]
      rfl
    · rfl
  have es : spotN n i = spotN n j := by unfold spotN; rw [eo]
  have hle : spotN n j ≤ (ownN n j).length := Nat.min_le_right _ _
  unfold codesN at ec
  rw [eo, es] at ec
  have z := (List.cons.inj ec).2
  have z2 := List.append_cancel_left z
  have z3 := (List.cons.inj z2).1
  have y := chAt_inj (m36 _).1 (m36 _).2 (m36 _).1 (m36 _).2 z3
  unfold stpN at y
  split at y <;> omega
theorem namesN_good (n : Int) {m : Nat} (h : m ≤ 36) : Good (namesN n m) := by
  refine ⟨fun z hz => ?_, ?_⟩
  · obtain ⟨k, _, rfl⟩ := List.mem_map.mp hz
    exact nameN_ok n k
  · unfold namesN
    refine List.pairwise_map.mpr (List.Pairwise.imp_of_mem (fun ha hb ne e => ?_) (List.nodup_range (n := m)))
    have h1 := List.mem_range.mp ha
    have h2 := List.mem_range.mp hb
    exact ne (nameN_inj n (by omega) (by omega) e)
theorem namesN_len (n : Int) (m : Nat) : (namesN n m).length = m := by unfold namesN; rw [List.length_map, List.length_range]
theorem namesN_more (n : Int) (m : Nat) : namesN n (m + 1) = namesN n m ++ [nameN n m] := by
  unfold namesN
  rw [List.range_succ, List.map_append]
  rfl
theorem join_ones : ∀ l : List Nat, Txt.join "" (l.map fun c => tx [c]) = tx l := fun l => by
  rw [show Txt.join "" (l.map fun c => tx [c]) = Str.join "" (l.map fun c => tx [c]) from StrLaws.glued_eq_join _ _]
  induction l with
  | nil => rfl
  | cons c r ih =>
    cases r with
    | nil => rfl
    | cons d r =>
      show tx [c] ++ "" ++ Str.join "" ((d :: r).map fun c => tx [c]) = tx (c :: d :: r)
      rw [ih]
      have e : (tx [c] ++ ("" : Str)) = tx [c] := Str.ext' (by rw [Str.cps_append]; simp; rfl)
      rw [e, tx_add]
      rfl
theorem ones_sum : ∀ l : List Nat, ((l.map fun c => tx [c]).map (·.length)).sum = l.length
  | [] => rfl
  | c :: r => by
    have ih := ones_sum r
    rw [List.map_cons, List.map_cons, List.sum_cons, ih, List.length_cons]
    show 1 + r.length = _
    omega
def sp2__law_names : Sp := fun vs H Q _ => ∃ (n : Int) (m : Nat), vs = [.int n, .int (m : Int)] ∧ 0 ≤ n ∧ n < 1009 ∧ m ≤ 36 ∧
  ∀ H' q, Ex H H' → H q = none → H' q = some (.lst ((namesN n m).map V.str)) → Q (.ref q) H'
end EV

set_option Elab.async false
set_option linter.all false
set_option maxRecDepth 100000
set_option maxHeartbeats 4000000
namespace EV
open PySem PySem.Spec PyProof.Rows L2 EvS Evl
section
variable {P : Program} {w : World} {K : PySem.W.Frag} {mg : Str → Option Value} {base : Heap} {a : Ad}
theorem G__law_names (T : Txt K mg a) : FnOk P w K mg base CX0 1 a.f__law_names a.d__law_names ["number", "many"] sp2__law_names := by
  refine T.F__law_names.ok sc__law_names (fun vs H Q E h => ?_) (fun cdv A outer s H vs Q E hr h => ?_)
  · obtain ⟨n, m, rfl, _⟩ := h
    rfl
  · obtain ⟨n, m, rfl, n0, n1, m36', k⟩ := h
    refine ⟨_, (pss_cons (ps_set (i := 2) sc__law_names.nd rfl (Or.inr rfl) pe_str)
      (pss_cons (ps_set (i := 3) sc__law_names.nd rfl (Or.inl rfl) (pe_op op_mod (pe_callTy call_int1 (by rfl) T.z_int (by decide +kernel) (pa_cons (pv 0) pa_nil)) pe_int))
      (pss_cons (ps_set (i := 4) sc__law_names.nd rfl (Or.inl rfl) (pe_join pe_str (pe_lc (own := [("k", 7)]) (g := gName 7) (tt := tYes) rfl sc__law_names.nd (pi_range1 (by rfl) T.z_range (pa_cons (pv 3) pa_nil)) (blkOk_by (N := ["number", "many", "letters", "size", "rest", "place", "names", "k", "own", "spot", "step", "first"]) (sc := defScope s__law_names) (by decide +kernel)) (fun _ _ _ _ _ => pg_name (i := 7) sc__law_names.nd rfl (Or.inl rfl)) (fun _ _ _ _ _ => pts_nil) (fun _ _ _ _ _ => (pe_ix ix_str (pv 2) (pe_op op_mod (pe_callTy call_int1 (by rfl) T.z_int (by decide +kernel) (pa_cons (pe_op op_add (pv 0) (pe_op op_mul (pe_op op_mul pe_int (pv 7)) (pv 7))) pa_nil)) pe_int) (fun _ _ => rfl))))))
      (pss_cons (ps_set (i := 5) sc__law_names.nd rfl (Or.inl rfl) (pe_op op_modN (pe_callTy call_int1 (by rfl) T.z_int (by decide +kernel) (pa_cons (pe_op op_fdiv (pv 0) pe_int) pa_nil)) (pe_op op_add (pv 3) pe_int)))
      (pss_cons (ps_set (i := 6) sc__law_names.nd rfl (Or.inl rfl) (pe_lst pa_nil))
      (pss_cons (ps_for PassesOwn.never rfl (pi_range1 (by rfl) T.z_range (pa_cons (pv 1) pa_nil)) (pg_name (i := 7) sc__law_names.nd rfl (Or.inl rfl)) (pss_cons (ps_set (i := 8) sc__law_names.nd rfl (Or.inl rfl) (pv 4))
        (Evl.pss_cut (ps_if (pt_cmpR op_eq (pe_op op_mod (pe_callTy call_int1 (by rfl) T.z_int (by decide +kernel) (pa_cons (pe_op op_add (pe_op op_fdiv (pv 0) pe_int) (pv 7)) pa_nil)) pe_int) pe_int (nomark _)) (pss_one (ps_set (i := 8) sc__law_names.nd rfl (Or.inl rfl) (pe_slice sl_str (pv 4) (po_some pe_int) po_none))) pss_nil)
        (pss_cons (ps_set (i := 9) sc__law_names.nd rfl (Or.inl rfl) (pe_callB (call_min2 rfl) (by rfl) T.z_min (by decide +kernel) (pa_cons (pv 5) (pa_cons (pe_callB call_len_str (by rfl) T.z_len PySem.boot_len (pa_cons (pv 8) pa_nil)) pa_nil))))
        (pss_cons (ps_set (i := 10) sc__law_names.nd rfl (Or.inl rfl) pe_int)
        (Evl.pss_cut (ps_if (pt_cmpR op_eq (pe_op op_mod (pe_callTy call_int1 (by rfl) T.z_int (by decide +kernel) (pa_cons (pe_op op_fdiv (pv 0) pe_int) pa_nil)) pe_int) pe_int (nomark _)) (pss_one (ps_set (i := 10) sc__law_names.nd rfl (Or.inl rfl) pe_int)) pss_nil)
        (pss_cons (ps_set (i := 11) sc__law_names.nd rfl (Or.inl rfl) (pe_op op_add_str (pe_ix ix_str (pv 2) (pe_op op_mod (pe_callTy call_int1 (by rfl) T.z_int (by decide +kernel) (pa_cons (pe_op op_add (pv 0) (pe_op op_mul pe_int (pv 7))) pa_nil)) pe_int) (fun _ _ => rfl)) (pe_slice sl_str (pv 8) po_none (po_some (pv 9)))))
        (pss_one (ps_expr (pe_bm PySem.F.plainAttrs_list PySem.F.slot_list_append PySem.F.type_list_append mt_append (pv 6) (pa_cons (pe_op op_add_str (pe_op op_add_str (pv 11) (pe_ix ix_str (pv 2) (pe_op op_mod (pe_callTy call_int1 (by rfl) T.z_int (by decide +kernel) (pa_cons (pe_op op_add (pv 0) (pe_op op_mul (pv 10) (pv 7))) pa_nil)) pe_int) (fun _ _ => rfl))) (pe_slice sl_str (pv 8) (po_some (pv 9)) po_none)) pa_nil)))))))))))
      (pss_one (ps_ret (pv 6))))))))), ?_⟩
    have s36 : ("abcdefghijklmnopqrstuvwxyz0123456789" : Str).length ≤ sizeLine := by decide +kernel
    have z0 := Int.emod_nonneg n (show (11 : Int) ≠ 0 by decide)
    have z1 := Int.emod_lt_of_pos n (show (0 : Int) < 11 by decide)
    have es : n % 11 = ((sizeN n : Nat) : Int) := by unfold sizeN; omega
    have sl := sizeN_le n
    refine ⟨_, rfl, .inl ⟨_, rfl, _, _, rfl, rfl, (by show (0 : Int) < 11; decide), ?_⟩⟩
    -- rest
    refine ⟨⟨_, rfl⟩, _, rfl, _, rfl, by omega, by omega, fun D hD => lc_range (lo := 0) (n := (n % 11).toNat) (fun i H' => Ex H H' ∧ H' D = some (.lst (((restTo n i).map fun c => tx [c]).map V.str))) ⟨Ex.new hD, upd_same⟩ ?_ ?_⟩
    · rintro i H' hi ⟨e, hL⟩
      refine ⟨rfl, _, rfl, _, rfl, _, rfl, _, _, rfl, rfl, .inl ⟨by decide, by decide⟩, _, rfl, _, _, rfl, rfl, .inl ⟨by omega, by omega⟩, _, _, rfl, rfl, .inl ⟨_, rfl, _, _, rfl, rfl, (by show (0 : Int) < 36; decide), _, _, _, rfl, rfl, s36, ch_get (m36 _).1 (m36 _).2, _, hL, sz_lt ?_, e.mut hD, ?_⟩⟩
      · rw [List.length_map, List.length_map, restTo_len]; omega
      · rw [upd_same]
        have st : restTo n (i + 1) = restTo n i ++ [chAt ((n + 7 * (0 + (i : Int)) * (0 + (i : Int))) % 36)] := by
          unfold restTo
          rw [List.range_succ, List.map_append, Int.zero_add]
          rfl
        rw [st, List.map_append, List.map_append]
        rfl
    rintro H1 ⟨e1, hL1⟩
    refine ⟨_, D, _, rfl, rfl, .inl (SqL.of hL1), ?_, ?_⟩
    · rw [ones_sum, List.length_map, restTo_len]
      show _ + _ * 0 ≤ _
      omega
    have ej : Txt.join "" ((restTo n (n % 11).toNat).map fun c => tx [c]) = tx (restN n) := by rw [join_ones]; rfl
    clear hL1
    have er : restTo n (sizeN n) = restN n := rfl
    have rl := restN_len n
    -- place
    have pd : (0 : Int) < ((sizeN n : Nat) : Int) + 1 := by omega
    have pq := Int.fmod_nonneg_of_pos (n / 11) pd
    have ep : (n / 11).fmod (((sizeN n : Nat) : Int) + 1) = ((plcN n : Nat) : Int) := by unfold plcN; omega
    have pl : plcN n ≤ sizeN n := by
      have := Int.fmod_lt_of_pos (n / 11) pd
      omega
    refine ⟨_, rfl, _, _, rfl, rfl, ⟨by decide, by decide⟩, .inl ⟨_, rfl, _, rfl, _, _, rfl, rfl, _, _, rfl, rfl, by omega, ?_⟩⟩
    have ep' : (n / 11).fmod (n % 11 + 1) = ((plcN n : Nat) : Int) := by rw [es]; exact ep
    -- names
    refine ⟨Nat.zero_le _, fun q hq => ?_⟩
    have e2 : Ex H (upd H1 q (.lst [])) := e1.trans (Ex.new hq)
    have hqH := fresh_back e1 hq
    refine ⟨_, rfl, _, rfl, by omega, by omega, for_range (n := ((m : Nat) : Int).toNat) (fun i σ H' => ∃ v7 v8 v9 v10 v11, σ = [some (.int n), some (.int (m : Int)), some (.str "abcdefghijklmnopqrstuvwxyz0123456789"), some (.int ((sizeN n : Nat) : Int)), some (.str (tx (restN n))), some (.int ((plcN n : Nat) : Int)), some (.ref q), v7, v8, v9, v10, v11] ∧ Ex H H' ∧ H' q = some (.lst ((namesN n i).map V.str))) ?_ ?_ ?_⟩
    · refine ⟨none, none, none, none, none, ?_, e2, upd_same⟩
      show [some (V.int n), some (.int (m : Int)), some (.str "abcdefghijklmnopqrstuvwxyz0123456789"), some (.int (n % 11)), some (.str (Txt.join "" ((restTo n (n % 11).toNat).map fun c => tx [c]))), some (.int ((n / 11).fmod (n % 11 + 1))), some (.ref q), none, none, none, none, none] = _
      rw [ep', ej, es]
    · rintro i σ H' hi ⟨v7, v8, v9, v10, v11, rfl, e, hL⟩
      have rls : (tx (restN n)).length ≤ sizeLine := sz_of (by rw [tx_len]; omega)
      -- own
      refine ⟨_, rfl, ?_⟩
      refine ⟨fun σ H2 => σ = [some (.int n), some (.int (m : Int)), some (.str "abcdefghijklmnopqrstuvwxyz0123456789"), some (.int ((sizeN n : Nat) : Int)), some (.str (tx (restN n))), some (.int ((plcN n : Nat) : Int)), some (.ref q), some (.int (0 + (i : Int))), some (.str (tx (ownN n i))), v9, v10, v11] ∧ H2 = H', ?_, ?_⟩
      · refine ⟨_, rfl, _, _, rfl, rfl, ⟨by decide, by decide⟩, _, rfl, _, _, rfl, rfl, .inl ⟨_, rfl, _, _, rfl, rfl, (by show (0 : Int) < 3; decide), rfl, _, rfl, ?_⟩⟩
        refine ite2 (fun h => ?_) (fun h => ?_)
        · have h' : (n / 121 + (i : Int)) % 3 = 0 := by have := V.int.inj (of_decide_eq_true h); rwa [Int.zero_add] at this
          refine ⟨_, rfl, _, rfl, _, rfl, rls, ?_⟩
          refine ⟨?_, rfl⟩
          have eo : ownN n i = (restN n).drop 1 := by unfold ownN; rw [if_pos h']
          rw [show cutS (tx (restN n)) (some 1) none = tx ((restN n).drop 1) from tx_from _ 1, eo]
          rfl
        · have h' : ¬ (n / 121 + (i : Int)) % 3 = 0 := fun z => h (decide_eq_true (congrArg V.int (by rw [Int.zero_add]; exact z)))
          refine ⟨?_, rfl⟩
          have eo : ownN n i = restN n := by unfold ownN; rw [if_neg h']
          rw [eo]
          rfl
      rintro σ H2 ⟨rfl, hH⟩
      rw [hH]
      clear hH H2
      have ol := ownN_len n i
      have ols : (tx (ownN n i)).length ≤ sizeLine := sz_of (by rw [tx_len]; omega)
      -- spot
      refine ⟨_, rfl, _, rfl, _, rfl, ols, _, _, rfl, ?_⟩
      have esp : (if (((tx (ownN n i)).length : Nat) : Int) < ((plcN n : Nat) : Int) then (((tx (ownN n i)).length : Nat) : Int) else ((plcN n : Nat) : Int)) = ((spotN n i : Nat) : Int) := by
        rw [tx_len]
        unfold spotN
        split <;> omega
      have spl : spotN n i ≤ (ownN n i).length := Nat.min_le_right _ _
      -- step
      refine ⟨fun σ H2 => σ = [some (.int n), some (.int (m : Int)), some (.str "abcdefghijklmnopqrstuvwxyz0123456789"), some (.int ((sizeN n : Nat) : Int)), some (.str (tx (restN n))), some (.int ((plcN n : Nat) : Int)), some (.ref q), some (.int (0 + (i : Int))), some (.str (tx (ownN n i))), some (.int ((spotN n i : Nat) : Int)), some (.int (stpN n)), v11] ∧ H2 = H', ?_, ?_⟩
      · refine ⟨_, rfl, _, _, rfl, rfl, ⟨by decide, by decide⟩, .inl ⟨_, rfl, _, _, rfl, rfl, (by show (0 : Int) < 2; decide), rfl, _, rfl, ?_⟩⟩
        refine ite2 (fun h => ?_) (fun h => ?_)
        · have h' : (n / 363) % 2 = 1 := V.int.inj (of_decide_eq_true h)
          refine ⟨?_, rfl⟩
          unfold stpN
          rw [if_pos h', ← esp]
          rfl
        · have h' : ¬ (n / 363) % 2 = 1 := fun z => h (decide_eq_true (congrArg V.int z))
          refine ⟨?_, rfl⟩
          unfold stpN
          rw [if_neg h', ← esp]
          rfl
      rintro σ H2 ⟨rfl, hH⟩
      rw [hH]
      clear hH H2
      have f0 := Int.emod_nonneg (n + 3 * (0 + (i : Int))) (show (26 : Int) ≠ 0 by decide)
      have f1 := Int.emod_lt_of_pos (n + 3 * (0 + (i : Int))) (show (0 : Int) < 26 by decide)
      have st0 : 0 ≤ stpN n ∧ stpN n ≤ 31 := by unfold stpN; split <;> omega
      refine ⟨_, rfl, _, rfl, _, rfl, _, _, rfl, rfl, .inl ⟨by decide, by decide⟩, _, _, rfl, rfl, .inl ⟨_, rfl, _, _, rfl, rfl, (by show (0 : Int) < 26; decide), _, _, _, rfl, rfl, s36, ch_get f0 (by omega), _, rfl, _, rfl, _, rfl, _, rfl, ols, _, _, rfl, rfl, sz_of ?_, ?_⟩⟩
      · rw [tx_to, tx_len, List.length_singleton, tx_len, List.length_take]; omega
      refine ⟨_, rfl, .inl ⟨rfl, _, SqL.of hL⟩, _, rfl, _, rfl, _, rfl, _, rfl, _, rfl, _, _, rfl, rfl, .inl ⟨by omega, by omega⟩, _, _, rfl, rfl, .inl ⟨_, rfl, _, _, rfl, rfl, (by show (0 : Int) < 36; decide), _, _, _, rfl, rfl, s36, ch_get (m36 _).1 (m36 _).2, _, _, rfl, rfl, sz_of ?_, _, rfl, _, rfl, _, rfl, _, rfl, ols, _, _, rfl, rfl, sz_of ?_, q, _, _, rfl, rfl, hL, sz_lt (by rw [List.length_map, namesN_len]; omega), ?_⟩⟩
      · rw [tx_to, Str.length_append, tx_len, List.length_singleton, tx_len, one_len, List.length_take]; omega
      · rw [tx_to, tx_from, Str.length_append, Str.length_append, tx_len, List.length_singleton, tx_len, one_len, tx_len, List.length_take, List.length_drop]; omega
      · refine ⟨_, _, _, _, _, rfl, e.mut hqH, ?_⟩
        rw [upd_same, namesN_more, List.map_append, tx_to, tx_from, tx_one, tx_one, tx_add, tx_add, tx_add]
        show some (HO.lst (_ ++ [V.str (tx _)])) = some (HO.lst (_ ++ [V.str (tx (codesN n i))]))
        unfold codesN
        rw [Int.zero_add, List.append_assoc, List.append_assoc]
        rfl
    · rintro σ H' ⟨v7, v8, v9, v10, v11, rfl, e, hL⟩
      exact ⟨_, rfl, k H' q e hqH hL⟩
end
end EV

set_option Elab.async false
set_option linter.all false
set_option maxRecDepth 100000
set_option maxHeartbeats 4000000
namespace EV
open PySem PySem.Spec PyProof.Rows L2 EvS Evl
/-! ### the parts of a drawn land -/
structure Parts2 (K : PySem.W.Frag) (H : Hp) (p : Addr) (D : LandD) (wi pl li pa : Addr) (rows prs : List V) : Prop where
  ob : SqL K H p [.ref wi, .ref pl, .ref li, .ref pa]
  wi : TupX.Bare H wi (D.ws.map V.str)
  pl : SqT K H pl (D.ps.map V.str)
  li : SqT K H li rows
  ls : DpAll K H rows (D.ls.map dLink)
  pa : SqT K H pa prs
  ps : DpAll K H prs (D.pa.map dPath)
theorem Parts2.ex {K : PySem.W.Frag} {H H' : Hp} {p : Addr} {D : LandD} {wi pl li pa : Addr} {rows prs : List V} (e : Ex H H') (h : Parts2 K H p D wi pl li pa rows prs) : Parts2 K H' p D wi pl li pa rows prs :=
  ⟨ex_l e h.ob, h.wi.ex e, ex_t e h.pl, ex_t e h.li, dps_ex e h.ls, ex_t e h.pa, dps_ex e h.ps⟩
structure Small2 (D : LandD) : Prop where
  w3 : D.ws.length ≤ 3
  p2 : 2 ≤ D.ps.length
  p7 : D.ps.length ≤ 7
  l10 : D.ls.length ≤ 10
  a6 : D.pa.length ≤ 6
  m15 : ∀ k ∈ D.ls, ∀ b, some b ∈ k.ts → b.2 ≤ 15
  w2 : ∀ z ∈ D.ws, 2 ≤ z.length
def sp2__law_parts (K : PySem.W.Frag) : Sp := fun vs H Q _ => ∃ (p : Addr) (ks : List Int), vs = [.ref p, .int 0] ∧ Nums K H p ks ∧
  ∀ H' q D wi pl li pa rows prs, Ex H H' → H q = none → H' q = some (.lst [.ref wi, .ref pl, .ref li, .ref pa]) → Parts2 K H' q D wi pl li pa rows prs → LandOk D → Small2 D → Q (.ref q) H'
theorem perm2 {α : Type} {a b c d : α} (h : [a, b].Perm [c, d]) : (a = c ∧ b = d) ∨ (a = d ∧ b = c) := by
  have m := h.mem_iff.mp (List.mem_cons_self : a ∈ _)
  rcases List.mem_cons.mp m with z | z
  · subst z
    have := (List.perm_cons a).mp h
    have e := List.perm_singleton.mp this
    exact .inl ⟨rfl, (List.cons.inj e).1⟩
  · have z := List.mem_singleton.mp z
    subst z
    have s : [a, b].Perm [a, c] := h.trans (List.Perm.swap a c [])
    have e := List.perm_singleton.mp ((List.perm_cons a).mp s)
    exact .inr ⟨rfl, (List.cons.inj e).1⟩
theorem namesN_two (n : Int) (m : Nat) : ∀ z ∈ namesN n m, 2 ≤ z.length := fun z hz => by
  unfold namesN at hz
  obtain ⟨k, _, rfl⟩ := List.mem_map.mp hz
  have hl := codesN_len n k
  have len : (nameN n k).length = (codesN n k).length := by
    show (codesN n k).toArray.size = _
    rw [List.size_toArray]
  omega
def dPair (a b : Str) : PyData := .tuple [.str a, .str b]
theorem sh_pair {a b : Str} (ha : isName a = true) (hb : isName b = true) : Sh 5 (dPair a b) := sh_tup (n := 4) fun d hd => by
  have q : d = .str a ∨ d = .str b := by simpa using hd
  rcases q with rfl | rfl
  · exact sh_str ha
  · exact sh_str hb
theorem eqv_pair (a b c d : Str) : PyData.eqv (dPair a b) (dPair c d) = (a == c && b == d) := by
  unfold dPair
  simp only [PyData.eqv, PyData.eqvAll, Bool.and_true]
end EV

set_option Elab.async false
set_option linter.all false
set_option maxRecDepth 100000
set_option maxHeartbeats 4000000
namespace EV
open PySem PySem.Spec PyProof.Rows L2 EvS Evl
section
variable {P : Program} {w : World} {K : PySem.W.Frag} {mg : Str → Option Value} {base : Heap} {a : Ad}
theorem G__law_parts (T : Txt K mg a) : FnOk P w K mg base CX0 2 a.f__law_parts a.d__law_parts ["numbers", "at"] (sp2__law_parts K) := by
  refine T.F__law_parts.ok sc__law_parts (fun vs H Q E h => ?_) (fun cdv A outer s H vs Q E hr h => ?_)
  · obtain ⟨p, ks, rfl, _⟩ := h
    rfl
  · obtain ⟨p, ks, rfl, N, k⟩ := h
    have lo := N.lo
    have sm := N.sm
    refine ⟨_, (pss_cons (ps_set (i := 2) sc__law_parts.nd rfl (Or.inl rfl) (pe_call (G__law_names T) (hr.mono (by decide)) (by rfl) T.g__law_names T.k__law_names T.B__law_names .nil pass0 (pa_cons (pe_ix ix_list (pv 0) (pv 1) (fun _ _ => rfl)) (pa_cons (pe_op op_add pe_int (pe_op op_mod (pe_callTy call_int1 (by rfl) T.z_int (by decide +kernel) (pa_cons (pe_ix ix_list (pv 0) (pe_op op_add (pv 1) pe_int) (fun _ _ => rfl)) pa_nil)) pe_int)) pa_nil))))
      (pss_cons (ps_set (i := 3) sc__law_parts.nd rfl (Or.inl rfl) (pe_call (G__law_names T) (hr.mono (by decide)) (by rfl) T.g__law_names T.k__law_names T.B__law_names .nil pass0 (pa_cons (pe_ix ix_list (pv 0) (pe_op op_add (pv 1) pe_int) (fun _ _ => rfl)) (pa_cons (pe_op op_add pe_int (pe_op op_mod (pe_callTy call_int1 (by rfl) T.z_int (by decide +kernel) (pa_cons (pe_ix ix_list (pv 0) (pe_op op_add (pv 1) pe_int) (fun _ _ => rfl)) pa_nil)) pe_int)) pa_nil))))
      (pss_cons (ps_set (i := 4) sc__law_parts.nd rfl (Or.inl rfl) (pe_call (G__law_names T) (hr.mono (by decide)) (by rfl) T.g__law_names T.k__law_names T.B__law_names .nil pass0 (pa_cons (pe_ix ix_list (pv 0) (pe_op op_add (pv 1) pe_int) (fun _ _ => rfl)) (pa_cons pe_int pa_nil))))
      (pss_cons (ps_set (i := 5) sc__law_parts.nd rfl (Or.inl rfl) (pe_lst pa_nil))
      (pss_cons (ps_for PassesOwn.never rfl (pi_range1 (by rfl) T.z_range (pa_cons (pe_op op_mod (pe_callTy call_int1 (by rfl) T.z_int (by decide +kernel) (pa_cons (pe_ix ix_list (pv 0) (pe_op op_add (pv 1) pe_int) (fun _ _ => rfl)) pa_nil)) pe_int) pa_nil)) (pg_name (i := 6) sc__law_parts.nd rfl (Or.inl rfl)) (pss_cons (ps_set (i := 7) sc__law_parts.nd rfl (Or.inl rfl) (pe_op op_add (pe_op op_add (pv 1) pe_int) (pe_op op_mul pe_int (pv 6))))
        (pss_cons (ps_set (i := 8) sc__law_parts.nd rfl (Or.inl rfl) (pe_op op_modN (pe_callTy call_int1 (by rfl) T.z_int (by decide +kernel) (pa_cons (pe_ix ix_list (pv 0) (pv 7) (fun _ _ => rfl)) pa_nil)) (pe_callB call_len_seq (by rfl) T.z_len PySem.boot_len (pa_cons (pv 3) pa_nil))))
        (pss_cons (ps_set (i := 9) sc__law_parts.nd rfl (Or.inl rfl) (pe_op op_modN (pe_callTy call_int1 (by rfl) T.z_int (by decide +kernel) (pa_cons (pe_op op_add (pe_op op_add (pv 8) pe_int) (pe_op op_modN (pe_callTy call_int1 (by rfl) T.z_int (by decide +kernel) (pa_cons (pe_ix ix_list (pv 0) (pe_op op_add (pv 7) pe_int) (fun _ _ => rfl)) pa_nil)) (pe_op op_sub (pe_callB call_len_seq (by rfl) T.z_len PySem.boot_len (pa_cons (pv 3) pa_nil)) pe_int))) pa_nil)) (pe_callB call_len_seq (by rfl) T.z_len PySem.boot_len (pa_cons (pv 3) pa_nil))))
        (pss_cons (ps_set (i := 10) sc__law_parts.nd rfl (Or.inl rfl) (pe_lst pa_nil))
        (pss_cons (ps_for PassesOwn.never rfl (pi_range1 (by rfl) T.z_range (pa_cons (pe_callB call_len_seq (by rfl) T.z_len PySem.boot_len (pa_cons (pv 2) pa_nil)) pa_nil)) (pg_name (i := 11) sc__law_parts.nd rfl (Or.inl rfl)) (pss_one (ps_if (pt_cmpR op_eq (pe_op op_mod (pe_callTy call_int1 (by rfl) T.z_int (by decide +kernel) (pa_cons (pe_ix ix_list (pv 0) (pe_op op_add (pe_op op_add (pv 7) pe_int) (pv 11)) (fun _ _ => rfl)) pa_nil)) pe_int) pe_int (nomark _)) (pss_one (ps_expr (pe_bm PySem.F.plainAttrs_list PySem.F.slot_list_append PySem.F.type_list_append mt_append (pv 10) (pa_cons pe_non pa_nil)))) (pss_cons (ps_set (i := 12) sc__law_parts.nd rfl (Or.inl rfl) (pe_op op_add pe_int (pe_op op_mod (pe_callTy call_int1 (by rfl) T.z_int (by decide +kernel) (pa_cons (pe_ix ix_list (pv 0) (pe_op op_add (pe_op op_add (pv 7) pe_int) (pv 11)) (fun _ _ => rfl)) pa_nil)) pe_int)))
            (pss_one (ps_expr (pe_bm PySem.F.plainAttrs_list PySem.F.slot_list_append PySem.F.type_list_append mt_append (pv 10) (pa_cons (pe_tup (pa_cons (pv 12) (pa_cons (pe_op op_add (pv 12) (pe_op op_mod (pe_callTy call_int1 (by rfl) T.z_int (by decide +kernel) (pa_cons (pe_ix ix_list (pv 0) (pe_op op_add (pe_op op_add (pv 7) pe_int) (pv 11)) (fun _ _ => rfl)) pa_nil)) pe_int)) pa_nil))) pa_nil))))))))
        (pss_one (ps_expr (pe_bm PySem.F.plainAttrs_list PySem.F.slot_list_append PySem.F.type_list_append mt_append (pv 5) (pa_cons (pe_tup (pa_cons (pe_ix ix_list (pv 4) (pv 6) (fun _ _ => rfl)) (pa_cons (pe_ix ix_list (pv 3) (pv 8) (fun _ _ => rfl)) (pa_cons (pe_ix ix_list (pv 3) (pv 9) (fun _ _ => rfl)) (pa_cons (pe_callTy call_tupK (by rfl) T.z_tuple (by decide +kernel) (pa_cons (pv 10) pa_nil)) pa_nil))))) pa_nil))))))))))
      (pss_cons (ps_set (i := 13) sc__law_parts.nd rfl (Or.inl rfl) (pe_lst pa_nil))
      (pss_cons (ps_for PassesOwn.never rfl (pi_range1 (by rfl) T.z_range (pa_cons (pe_op op_mod (pe_callTy call_int1 (by rfl) T.z_int (by decide +kernel) (pa_cons (pe_ix ix_list (pv 0) (pe_op op_add (pv 1) pe_int) (fun _ _ => rfl)) pa_nil)) pe_int) pa_nil)) (pg_name (i := 6) sc__law_parts.nd rfl (Or.inl rfl)) (pss_cons (ps_set (i := 8) sc__law_parts.nd rfl (Or.inl rfl) (pe_op op_modN (pe_callTy call_int1 (by rfl) T.z_int (by decide +kernel) (pa_cons (pe_ix ix_list (pv 0) (pe_op op_add (pe_op op_add (pv 1) pe_int) (pe_op op_mul pe_int (pv 6))) (fun _ _ => rfl)) pa_nil)) (pe_callB call_len_seq (by rfl) T.z_len PySem.boot_len (pa_cons (pv 3) pa_nil))))
        (pss_cons (ps_set (i := 9) sc__law_parts.nd rfl (Or.inl rfl) (pe_op op_modN (pe_callTy call_int1 (by rfl) T.z_int (by decide +kernel) (pa_cons (pe_op op_add (pe_op op_add (pv 8) pe_int) (pe_op op_modN (pe_callTy call_int1 (by rfl) T.z_int (by decide +kernel) (pa_cons (pe_ix ix_list (pv 0) (pe_op op_add (pe_op op_add (pv 1) pe_int) (pe_op op_mul pe_int (pv 6))) (fun _ _ => rfl)) pa_nil)) (pe_op op_sub (pe_callB call_len_seq (by rfl) T.z_len PySem.boot_len (pa_cons (pv 3) pa_nil)) pe_int))) pa_nil)) (pe_callB call_len_seq (by rfl) T.z_len PySem.boot_len (pa_cons (pv 3) pa_nil))))
        (pss_cons (ps_set (i := 14) sc__law_parts.nd rfl (Or.inl rfl) (pe_op op_cat (pe_lc (own := [("path", 15)]) (g := gName 15) (tt := tYes) rfl sc__law_parts.nd (pi_list (pv 13)) (blkOk_by (N := ["numbers", "at", "winds", "places", "names", "links", "k", "spot", "one", "other", "times", "j", "least", "paths", "known", "path"]) (sc := defScope s__law_parts) (by decide +kernel)) (fun _ _ _ _ _ => pg_name (i := 15) sc__law_parts.nd rfl (Or.inl rfl)) (fun _ _ _ _ _ => pts_nil) (fun _ _ _ _ _ => (pe_tup (pa_cons (pe_ix (show IxR _ (rIxT K) from ix_tup) (pv 15) pe_int (fun _ _ => rfl)) (pa_cons (pe_ix (show IxR _ (rIxT K) from ix_tup) (pv 15) pe_int (fun _ _ => rfl)) pa_nil))))) (pe_lc (own := [("path", 15)]) (g := gName 15) (tt := tYes) rfl sc__law_parts.nd (pi_list (pv 13)) (blkOk_by (N := ["numbers", "at", "winds", "places", "names", "links", "k", "spot", "one", "other", "times", "j", "least", "paths", "known", "path"]) (sc := defScope s__law_parts) (by decide +kernel)) (fun _ _ _ _ _ => pg_name (i := 15) sc__law_parts.nd rfl (Or.inl rfl)) (fun _ _ _ _ _ => pts_nil) (fun _ _ _ _ _ => (pe_tup (pa_cons (pe_ix (show IxR _ (rIxT K) from ix_tup) (pv 15) pe_int (fun _ _ => rfl)) (pa_cons (pe_ix (show IxR _ (rIxT K) from ix_tup) (pv 15) pe_int (fun _ _ => rfl)) pa_nil)))))))
        (pss_one (ps_if (pt_cmpR (op_notInD (EvS.r65 hr)) (pe_tup (pa_cons (pe_ix ix_list (pv 3) (pv 8) (fun _ _ => rfl)) (pa_cons (pe_ix ix_list (pv 3) (pv 9) (fun _ _ => rfl)) pa_nil))) (pv 14) (by rfl)) (pss_one (ps_expr (pe_bm PySem.F.plainAttrs_list PySem.F.slot_list_append PySem.F.type_list_append mt_append (pv 13) (pa_cons (pe_tup (pa_cons (pe_ix ix_list (pv 3) (pv 8) (fun _ _ => rfl)) (pa_cons (pe_ix ix_list (pv 3) (pv 9) (fun _ _ => rfl)) (pa_cons (pe_op op_add pe_int (pe_op op_mod (pe_callTy call_int1 (by rfl) T.z_int (by decide +kernel) (pa_cons (pe_ix ix_list (pv 0) (pe_op op_add (pe_op op_add (pv 1) pe_int) (pe_op op_mul pe_int (pv 6))) (fun _ _ => rfl)) pa_nil)) pe_int)) pa_nil)))) pa_nil)))) pss_nil))))))
      (pss_one (ps_ret (pe_lst (pa_cons (pe_callTy TupX.call_tupF (by rfl) T.z_tuple (by decide +kernel) (pa_cons (pv 2) pa_nil)) (pa_cons (pe_callTy call_tupK (by rfl) T.z_tuple (by decide +kernel) (pa_cons (pv 3) pa_nil)) (pa_cons (pe_callTy call_tupK (by rfl) T.z_tuple (by decide +kernel) (pa_cons (pv 5) pa_nil)) (pa_cons (pe_callTy call_tupK (by rfl) T.z_tuple (by decide +kernel) (pa_cons (pv 13) pa_nil)) pa_nil)))))))))))))), ?_⟩
    have get : ∀ {H' : Hp} {i : Int}, 0 ≤ i → i < 150 → ∃ n, 0 ≤ n ∧ n < 1009 ∧ atI (ks.map V.int) i = some (.int n) := fun {H' i} h0 h1 => by
      obtain ⟨n, hn, hat, _⟩ := num_in (ks := ks) (i := i) h0 (by omega)
      exact ⟨n, (sm n hn).1, (sm n hn).2, hat⟩
    -- winds
    obtain ⟨n0, l0, u0, g0⟩ := get (H' := H) (i := 0) (by decide) (by decide)
    obtain ⟨n1, l1, u1, g1⟩ := get (H' := H) (i := 0 + 1) (by decide) (by decide)
    obtain ⟨n2, l2, u2, g2⟩ := get (H' := H) (i := 0 + 2) (by decide) (by decide)
    obtain ⟨n3, l3, u3, g3⟩ := get (H' := H) (i := 0 + 3) (by decide) (by decide)
    obtain ⟨n4, l4, u4, g4⟩ := get (H' := H) (i := 0 + 4) (by decide) (by decide)
    obtain ⟨n5, l5, u5, g5⟩ := get (H' := H) (i := 0 + 5) (by decide) (by decide)
    obtain ⟨n88, l88, u88, g88⟩ := get (H' := H) (i := 0 + 88) (by decide) (by decide)
    have a0 := Int.emod_nonneg n1 (show (3 : Int) ≠ 0 by decide)
    have a1 := Int.emod_lt_of_pos n1 (show (0 : Int) < 3 by decide)
    obtain ⟨m1, em1⟩ : ∃ m1 : Nat, 1 + n1 % 3 = (m1 : Int) := ⟨_, (Int.toNat_of_nonneg (by omega)).symm⟩
    refine ⟨_, rfl, _, rfl, p, _, _, _, rfl, rfl, N.at_, g0, _, rfl, _, rfl, _, _, rfl, rfl, p, _, _, _, rfl, rfl, N.at_, g1, .inl ⟨_, rfl, _, _, rfl, rfl, (by show (0 : Int) < 3; decide), _, _, rfl, rfl, ?_⟩⟩
    refine ⟨n0, m1, congrArg (fun x : Int => [V.int n0, .int x]) em1, l0, u0, by omega, fun H1 q1 e1 f1 h1 => ?_⟩
    -- places
    have b0 := Int.emod_nonneg n3 (show (6 : Int) ≠ 0 by decide)
    have b1 := Int.emod_lt_of_pos n3 (show (0 : Int) < 6 by decide)
    obtain ⟨m2, em2⟩ : ∃ m2 : Nat, 2 + n3 % 6 = (m2 : Int) := ⟨_, (Int.toNat_of_nonneg (by omega)).symm⟩
    refine ⟨_, rfl, _, rfl, _, _, rfl, rfl, p, _, _, _, rfl, rfl, (N.ex e1).at_, g2, _, rfl, _, rfl, _, _, rfl, rfl, p, _, _, _, rfl, rfl, (N.ex e1).at_, g3, .inl ⟨_, rfl, _, _, rfl, rfl, (by show (0 : Int) < 6; decide), _, _, rfl, rfl, ?_⟩⟩
    refine ⟨n2, m2, congrArg (fun x : Int => [V.int n2, .int x]) em2, l2, u2, by omega, fun H2 q2 e2 f2 h2 => ?_⟩
    have g12 := e1.trans e2
    -- names
    refine ⟨_, rfl, _, rfl, _, _, rfl, rfl, p, _, _, _, rfl, rfl, (N.ex g12).at_, g4, n4, 10, rfl, l4, u4, by decide, fun H3 q3 e3 f3 h3 => ?_⟩
    have g13 := g12.trans e3
    have N3 := N.ex g13
    have h13 := e3 _ _ (e2 _ _ h1)
    have h23 := e3 _ _ h2
    have gw := namesN_good n0 (m := m1) (by omega)
    have gp := namesN_good n2 (m := m2) (by omega)
    have gn := namesN_good n4 (m := 10) (by omega)
    have lw := namesN_len n0 m1
    have lp := namesN_len n2 m2
    have ln := namesN_len n4 10
    have gw2 := namesN_two n0 m1
    generalize namesN n0 m1 = ws at h1 h13 gw lw gw2
    generalize namesN n2 m2 = ps at h2 h23 gp lp
    generalize namesN n4 10 = ns at h3 gn ln
    have L1 : (ws.map V.str).length = m1 := by rw [List.length_map, lw]
    have L2 : (ps.map V.str).length = m2 := by rw [List.length_map, lp]
    have pat : ∀ {xs : List Str} {i : Nat} {j : Int}, i < xs.length → j = (i : Int) → atI (xs.map V.str) j = some (.str (xs.getD i "")) := fun {xs i j} hi ej => by
      rw [ej]
      exact atI_nat (by rw [List.getElem?_map, (getD_in hi).2] <;> rfl)
    clear e1 e2 e3 g12 f1 f2 f3 g0 g1 g2 g3 g4
    -- links
    have c0 := Int.emod_nonneg n5 (show (11 : Int) ≠ 0 by decide)
    have c1 := Int.emod_lt_of_pos n5 (show (0 : Int) < 11 by decide)
    refine ⟨Nat.zero_le _, fun D hD => ?_⟩
    have start : Ex H3 (upd H3 D (.lst [])) := Ex.new hD
    refine ⟨_, rfl, _, rfl, _, _, rfl, rfl, p, _, _, _, rfl, rfl, (N3.ex start).at_, g5, .inl ⟨_, rfl, _, _, rfl, rfl, (by show (0 : Int) < 11; decide), _, rfl, by omega, by omega, for_range (n := (n5 % 11).toNat) (fun i σ H' => ∃ (rows : List V) (ls : List Link) (v6 v7 v8 v9 v10 v11 v12 : Option V), σ = [some (.ref p), some (.int 0), some (.ref q1), some (.ref q2), some (.ref q3), some (.ref D), v6, v7, v8, v9, v10, v11, v12, none, none, none] ∧ Ex H3 H' ∧ H' D = some (.lst rows) ∧ DpAll K H' rows (ls.map dLink) ∧ ls.map (·.n) = ns.take i ∧ (∀ k ∈ ls, LinkOk ws ps k) ∧ ∀ k ∈ ls, ∀ b, some b ∈ k.ts → b.2 ≤ 15) ?_ ?_ ?_⟩⟩
    · exact ⟨[], [], none, none, none, none, none, none, none, rfl, start, upd_same, .nil, rfl, (fun k hk => by cases hk), fun k hk => by cases hk⟩
    · rintro i σ H4 hi ⟨rows, ls, v6, v7, v8, v9, v10, v11, v12, rfl, e4, hR, hd, hn, hok, hsm⟩
      have hi3 : i < ns.length := by omega
      have N4 := N3.ex e4
      have sq2 := SqL.of (K := K) (e4 _ _ h23)
      have rl : rows.length = i := by
        have z := congrArg List.length hn
        rw [List.length_map, List.length_take] at z
        rw [dps_len hd, List.length_map, z]
        omega
      obtain ⟨x1, x10, x11, gx1⟩ := get (H' := H4) (i := 0 + 6 + 8 * (0 + (i : Int))) (by omega) (by omega)
      obtain ⟨x2, x20, x21, gx2⟩ := get (H' := H4) (i := 0 + 6 + 8 * (0 + (i : Int)) + 1) (by omega) (by omega)
      refine ⟨_, rfl, _, _, rfl, rfl, _, rfl, _, _, rfl, rfl, .inl ⟨by decide, by decide⟩, _, _, rfl, rfl, ?_⟩
      refine ⟨_, rfl, _, rfl, p, _, _, _, rfl, rfl, N4.at_, gx1, .inl ⟨_, rfl, _, rfl, q2, _, rfl, .inl sq2, _, _, rfl, rfl, by rw [L2]; omega, ?_⟩⟩
      refine ⟨_, rfl, _, _, rfl, rfl, _, rfl, _, rfl, _, _, rfl, rfl, p, _, _, _, rfl, rfl, N4.at_, gx2, .inl ⟨_, rfl, _, rfl, q2, _, rfl, .inl sq2, _, _, rfl, rfl, _, _, rfl, rfl, by rw [L2]; omega, _, _, rfl, rfl, .inl ⟨_, rfl, _, rfl, q2, _, rfl, .inl sq2, _, _, rfl, rfl, by rw [L2]; omega, ?_⟩⟩⟩
      have o0 := Int.fmod_nonneg_of_pos x1 (b := (((ps.map V.str).length : Nat) : Int)) (by rw [L2]; omega)
      have o1 := Int.fmod_lt_of_pos x1 (b := (((ps.map V.str).length : Nat) : Int)) (by rw [L2]; omega)
      have y0 := Int.fmod_nonneg_of_pos x2 (b := (((ps.map V.str).length : Nat) : Int) - 1) (by rw [L2]; omega)
      have y1 := Int.fmod_lt_of_pos x2 (b := (((ps.map V.str).length : Nat) : Int) - 1) (by rw [L2]; omega)
      obtain ⟨t0, t1, tn⟩ := other_ne o0 o1 y0 y1
      obtain ⟨ia, ea⟩ : ∃ ia : Nat, x1.fmod (((ps.map V.str).length : Nat) : Int) = (ia : Int) := ⟨_, (Int.toNat_of_nonneg o0).symm⟩
      obtain ⟨ib, eb⟩ : ∃ ib : Nat, (x1.fmod (((ps.map V.str).length : Nat) : Int) + 1 + x2.fmod ((((ps.map V.str).length : Nat) : Int) - 1)).fmod (((ps.map V.str).length : Nat) : Int) = (ib : Int) := ⟨_, (Int.toNat_of_nonneg t0).symm⟩
      have ha : ia < ps.length := by omega
      have hb : ib < ps.length := by omega
      have hab : ia ≠ ib := by omega
      -- times
      refine ⟨Nat.zero_le _, fun l hl => ?_⟩
      have e5 : Ex H4 (upd H4 l (.lst [])) := Ex.new hl
      refine ⟨_, rfl, q1, _, rfl, .inl (SqL.of (e5 _ _ (e4 _ _ h13))), _, rfl, by omega, by omega, for_range (n := (((ws.map V.str).length : Nat) : Int).toNat) (fun j σ H' => ∃ (us : List V) (ts : List (Option (Int × Int))) (v11 v12 : Option V), σ = [some (.ref p), some (.int 0), some (.ref q1), some (.ref q2), some (.ref q3), some (.ref D), some (.int (0 + (i : Int))), some (.int (0 + 6 + 8 * (0 + (i : Int)))), some (.int (x1.fmod (((ps.map V.str).length : Nat) : Int))), some (.int ((x1.fmod (((ps.map V.str).length : Nat) : Int) + 1 + x2.fmod ((((ps.map V.str).length : Nat) : Int) - 1)).fmod (((ps.map V.str).length : Nat) : Int))), some (.ref l), v11, v12, none, none, none] ∧ Ex H4 H' ∧ H' l = some (.lst us) ∧ DpAll K H' us (ts.map dTime) ∧ ts.length = j ∧ (∀ b ∈ ts, TimeOk b) ∧ ∀ b, some b ∈ ts → b.2 ≤ 15) ?_ ?_ ?_⟩
      · exact ⟨[], [], v11, v12, rfl, e5, upd_same, .nil, rfl, (fun b hb => by cases hb), fun b hb => by cases hb⟩
      · rintro j σ H6 hj ⟨us, ts, v11, v12, rfl, e6, hU, hdu, hlu, hku, hsu⟩
        have hj3 : j < 3 := by omega
        have N6 := N4.ex e6
        have ul : us.length = j := by rw [dps_len hdu, List.length_map, hlu]
        obtain ⟨y1', y10, y11, gy1⟩ := get (H' := H6) (i := 0 + 6 + 8 * (0 + (i : Int)) + 2 + (0 + (j : Int))) (by omega) (by omega)
        obtain ⟨y2', y20, y21, gy2⟩ := get (H' := H6) (i := 0 + 6 + 8 * (0 + (i : Int)) + 5 + (0 + (j : Int))) (by omega) (by omega)
        refine ⟨_, rfl, _, rfl, _, _, rfl, rfl, _, rfl, _, _, rfl, rfl, p, _, _, _, rfl, rfl, N6.at_, gy1, .inl ⟨_, rfl, _, _, rfl, rfl, (by show (0 : Int) < 4; decide), rfl, _, rfl, ?_⟩⟩
        refine ite2 (fun _ => ?_) (fun _ => ?_)
        · refine ⟨_, rfl, .inl ⟨rfl, _, SqL.of hU⟩, l, us, _, rfl, rfl, hU, sz_lt (by omega), us ++ [.non], ts ++ [none], _, _, rfl, e6.mut hl, upd_same, ?_, by rw [List.length_append, hlu] <;> rfl, fun b hb => ?_, fun b hb => ?_⟩
          · rw [List.map_append]
            exact dps_app (dps_exT (exT_mut hU) hdu (frozen_times _)) (dps_one .non)
          · rcases List.mem_append.mp hb with z | z
            · exact hku b z
            · rw [List.mem_singleton.mp z]; trivial
          · rcases List.mem_append.mp hb with z | z
            · exact hsu b z
            · cases List.mem_singleton.mp z
        · have z0 := Int.emod_nonneg y1' (show (9 : Int) ≠ 0 by decide)
          have z1 := Int.emod_lt_of_pos y1' (show (0 : Int) < 9 by decide)
          have z2 := Int.emod_nonneg y2' (show (7 : Int) ≠ 0 by decide)
          have z3 := Int.emod_lt_of_pos y2' (show (0 : Int) < 7 by decide)
          refine ⟨_, rfl, _, rfl, _, _, rfl, rfl, _, rfl, _, _, rfl, rfl, p, _, _, _, rfl, rfl, N6.at_, gy1, .inl ⟨_, rfl, _, _, rfl, rfl, (by show (0 : Int) < 9; decide), _, _, rfl, rfl, ?_⟩⟩
          refine ⟨_, rfl, .inl ⟨rfl, _, SqL.of hU⟩, _, rfl, _, rfl, _, rfl, _, rfl, _, _, rfl, rfl, _, rfl, _, _, rfl, rfl, p, _, _, _, rfl, rfl, N6.at_, gy2, .inl ⟨_, rfl, _, _, rfl, rfl, (by show (0 : Int) < 7; decide), _, _, rfl, rfl, by show 2 ≤ sizeLine; decide, fun t ht => ?_⟩⟩
          have e7 : Ex H6 (upd H6 t (.tup [.int (1 + y1' % 9), .int (1 + y1' % 9 + y2' % 7)])) := Ex.new ht
          refine ⟨l, us, _, rfl, rfl, e7 _ _ hU, sz_lt (by omega), us ++ [.ref t], ts ++ [some (1 + y1' % 9, 1 + y1' % 9 + y2' % 7)], _, _, rfl, (e6.trans e7).mut hl, upd_same, ?_, by rw [List.length_append, hlu] <;> rfl, fun b hb => ?_, fun b hb => ?_⟩
          · rw [List.map_append]
            exact dps_app (dps_exT (exT_mut (e7 _ _ hU)) (dps_ex e7 hdu) (frozen_times _)) (dps_one (dp_exT (exT_mut (e7 _ _ hU)) (.tup (st_of upd_same) (.cons (.int _) (.cons (.int _) .nil))) (frozen_time (some (1 + y1' % 9, 1 + y1' % 9 + y2' % 7)))))
          · rcases List.mem_append.mp hb with z | z
            · exact hku b z
            · rw [List.mem_singleton.mp z]
              exact ⟨by show 1 ≤ 1 + y1' % 9; omega, by show 1 + y1' % 9 ≤ 1 + y1' % 9 + y2' % 7; omega, by show 1 + y1' % 9 + y2' % 7 ≤ 1000; omega⟩
          · rcases List.mem_append.mp hb with z | z
            · exact hsu b z
            · obtain rfl := Option.some.inj (List.mem_singleton.mp z)
              show 1 + y1' % 9 + y2' % 7 ≤ 15
              omega
      rintro σ H6 ⟨us, ts, v11, v12, rfl, e6, hU, hdu, hlu, hku, hsu⟩
      have g46 := e4.trans e6
      refine ⟨_, rfl, .inl ⟨rfl, _, SqL.of (e6 _ _ hR)⟩, _, rfl, _, rfl, q3, _, _, _, rfl, rfl, SqL.of (g46 _ _ h3), pat hi3 (Int.zero_add _), _, rfl, _, rfl, q2, _, _, _, rfl, rfl, SqL.of (g46 _ _ h23), pat ha ea, _, rfl, _, rfl, q2, _, _, _, rfl, rfl, SqL.of (g46 _ _ h23), pat hb eb, _, rfl, l, _, rfl, .inl ⟨SqL.of hU, fun u hu => ⟨by show 4 ≤ sizeLine; decide, fun t ht => ?_⟩⟩⟩
      have e8 : Ex H6 (upd (upd H6 u (.tup us)) t (.tup [.str (ns.getD i ""), .str (ps.getD ia ""), .str (ps.getD ib ""), .ref u])) := (Ex.new hu).trans (Ex.new ht)
      have hRR := e8 _ _ (e6 _ _ hR)
      refine ⟨D, rows, _, rfl, rfl, hRR, sz_lt (by omega), rows ++ [.ref t], ls ++ [⟨ns.getD i "", ps.getD ia "", ps.getD ib "", ts⟩], _, _, _, _, _, _, _, rfl, (g46.trans e8).mut hD, upd_same, ?_, ?_, fun k0 hk => ?_, fun k0 hk => ?_⟩
      · rw [List.map_append]
        refine dps_exT (exT_mut hRR) (dps_app (dps_ex (e6.trans e8) hd) (dps_one (.tup (st_of upd_same) (.cons (.str _) (.cons (.str _) (.cons (.str _) (.cons (.tup (st_of (Ex.new ht _ _ upd_same)) (dps_ex e8 hdu)) .nil))))))) ?_
        rw [← List.map_append]
        exact frozen_links _
      · rw [List.map_append, hn, take_one (getD_in hi3).2]
        rfl
      · rcases List.mem_append.mp hk with z | z
        · exact hok k0 z
        · rw [List.mem_singleton.mp z]
          refine ⟨(getD_in ha).1, (getD_in hb).1, fun q => hab (getD_inj gp.2 ha hb q), ?_, hku⟩
          show ts.length = ws.length
          omega
      · rcases List.mem_append.mp hk with z | z
        · exact hsm k0 z
        · rw [List.mem_singleton.mp z]
          exact hsu
    rintro σ H4 ⟨rows, ls, v6, v7, v8, v9, v10, v11, v12, rfl, e4, hR, hd, hn, hok, hsm⟩
    have ll : ls.length ≤ 10 := by
      have z := congrArg List.length hn
      rw [List.length_map, List.length_take] at z
      omega
    have gl : Good (ls.map (·.n)) := by
      rw [hn]
      exact ⟨fun z hz => gn.1 z (List.mem_of_mem_take hz), List.Nodup.sublist (List.take_sublist _ _) gn.2⟩
    have N4 := N3.ex e4
    have sq2 := SqL.of (K := K) (e4 _ _ h23)
    -- paths
    have d0 := Int.emod_nonneg n88 (show (7 : Int) ≠ 0 by decide)
    have d1 := Int.emod_lt_of_pos n88 (show (0 : Int) < 7 by decide)
    refine ⟨Nat.zero_le _, fun A0 hA => ?_⟩
    have start2 : Ex H4 (upd H4 A0 (.lst [])) := Ex.new hA
    refine ⟨_, rfl, _, rfl, _, _, rfl, rfl, p, _, _, _, rfl, rfl, (N4.ex start2).at_, g88, .inl ⟨_, rfl, _, _, rfl, rfl, (by show (0 : Int) < 7; decide), _, rfl, by omega, by omega, for_range (n := (n88 % 7).toNat) (fun i σ H' => ∃ (prs : List V) (pa : List (Str × Str × Int)) (v6 v8 v9 v14 : Option V), σ = [some (.ref p), some (.int 0), some (.ref q1), some (.ref q2), some (.ref q3), some (.ref D), v6, v7, v8, v9, v10, v11, v12, some (.ref A0), v14, none] ∧ Ex H4 H' ∧ H' A0 = some (.lst prs) ∧ DpAll K H' prs (pa.map dPath) ∧ pa.length ≤ i ∧ (∀ p ∈ pa, PathOk ps p) ∧ (pa.map fun p => (p.1, p.2.1)).Pairwise Apart) ?_ ?_ ?_⟩⟩
    · exact ⟨[], [], v6, v8, v9, none, rfl, start2, upd_same, .nil, Nat.zero_le _, (fun k hk => by cases hk), List.Pairwise.nil⟩
    · rintro i σ H5 hi ⟨prs, pa, v6, v8, v9, v14, rfl, e5, hA5, hd5, hl5, hok5, hap5⟩
      have N5 := N4.ex e5
      have sq5 := ex_l e5 sq2
      have i6 : i < 6 := by omega
      have pl : prs.length = pa.length := by rw [dps_len hd5, List.length_map]
      obtain ⟨x1, x10, x11, gx1⟩ := get (H' := H5) (i := 0 + 89 + 3 * (0 + (i : Int))) (by omega) (by omega)
      obtain ⟨x2, x20, x21, gx2⟩ := get (H' := H5) (i := 0 + 90 + 3 * (0 + (i : Int))) (by omega) (by omega)
      obtain ⟨x3, x30, x31, gx3⟩ := get (H' := H5) (i := 0 + 91 + 3 * (0 + (i : Int))) (by omega) (by omega)
      refine ⟨_, rfl, _, rfl, _, _, rfl, rfl, _, rfl, _, _, rfl, rfl, .inl ⟨by decide, by decide⟩, _, _, rfl, rfl, p, _, _, _, rfl, rfl, N5.at_, gx1, .inl ⟨_, rfl, _, rfl, q2, _, rfl, .inl sq5, _, _, rfl, rfl, by rw [L2]; omega, ?_⟩⟩
      refine ⟨_, rfl, _, _, rfl, rfl, _, rfl, _, rfl, _, _, rfl, rfl, _, rfl, _, _, rfl, rfl, .inl ⟨by decide, by decide⟩, _, _, rfl, rfl, p, _, _, _, rfl, rfl, N5.at_, gx2, .inl ⟨_, rfl, _, rfl, q2, _, rfl, .inl sq5, _, _, rfl, rfl, _, _, rfl, rfl, by rw [L2]; omega, _, _, rfl, rfl, .inl ⟨_, rfl, _, rfl, q2, _, rfl, .inl sq5, _, _, rfl, rfl, by rw [L2]; omega, ?_⟩⟩⟩
      have o0 := Int.fmod_nonneg_of_pos x1 (b := (((ps.map V.str).length : Nat) : Int)) (by rw [L2]; omega)
      have o1 := Int.fmod_lt_of_pos x1 (b := (((ps.map V.str).length : Nat) : Int)) (by rw [L2]; omega)
      have y0 := Int.fmod_nonneg_of_pos x2 (b := (((ps.map V.str).length : Nat) : Int) - 1) (by rw [L2]; omega)
      have y1 := Int.fmod_lt_of_pos x2 (b := (((ps.map V.str).length : Nat) : Int) - 1) (by rw [L2]; omega)
      obtain ⟨t0, t1, tn⟩ := other_ne o0 o1 y0 y1
      obtain ⟨ia, ea⟩ : ∃ ia : Nat, x1.fmod (((ps.map V.str).length : Nat) : Int) = (ia : Int) := ⟨_, (Int.toNat_of_nonneg o0).symm⟩
      obtain ⟨ib, eb⟩ : ∃ ib : Nat, (x1.fmod (((ps.map V.str).length : Nat) : Int) + 1 + x2.fmod ((((ps.map V.str).length : Nat) : Int) - 1)).fmod (((ps.map V.str).length : Nat) : Int) = (ib : Int) := ⟨_, (Int.toNat_of_nonneg t0).symm⟩
      have ha : ia < ps.length := by omega
      have hb : ib < ps.length := by omega
      have hab : ia ≠ ib := by omega
      -- known
      refine ⟨_, rfl, A0, rfl, ⟨_, SqL.of hA5⟩, fun D1 hD1 => lcY_list (K := K) (a := A0) (xs := prs) (fun j H' => Ex H5 H' ∧ ∃ got, H' D1 = some (.lst got) ∧ got.length = j ∧ DpAll K H' got ((pa.take j).map fun p => dPair p.1 p.2.1)) ⟨Ex.new hD1, [], upd_same, rfl, .nil⟩ (fun j H' _ z => ex_l z.1 (SqL.of hA5)) ?_ ?_⟩
      · rintro j y H' hy ⟨e, got, hg, gl', hgd⟩
        have hj : j < prs.length := (List.getElem?_eq_some_iff.mp hy).1
        obtain ⟨b, hb'⟩ : ∃ b, pa[j]? = some b := ⟨pa[j]'(by omega), List.getElem?_eq_getElem (by omega)⟩
        obtain ⟨dd, hd1, hd2⟩ := dps_at (dps_ex e hd5) hy
        rw [List.getElem?_map, hb'] at hd1
        obtain rfl : dPath b = dd := Option.some.inj hd1
        obtain ⟨t, rfl, hT⟩ := path_in hd2
        refine ⟨rfl, _, rfl, t, _, _, _, rfl, rfl, hT, atI_nat (j := 0) rfl, _, rfl, t, _, _, _, rfl, rfl, hT, atI_nat (j := 1) rfl, by show 2 ≤ sizeLine; decide, fun t2 ht2 => ?_⟩
        have e' : Ex H' (upd H' t2 (.tup [.str b.1, .str b.2.1])) := Ex.new ht2
        refine ⟨got, e' _ _ hg, sz_lt (by omega), (e.trans e').mut hD1, got ++ [.ref t2], upd_same, by rw [List.length_append, gl'] <;> rfl, ?_⟩
        rw [take_one hb', List.map_append]
        refine dps_exT (exT_mut (e' _ _ hg)) (dps_app (dps_ex e' hgd) (dps_one (.tup (st_of upd_same) (.cons (.str _) (.cons (.str _) .nil))))) ?_
        exact frozenAll_of fun d hd => by
          rcases List.mem_append.mp hd with z | z
          · obtain ⟨q, _, rfl⟩ := List.mem_map.mp z
            simp [dPair, frozen, frozenAll]
          · obtain rfl : d = dPair b.1 b.2.1 := List.mem_singleton.mp z
            simp [dPair, frozen, frozenAll]
      rintro H6 ⟨e6, got1, hg1, gl1, hgd1⟩
      rw [pl, List.take_length] at hgd1
      have g56 := e5.trans e6
      have hA6 := e6 _ _ hA5
      refine ⟨_, rfl, A0, rfl, ⟨_, SqL.of hA6⟩, fun D2 hD2 => lcY_list (K := K) (a := A0) (xs := prs) (fun j H' => Ex H6 H' ∧ ∃ got, H' D2 = some (.lst got) ∧ got.length = j ∧ DpAll K H' got ((pa.take j).map fun p => dPair p.2.1 p.1)) ⟨Ex.new hD2, [], upd_same, rfl, .nil⟩ (fun j H' _ z => ex_l z.1 (SqL.of hA6)) ?_ ?_⟩
      · rintro j y H' hy ⟨e, got, hg, gl', hgd⟩
        have hj : j < prs.length := (List.getElem?_eq_some_iff.mp hy).1
        obtain ⟨b, hb'⟩ : ∃ b, pa[j]? = some b := ⟨pa[j]'(by omega), List.getElem?_eq_getElem (by omega)⟩
        obtain ⟨dd, hd1, hd2⟩ := dps_at (dps_ex (e6.trans e) hd5) hy
        rw [List.getElem?_map, hb'] at hd1
        obtain rfl : dPath b = dd := Option.some.inj hd1
        obtain ⟨t, rfl, hT⟩ := path_in hd2
        refine ⟨rfl, _, rfl, t, _, _, _, rfl, rfl, hT, atI_nat (j := 1) rfl, _, rfl, t, _, _, _, rfl, rfl, hT, atI_nat (j := 0) rfl, by show 2 ≤ sizeLine; decide, fun t2 ht2 => ?_⟩
        have e' : Ex H' (upd H' t2 (.tup [.str b.2.1, .str b.1])) := Ex.new ht2
        refine ⟨got, e' _ _ hg, sz_lt (by omega), (e.trans e').mut hD2, got ++ [.ref t2], upd_same, by rw [List.length_append, gl'] <;> rfl, ?_⟩
        rw [take_one hb', List.map_append]
        refine dps_exT (exT_mut (e' _ _ hg)) (dps_app (dps_ex e' hgd) (dps_one (.tup (st_of upd_same) (.cons (.str _) (.cons (.str _) .nil))))) ?_
        exact frozenAll_of fun d hd => by
          rcases List.mem_append.mp hd with z | z
          · obtain ⟨q, _, rfl⟩ := List.mem_map.mp z
            simp [dPair, frozen, frozenAll]
          · obtain rfl : d = dPair b.2.1 b.1 := List.mem_singleton.mp z
            simp [dPair, frozen, frozenAll]
      rintro H7 ⟨e7, got2, hg2, gl2, hgd2⟩
      rw [pl, List.take_length] at hgd2
      refine ⟨D1, D2, _, _, rfl, rfl, e7 _ _ hg1, hg2, sz_of (by omega), fun c hc => ?_⟩
      have e8 : Ex H7 (upd H7 c (.lst (got1 ++ got2))) := Ex.new hc
      have hdk : DpAll K (upd H7 c (.lst (got1 ++ got2))) (got1 ++ got2) ((pa.map fun p => dPair p.1 p.2.1) ++ (pa.map fun p => dPair p.2.1 p.1)) := dps_app (dps_ex (e7.trans e8) hgd1) (dps_ex e8 hgd2)
      have hck : (upd H7 c (.lst (got1 ++ got2))) c = some (.lst (got1 ++ got2)) := upd_same
      have g58 : Ex H5 (upd H7 c (.lst (got1 ++ got2))) := e6.trans (e7.trans e8)
      generalize upd H7 c (.lst (got1 ++ got2)) = H8 at hdk hck g58
      clear e8 e7 e6 hgd1 hgd2 hg1 hg2 hc
      have sq8 := ex_l g58 sq5
      -- the test
      refine ⟨_, rfl, _, rfl, q2, _, _, _, rfl, rfl, sq8, pat ha ea, _, rfl, _, rfl, q2, _, _, _, rfl, rfl, sq8, pat hb eb, by show 2 ≤ sizeLine; decide, fun t ht => ?_⟩
      have e9 : Ex H8 (upd H8 t (.tup [.str (ps.getD ia ""), .str (ps.getD ib "")])) := Ex.new ht
      have na := gp.1 _ (getD_in ha).1
      have nb := gp.1 _ (getD_in hb).1
      have shk : SeqAt.shaped (.list ((pa.map fun p => dPair p.1 p.2.1) ++ (pa.map fun p => dPair p.2.1 p.1))) = true := sh_shaped (sh_lst (n := 5) fun d hd => by
        rcases List.mem_append.mp hd with z | z
        · obtain ⟨q, hq, rfl⟩ := List.mem_map.mp z
          exact sh_pair (gp.1 _ (hok5 q hq).o) (gp.1 _ (hok5 q hq).t)
        · obtain ⟨q, hq, rfl⟩ := List.mem_map.mp z
          exact sh_pair (gp.1 _ (hok5 q hq).t) (gp.1 _ (hok5 q hq).o)) (by decide)
      refine ⟨_, rfl, dPair (ps.getD ia "") (ps.getD ib ""), _, .tup (st_of upd_same) (.cons (.str _) (.cons (.str _) .nil)), .lst (SqL.of (e9 _ _ hck)) (dps_ex e9 hdk), sh_shaped (sh_pair na nb) (by decide), shk, _, rfl, ?_⟩
      refine ite2 (fun hnew => ?_) (fun _ => ?_)
      · have g59 := g58.trans e9
        have hA9 := g59 _ _ hA5
        have hd9 := dps_ex g59 hd5
        have N9 := N5.ex g59
        have sq9 := ex_l g59 sq5
        generalize upd H8 t (.tup [.str (ps.getD ia ""), .str (ps.getD ib "")]) = H9 at g59 hA9 hd9 N9 sq9
        have w0 := Int.emod_nonneg x3 (show (9 : Int) ≠ 0 by decide)
        have w1 := Int.emod_lt_of_pos x3 (show (0 : Int) < 9 by decide)
        refine ⟨_, rfl, .inl ⟨rfl, _, SqL.of hA9⟩, _, rfl, _, rfl, q2, _, _, _, rfl, rfl, sq9, pat ha ea, _, rfl, _, rfl, q2, _, _, _, rfl, rfl, sq9, pat hb eb, _, rfl, _, rfl, _, _, rfl, rfl, _, rfl, _, _, rfl, rfl, .inl ⟨by decide, by decide⟩, _, _, rfl, rfl, p, _, _, _, rfl, rfl, N9.at_, gx3, .inl ⟨_, rfl, _, _, rfl, rfl, (by show (0 : Int) < 9; decide), _, _, rfl, rfl, by show 3 ≤ sizeLine; decide, fun t2 ht2 => ?_⟩⟩
        have e10 : Ex H9 (upd H9 t2 (.tup [.str (ps.getD ia ""), .str (ps.getD ib ""), .int (1 + x3 % 9)])) := Ex.new ht2
        refine ⟨A0, prs, _, rfl, rfl, e10 _ _ hA9, sz_lt (by omega), prs ++ [.ref t2], pa ++ [(ps.getD ia "", ps.getD ib "", 1 + x3 % 9)], _, _, _, _, rfl, (e5.trans (g59.trans e10)).mut hA, upd_same, ?_, by rw [List.length_append, List.length_singleton]; omega, fun q hq => ?_, ?_⟩
        · rw [List.map_append]
          refine dps_exT (exT_mut (e10 _ _ hA9)) (dps_app (dps_ex e10 hd9) (dps_one (.tup (st_of upd_same) (.cons (.str _) (.cons (.str _) (.cons (.int _) .nil)))))) ?_
          rw [← List.map_append]
          exact frozen_paths _
        · rcases List.mem_append.mp hq with z | z
          · exact hok5 q z
          · rw [List.mem_singleton.mp z]
            exact ⟨(getD_in ha).1, (getD_in hb).1, fun q => hab (getD_inj gp.2 ha hb q), by show 1 ≤ 1 + x3 % 9; omega, by show 1 + x3 % 9 ≤ 1000; omega⟩
        · rw [List.map_append]
          refine List.pairwise_append.mpr ⟨hap5, List.pairwise_singleton _ _, fun x hx y hy pm => ?_⟩
          obtain ⟨q, hq, rfl⟩ := List.mem_map.mp hx
          obtain rfl : y = (ps.getD ia "", ps.getD ib "") := List.mem_singleton.mp hy
          have no : (((pa.map fun p => dPair p.1 p.2.1) ++ (pa.map fun p => dPair p.2.1 p.1)).any fun z => PyData.eqv z (dPair (ps.getD ia "") (ps.getD ib ""))) = false := by simpa using hnew
          rw [List.any_eq_false] at no
          rcases perm2 pm with ⟨z1, z2⟩ | ⟨z1, z2⟩
          · refine no _ (List.mem_append_left _ (List.mem_map.mpr ⟨q, hq, rfl⟩)) ?_
            rw [eqv_pair]
            simp only [Bool.and_eq_true, beq_iff_eq]
            exact ⟨z1, z2⟩
          · refine no _ (List.mem_append_right _ (List.mem_map.mpr ⟨q, hq, rfl⟩)) ?_
            rw [eqv_pair]
            simp only [Bool.and_eq_true, beq_iff_eq]
            exact ⟨z2, z1⟩
      · exact ⟨prs, pa, _, _, _, _, rfl, e5.trans (g58.trans e9), e9 _ _ (g58 _ _ hA5), dps_ex (g58.trans e9) hd5, by omega, hok5, hap5⟩
    rintro σ H5 ⟨prs, pa, v6, v8, v9, v14, rfl, e5, hA5, hd5, hl5, hok5, hap5⟩
    have g35 := e4.trans e5
    refine ⟨_, rfl, q1, _, rfl, SqL.of (g35 _ _ h13), fun s1 H6 y1 z1 b1 => ?_⟩
    have g36 := g35.trans z1
    refine ⟨_, rfl, q2, _, rfl, .inl ⟨SqL.of (g36 _ _ h23), fun s2 z2 => ?_⟩⟩
    have k2 := z1.trans (Ex.new (o := .tup (ps.map V.str)) z2)
    refine ⟨_, rfl, D, _, rfl, .inl ⟨SqL.of (k2 _ _ (e5 _ _ hR)), fun s3 z3 => ?_⟩⟩
    have k3 := k2.trans (Ex.new (o := .tup rows) z3)
    refine ⟨_, rfl, A0, _, rfl, .inl ⟨SqL.of (k3 _ _ hA5), fun s4 z4 => ?_⟩⟩
    refine ⟨by show 4 ≤ sizeLine; decide, fun r hr => ?_⟩
    have f4 := (Ex.new (o := .tup prs) z4).trans (Ex.new (o := .lst [.ref s1, .ref s2, .ref s3, .ref s4]) hr)
    have k5 := k3.trans f4
    have g05 := g13.trans (g35.trans k5)
    have f26 := (Ex.new (o := .tup (ps.map V.str)) z2).trans ((Ex.new (o := .tup rows) z3).trans f4)
    refine k _ r ⟨ws, ps, ls, pa⟩ s1 s2 s3 s4 rows prs g05 (fresh_back (g13.trans (g35.trans (k3.trans (Ex.new z4)))) hr) upd_same ⟨SqL.of upd_same, ?_, ?_, ?_, ?_, ?_, ?_⟩ ?_ ?_
    · exact b1.ex f26
    · exact st_of (f4 _ _ (Ex.new z3 _ _ upd_same))
    · exact st_of (f4 _ _ upd_same)
    · exact dps_ex (e5.trans k5) hd
    · exact st_of (Ex.new hr _ _ upd_same)
    · exact dps_ex k5 hd5
    · exact ⟨by show 1 ≤ ws.length; omega, by show ws.length ≤ 4; omega, by show 1 ≤ ps.length; omega, by show ps.length ≤ 24; omega, by show ls.length ≤ 60; omega, by show pa.length ≤ 60; omega, gw, gp, gl, hok, hok5, hap5⟩
    · exact ⟨by show ws.length ≤ 3; omega, by show 2 ≤ ps.length; omega, by show ps.length ≤ 7; omega, ll, by show pa.length ≤ 6; omega, hsm, gw2⟩
end
end EV

set_option Elab.async false
set_option linter.all false
set_option maxRecDepth 100000
set_option maxHeartbeats 4000000
namespace EV
open PySem PySem.Spec PyProof.Rows L2 EvS Evl
/-! ### weathers, sides, numbers -/
def dWr (r : Int × Str) : PyData := .tuple [.int r.1, .str r.2]
def dPm (r : Str × Int) : PyData := .tuple [.str r.1, .int r.2]
theorem link_in {K : PySem.W.Frag} {H : Hp} {v : V} {k : Link} (h : Dp K H v (dLink k)) : ∃ t u vs, v = .ref t ∧ SqT K H t [.str k.n, .str k.o, .str k.t, .ref u] ∧ SqT K H u vs ∧ DpAll K H vs (k.ts.map dTime) := by
  unfold dLink at h
  cases h with
  | tup hs hr =>
    cases hr with
    | cons a1 hr =>
      cases a1
      cases hr with
      | cons a2 hr =>
        cases a2
        cases hr with
        | cons a3 hr =>
          cases a3
          cases hr with
          | cons a4 hr =>
            cases hr
            cases a4 with
            | tup hl ha => exact ⟨_, _, _, rfl, hs, hl, ha⟩
theorem wr_in {K : PySem.W.Frag} {H : Hp} {v : V} {r : Int × Str} (h : Dp K H v (dWr r)) : ∃ t, v = .ref t ∧ SqT K H t [.int r.1, .str r.2] := by
  unfold dWr at h
  cases h with
  | tup st al =>
    cases al with
    | cons d1 al =>
      cases al with
      | cons d2 al =>
        cases al
        cases d1
        cases d2
        exact ⟨_, rfl, st⟩
theorem pm_in {K : PySem.W.Frag} {H : Hp} {v : V} {r : Str × Int} (h : Dp K H v (dPm r)) : ∃ t, v = .ref t ∧ SqT K H t [.str r.1, .int r.2] := by
  unfold dPm at h
  cases h with
  | tup st al =>
    cases al with
    | cons d1 al =>
      cases al with
      | cons d2 al =>
        cases al
        cases d1
        cases d2
        exact ⟨_, rfl, st⟩
theorem pick {α : Type} {f : α → PyData} {K : PySem.W.Frag} {H : Hp} {vs : List V} {xs : List α} {i : Nat} {v : V} (h : DpAll K H vs (xs.map f)) (e : vs[i]? = some v) : ∃ x, xs[i]? = some x ∧ x ∈ xs ∧ Dp K H v (f x) := by
  obtain ⟨d, hd, dp⟩ := dps_at h e
  rw [List.getElem?_map] at hd
  obtain ⟨x, hx, rfl⟩ := Option.map_eq_some_iff.mp hd
  exact ⟨x, hx, List.mem_of_getElem? hx, dp⟩
theorem pick_i {α : Type} {f : α → PyData} {K : PySem.W.Frag} {H : Hp} {vs : List V} {xs : List α} {i : Nat} {x : α} (h : DpAll K H vs (xs.map f)) (e : xs[i]? = some x) : ∃ v, vs[i]? = some v ∧ Dp K H v (f x) := by
  have l := dps_len h
  rw [List.length_map] at l
  have hi := (List.getElem?_eq_some_iff.mp e).1
  obtain ⟨v, hv⟩ : ∃ v, vs[i]? = some v := ⟨vs[i]'(by omega), List.getElem?_eq_getElem (by omega)⟩
  obtain ⟨y, hy, _, d⟩ := pick h hv
  rw [e] at hy
  cases hy
  exact ⟨v, hv, d⟩
structure WOk (D : LandD) (ws : List (Int × Str)) : Prop where
  l1 : 1 ≤ ws.length
  l40 : ws.length ≤ 40
  nm : ∀ r ∈ ws, r.2 ∈ D.ws
  h0 : ∀ r ∈ ws.head?, r.1 = 0
  asc : ws.Pairwise fun a b => a.1 < b.1
  top : ∀ r ∈ ws, 0 ≤ r.1 ∧ r.1 ≤ 100000
def wt (D : LandD) (ws : List (Int × Str)) : FP.Wt := ws.map fun r => (r.1, D.ws.idxOf r.2)
def sideN (s : Nat) (b : Option (Int × Int)) : Option Int := b.map fun b => if s = 0 then b.1 else b.2
def lkS (s : Nat) (k : Link) : FP.Lk := ⟨k.o, k.t, k.ts.map (sideN s)⟩
def fireOf (D : LandD) (ws : List (Int × Str)) (st bs : List (Str × Int)) (s : Nat) : FP.Fire := ⟨wt D ws, D.ls.map (lkS s), st, FP.minOf bs⟩
def vInt : Option Int → V
  | none => .non
  | some i => .int i
def windS (ws : List (Int × Str)) (m : Int) (i : Nat) : Str := (ws.take i).foldl (fun z r => if r.1 ≤ m then r.2 else z) (ws.headD (0, "")).2
theorem fold_idx {ns : List Str} {m : Int} : ∀ {ws : List (Int × Str)} {z : Str}, ns.idxOf (ws.foldl (fun z r => if r.1 ≤ m then r.2 else z) z) = (ws.map fun r => (r.1, ns.idxOf r.2)).foldl (fun z r => if r.1 ≤ m then r.2 else z) (ns.idxOf z)
  | [], z => rfl
  | r :: ws, z => by
    rw [List.foldl_cons, List.map_cons, List.foldl_cons, fold_idx]
    congr 1
    by_cases h : r.1 ≤ m
    · rw [if_pos h, if_pos h]
    · rw [if_neg h, if_neg h]
theorem wind_idx {D : LandD} {ws : List (Int × Str)} {m : Int} (ne : ws ≠ []) : D.ws.idxOf (windS ws m ws.length) = FP.windAt (wt D ws) m := by
  unfold windS FP.windAt wt
  rw [List.take_length, fold_idx]
  cases ws with
  | nil => exact absurd rfl ne
  | cons r ws => rfl
theorem wind_mem {D : LandD} {ws : List (Int × Str)} {m : Int} (ok : WOk D ws) (i : Nat) : windS ws m i ∈ D.ws := by
  have key : ∀ (l : List (Int × Str)) (z : Str), z ∈ D.ws → (∀ r ∈ l, r.2 ∈ D.ws) → l.foldl (fun z r => if r.1 ≤ m then r.2 else z) z ∈ D.ws := fun l => by
    induction l with
    | nil => exact fun z hz _ => hz
    | cons r l ih =>
      intro z hz h
      rw [List.foldl_cons]
      refine ih _ ?_ fun x hx => h x (List.mem_cons_of_mem _ hx)
      split
      · exact h r List.mem_cons_self
      · exact hz
  unfold windS
  have l1 := ok.l1
  have hz : (ws.headD (0, "")).2 ∈ D.ws := by
    cases ws with
    | nil => exact absurd l1 (by decide)
    | cons r l => exact ok.nm r List.mem_cons_self
  exact key _ _ hz fun r hr => ok.nm r (List.mem_of_mem_take hr)
theorem wind_lt {D : LandD} {ws : List (Int × Str)} {m : Int} (ok : WOk D ws) : FP.windAt (wt D ws) m < D.ws.length := by
  rw [← wind_idx (fun e => by have := ok.l1; rw [e] at this; exact absurd this (by decide))]
  exact List.idxOf_lt_length_of_mem (wind_mem ok _)
def sp__law_wind (K : PySem.W.Frag) : Sp := fun vs H Q _ => ∃ (p w : Addr) (m : Int) (D : LandD) (wi pl li pa : Addr) (rows prs us : List V) (ws : List (Int × Str)), vs = [.ref p, .ref w, .int m] ∧ Parts2 K H p D wi pl li pa rows prs ∧
  SqL K H w us ∧ DpAll K H us (ws.map dWr) ∧ WOk D ws ∧ Q (.int (FP.windAt (wt D ws) m : Nat)) H
def sp__law_caught (K : PySem.W.Frag) : Sp := fun vs H Q _ => ∃ (p w t : Addr) (m : Int) (s : Nat) (D : LandD) (wi pl li pa : Addr) (rows prs us : List V) (ws : List (Int × Str)) (k : Link), vs = [.ref p, .ref w, .ref t, .int m, .int s] ∧ Parts2 K H p D wi pl li pa rows prs ∧
  SqL K H w us ∧ DpAll K H us (ws.map dWr) ∧ WOk D ws ∧ Dp K H (.ref t) (dLink k) ∧ k.ts.length = D.ws.length ∧ s < 2 ∧ ∀ H', Ex H H' → Q (vInt (FP.thr (wt D ws) (lkS s k).row m)) H'
section
variable {P : Program} {w : World} {K : PySem.W.Frag} {mg : Str → Option Value} {base : Heap} {a : Ad}
end
end EV

set_option Elab.async false
set_option linter.all false
set_option maxRecDepth 100000
set_option maxHeartbeats 4000000
namespace EV
open PySem PySem.Spec PyProof.Rows L2 EvS Evl FD
def StOk (D : LandD) (sts : List (Str × Int)) : Prop := ∀ r ∈ sts, r.1 ∈ D.ps ∧ 0 ≤ r.2
theorem fire_ok {D : LandD} (ok : LandOk D) {ws : List (Int × Str)} {sts bs : List (Str × Int)} (hs : StOk D sts) (s : Nat) : FP.Ok (fireOf D ws sts bs s) D.ps where
  nn := fun r hr => (hs r hr).2
  rows := fun l hl => by
    obtain ⟨k, hk, rfl⟩ := List.mem_map.mp hl
    intro x hx
    obtain ⟨b, hb, e⟩ := List.mem_map.mp hx
    cases b with
    | none => cases e
    | some b =>
      have t := (ok.lk k hk).ok _ hb
      unfold sideN at e
      obtain rfl := Option.some.inj e
      obtain ⟨h1, h2, h3⟩ := t
      split
      · exact h1
      · exact Int.le_trans h1 h2
  sp := fun r hr => (hs r hr).1
  ends := fun l hl => by
    obtain ⟨k, hk, rfl⟩ := List.mem_map.mp hl
    exact ⟨(ok.lk k hk).o, (ok.lk k hk).t⟩
def sp__law_fire (K : PySem.W.Frag) : Sp := fun vs H Q _ => ∃ (p w st br : Addr) (s : Nat) (D : LandD) (wi pl li pa : Addr) (rows prs us xs ys : List V) (ws : List (Int × Str)) (sts bs : List (Str × Int)), vs = [.ref p, .ref w, .ref st, .ref br, .int s] ∧ Parts2 K H p D wi pl li pa rows prs ∧ LandOk D ∧
  SqL K H w us ∧ DpAll K H us (ws.map dWr) ∧ WOk D ws ∧ SqL K H st xs ∧ DpAll K H xs (sts.map dPm) ∧ SqL K H br ys ∧ DpAll K H ys (bs.map dPm) ∧ StOk D sts ∧ sts.length ≤ 1000 ∧ bs.length ≤ 1000 ∧ s < 2 ∧
  ∀ d H', Ex H H' → H d = none → Tab H' d (FP.first (fireOf D ws sts bs s)) → Q (.ref d) H'
theorem least_min (o : Option Int) (m : Int) : FP.least o (some m) = some (if (o.getD m) < m then o.getD m else m) := by
  cases o with
  | none => rw [if_neg (by simp)]; rfl
  | some c =>
    show (if m < c then some m else some c) = some (if c < m then c else m)
    by_cases h : m < c
    · rw [if_pos h, if_neg (by omega)]
    · rw [if_neg h]
      by_cases h2 : c < m
      · rw [if_pos h2]
      · rw [if_neg h2, show c = m by omega]
section
variable {P : Program} {w : World} {K : PySem.W.Frag} {mg : Str → Option Value} {base : Heap} {a : Ad}
end
end EV

set_option Elab.async false
set_option linter.all false
set_option maxRecDepth 100000
set_option maxHeartbeats 4000000
namespace EV
open PySem PySem.Spec PyProof.Rows L2 EvS Evl FD
/-- the reading of t.index(x), over K -/
def rTupIx (K : PySem.W.Frag) : V → List V → Hp → VK → Prop := fun x xs H Q => ∃ p, ∃ ys : List Str, ∃ z j, x = .ref p ∧ xs = [.str z] ∧ SqT K H p (ys.map V.str) ∧ ys[j]? = some z ∧ (∀ m, m < j → ys[m]? ≠ some z) ∧ Q (.int (j : Nat)) H
/-- the reading of len(..) of a list or a tuple, over K -/
def rLenK (K : PySem.W.Frag) : List V → Hp → VK → Prop := fun xs H Q => ∃ p ys, xs = [.ref p] ∧ (SqL K H p ys ∨ SqT K H p ys) ∧ Q (.int (ys.length : Nat)) H
theorem iteNT {A B : Prop} (h : B) : if (!true) = true then A else B := by
  simpa using h
theorem fs_check_place (wi pl li pa : Addr) : (landFs wi pl li pa).lookup ("check_place" : Str) = none := by
  unfold landFs
  rw [lookup_putF, if_neg (by decide +kernel), lookup_putF, if_neg (by decide +kernel), lookup_putF, if_neg (by decide +kernel), lookup_putF, if_neg (by decide +kernel)]
  rfl
theorem fs_check_wind (wi pl li pa : Addr) : (landFs wi pl li pa).lookup ("check_wind" : Str) = none := by
  unfold landFs
  rw [lookup_putF, if_neg (by decide +kernel), lookup_putF, if_neg (by decide +kernel), lookup_putF, if_neg (by decide +kernel), lookup_putF, if_neg (by decide +kernel)]
  rfl
theorem inV_in {z : Str} {ys : List Str} (h : z ∈ ys) : inV (.str z) (ys.map V.str) = true := by
  unfold inV
  rw [List.any_map, List.any_eq_true]
  exact ⟨z, h, by show (z == z) = true; exact beq_self_eq_true z⟩
theorem flat_strs (ys : List Str) : (ys.map V.str).all flatV = true := by
  rw [List.all_map, List.all_eq_true]
  intro x _
  rfl
def sp_check_place (K : PySem.W.Frag) (C : Addr) : Sp := fun vs H Q _ => ∃ (x : Addr) (D : LandD) (z : Str), vs = [.ref x, .str z] ∧ IsLand K C H x D ∧ z ∈ D.ps ∧ Q .non H
def sp_check_wind (K : PySem.W.Frag) (C : Addr) : Sp := fun vs H Q _ => ∃ (x : Addr) (D : LandD) (z : Str), vs = [.ref x, .str z] ∧ IsLand K C H x D ∧ z ∈ D.ws ∧ Q .non H
def sp_check_winds (K : PySem.W.Frag) (C : Addr) : Sp := fun vs H Q _ => ∃ (x w : Addr) (D : LandD) (us : List V) (ws : List (Int × Str)), vs = [.ref x, .ref w] ∧ IsLand K C H x D ∧ SqL K H w us ∧ DpAll K H us (ws.map dWr) ∧ (∀ r ∈ ws, r.2 ∈ D.ws) ∧ Q .non H
def sp_check_rows (K : PySem.W.Frag) : Sp := fun vs H Q _ => ∃ (w : Addr) (D : LandD) (us : List V) (ws : List (Int × Str)), vs = [.ref w] ∧ SqL K H w us ∧ DpAll K H us (ws.map dWr) ∧ WOk D ws ∧ ∀ H', Ex H H' → Q .non H'
def sp_least_minutes (K : PySem.W.Frag) : Sp := fun vs H Q _ => ∃ (b : Addr) (ys : List V) (bs : List (Str × Int)), vs = [.ref b] ∧ SqL K H b ys ∧ DpAll K H ys (bs.map dPm) ∧ bs.length ≤ 1000 ∧ ∀ d H', Ex H H' → H d = none → Tab H' d (FP.minOf bs) → Q (.ref d) H'
def dOpt : Option Int → PyData
  | none => .none
  | some i => .int i
theorem dp_opt {K : PySem.W.Frag} {H : Hp} (o : Option Int) : Dp K H (vInt o) (dOpt o) := by
  cases o with
  | none => exact .non
  | some i => exact .int i
theorem opt_dp {K : PySem.W.Frag} {H : Hp} {v : V} {o : Option Int} (h : Dp K H v (dOpt o)) : v = vInt o := by
  cases o with
  | none => cases h; rfl
  | some i => cases h; rfl
def dSp (s : FP.Spell) : PyData := .tuple [.int s.1, dOpt s.2.1, .int (s.2.2 : Nat)]
theorem frozen_opt (o : Option Int) : frozen (dOpt o) = true := by cases o <;> simp [dOpt, frozen]
theorem frozen_sp (s : FP.Spell) : frozen (dSp s) = true := by simp [dSp, frozen, frozenAll, frozen_opt]
theorem spells_get : ∀ {l : FP.Wt} {i : Nat}, (FP.spells l)[i]? = l[i]?.map fun r => (r.1, l[i + 1]?.map (·.1), r.2)
  | [], i => by simp [FP.spells]
  | [r], 0 => rfl
  | [r], i + 1 => by simp [FP.spells]
  | r :: q :: l, 0 => rfl
  | r :: q :: l, i + 1 => by
    show (FP.spells (q :: l))[i]? = _
    rw [spells_get]
    rfl
theorem spells_len (l : FP.Wt) : (FP.spells l).length = l.length := by
  have key : ∀ l : FP.Wt, (FP.spells l).length = l.length := fun l => by
    induction l with
    | nil => rfl
    | cons r l ih =>
      cases l with
      | nil => rfl
      | cons q l =>
        show (FP.spells (q :: l)).length + 1 = _
        rw [ih]
        rfl
  exact key l
def sp_spells_of (K : PySem.W.Frag) (C : Addr) : Sp := fun vs H Q _ => ∃ (x w : Addr) (D : LandD) (us : List V) (ws : List (Int × Str)), vs = [.ref x, .ref w] ∧ IsLand K C H x D ∧ SqL K H w us ∧ DpAll K H us (ws.map dWr) ∧ WOk D ws ∧
  ∀ (l : Addr) (H' : Hp) (acc : List V), Ex H H' → H l = none → H' l = some (.lst acc) → DpAll K H' acc ((FP.spells (wt D ws)).map dSp) → Q (.ref l) H'
section
variable {P : Program} {w : World} {K : PySem.W.Frag} {mg : Str → Option Value} {base : Heap} {a : Ad}
theorem G_check_place (T : Txt K mg a) : FnOk P w K mg base CX0 1 a.f_check_place a.d_check_place ["self", "place"] (sp_check_place K a.C) := by
  refine T.F_check_place.ok sc_check_place (fun vs H Q E h => ?_) (fun cdv A outer s H vs Q E hr h => ?_)
  · obtain ⟨x, D, z, rfl, _⟩ := h
    rfl
  · obtain ⟨x, D, z, rfl, hx, hz, k⟩ := h
    obtain ⟨dx, wi, pl, li, pa, rows, prs, L⟩ := hx
    refine ⟨_, (pss_one (ps_if (pt_cmpR op_notIn_seq (pv 1) (pe_fld (pv 0) rfl) (by rfl)) pss_any pss_nil)), ?_⟩
    refine ⟨_, rfl, _, rfl, x, a.C, dx, _, _, rfl, L.ob, T.cl, T.nP, fs_places .., pl, _, rfl, .inr L.pl, rfl, flat_strs _, ?_⟩
    rw [inV_in hz]
    exact ⟨_, rfl, iteF k⟩
theorem G_check_wind (T : Txt K mg a) : FnOk P w K mg base CX0 1 a.f_check_wind a.d_check_wind ["self", "wind"] (sp_check_wind K a.C) := by
  refine T.F_check_wind.ok sc_check_wind (fun vs H Q E h => ?_) (fun cdv A outer s H vs Q E hr h => ?_)
  · obtain ⟨x, D, z, rfl, _⟩ := h
    rfl
  · obtain ⟨x, D, z, rfl, hx, hz, k⟩ := h
    obtain ⟨dx, wi, pl, li, pa, rows, prs, L⟩ := hx
    refine ⟨_, (pss_one (ps_if (pt_cmpR op_notIn_seq (pv 1) (pe_fld (pv 0) rfl) (by rfl)) pss_any pss_nil)), ?_⟩
    refine ⟨_, rfl, _, rfl, x, a.C, dx, _, _, rfl, L.ob, T.cl, T.nW, fs_winds .., wi, _, rfl, .inr L.wi.sq, rfl, flat_strs _, ?_⟩
    rw [inV_in hz]
    exact ⟨_, rfl, iteF k⟩
theorem G_check_winds (T : Txt K mg a) : FnOk P w K mg base CX0 2 a.f_check_winds a.d_check_winds ["land", "weather"] (sp_check_winds K a.C) := by
  refine T.F_check_winds.ok sc_check_winds (fun vs H Q E h => ?_) (fun cdv A outer s H vs Q E hr h => ?_)
  · obtain ⟨x, w, D, us, ws, rfl, _⟩ := h
    rfl
  · obtain ⟨x, w, D, us, ws, rfl, hx, hw, dw, hm, k⟩ := h
    obtain ⟨dx, wi, pl, li, pa, rows, prs, L⟩ := id hx
    refine ⟨_, (pss_one (ps_for PassesOwn.never rfl (pi_list (pv 1)) (pg_tup (by rfl) (pgs_cons (pg_name (i := 2) sc_check_winds.nd rfl (Or.inl rfl)) (pgs_cons (pg_name (i := 3) sc_check_winds.nd rfl (Or.inl rfl)) pgs_nil))) (pss_one (ps_expr (pe_meth (pv 0) T.cl T.m_check_wind (G_check_wind T) (hr.mono (by decide)) T.B_check_wind .nil pass0 (pa_cons (pv 3) pa_nil)))))), ?_⟩
    refine ⟨_, rfl, w, rfl, ⟨_, hw⟩, for_list (K := K) (a := w) (xs := us) (fun i σ H' => ∃ v2 v3, σ = [some (.ref x), some (.ref w), v2, v3] ∧ H' = H) ⟨none, none, rfl, rfl⟩ (fun i σ H' _ z => by obtain ⟨_, _, _, e⟩ := z; rw [e]; exact hw) (fun i y σ H' hy z => ?_) (fun σ H' z => ?_)⟩
    · obtain ⟨v2, v3, rfl, e⟩ := z
      rw [e]
      obtain ⟨r, hrr, hmr, dp⟩ := pick dw hy
      obtain ⟨t, rfl, st⟩ := wr_in dp
      exact ⟨t, _, rfl, st, rfl, _, _, rfl, _, _, rfl, rfl, _, rfl, x, dx, _, rfl, L.ob, fs_check_wind .., _, rfl, x, D, r.2, rfl, hx, hm r hmr, _, _, rfl, rfl⟩
    · obtain ⟨v2, v3, rfl, e⟩ := z
      rw [e]
      exact k
theorem G_check_rows (T : Txt K mg a) : FnOk P w K mg base CX0 1 a.f_check_rows a.d_check_rows ["weather"] (sp_check_rows K) := by
  refine T.F_check_rows.ok sc_check_rows (fun vs H Q E h => ?_) (fun cdv A outer s H vs Q E hr h => ?_)
  · obtain ⟨w, D, us, ws, rfl, _⟩ := h
    rfl
  · obtain ⟨w, D, us, ws, rfl, hw, dw, ok, k⟩ := h
    have lu := dps_len dw
    rw [List.length_map] at lu
    have l1 := ok.l1
    have l40 := ok.l40
    refine ⟨_, (pss_cons (ps_if (pt_not (pt_chain op_le op_le pe_int (pe_callB call_len_seq (by rfl) T.z_len PySem.boot_len (pa_cons (pv 0) pa_nil)) (pe_gI rfl T.c_MOST_ROWS))) pss_any pss_nil)
      (pss_cons (ps_setLc (i := 1) (own := [("minute", 4), ("_", 5)]) (g := gTup K 2 (gCons (gName 4) (gCons (gName 5) gNil))) (tt := tYes) rfl sc_check_rows.nd rfl rfl (sw_true rfl rfl rfl (by decide +kernel)) (pi_list (pv 0)) (blkOk_by (N := ["weather", "minutes", "before", "behind", "minute", "_"]) (sc := defScope s_check_rows) (by decide +kernel)) (fun _ _ _ _ _ => (pg_tup (by rfl) (pgs_cons (pg_name (i := 4) sc_check_rows.nd rfl (Or.inl rfl)) (pgs_cons (pg_name (i := 5) sc_check_rows.nd rfl (Or.inl rfl)) pgs_nil)))) (fun _ _ _ _ _ => pts_nil) (fun _ _ _ _ _ => (pv 4)))
      (pss_cons (ps_if (pt_cmpR op_ne (pe_ix ix_list (pv 1) pe_int (fun _ _ => rfl)) pe_int (nomark _)) pss_any pss_nil)
      (pss_cons (ps_for PassesOwn.never rfl (pi_zip (by rfl) T.z_zip (pa_cons (pv 1) (pa_cons (pe_slice sl_list (pv 1) (po_some pe_int) po_none) pa_nil))) (pg_tup (by rfl) (pgs_cons (pg_name (i := 2) sc_check_rows.nd rfl (Or.inl rfl)) (pgs_cons (pg_name (i := 3) sc_check_rows.nd rfl (Or.inl rfl)) pgs_nil))) (pss_one (ps_if (pt_cmpR op_le (pv 3) (pv 2) (nomark _)) pss_any pss_nil)))
      (pss_one (ps_if (pt_cmpR op_gt (pe_ix ix_list (pv 1) (pe_un un_neg pe_int) (fun _ _ => rfl)) (pe_gI rfl T.c_LAST_CHANGE) (nomark _)) pss_any pss_nil)))))), ?_⟩
    refine ⟨_, rfl, w, _, rfl, .inl hw, _, _, rfl, rfl, _, rfl, ?_⟩
    rw [decide_eq_true (show (1 : Int) ≤ (us.length : Int) by omega)]
    refine iteT ⟨_, _, rfl, rfl, _, rfl, ?_⟩
    rw [decide_eq_true (show (us.length : Int) ≤ 40 by omega)]
    refine iteNT ?_
    refine ⟨_, rfl, w, rfl, ⟨_, hw⟩, fun D0 hD => lcY_list (K := K) (a := w) (xs := us) (fun i H' => Ex H H' ∧ H' D0 = some (.lst (((ws.take i).map (·.1)).map V.int))) ⟨Ex.new hD, upd_same⟩ (fun i H' _ z => ex_l z.1 hw) (fun i y H' hy z => ?_) (fun H1 z => ?_)⟩
    · have hi := (List.getElem?_eq_some_iff.mp hy).1
      obtain ⟨r, hrr, hmr, dp⟩ := pick (dps_ex z.1 dw) hy
      obtain ⟨t, rfl, st⟩ := wr_in dp
      refine ⟨t, _, rfl, st, rfl, _, _, rfl, _, _, rfl, rfl, rfl, _, rfl, _, z.2, sz_lt (by simp only [List.length_map, List.length_take]; omega), z.1.mut hD, ?_⟩
      rw [upd_same, take_one hrr, List.map_append, List.map_append]
      rfl
    rw [lu, List.take_length] at z
    obtain ⟨e1, hm⟩ := z
    obtain ⟨r0, rest, ew⟩ : ∃ r l, ws = r :: l := by
      cases ws with
      | nil => exact absurd l1 (by decide)
      | cons r l => exact ⟨r, l, rfl⟩
    have z0 : r0.1 = 0 := ok.h0 r0 (by rw [ew]; rfl)
    refine ⟨_, rfl, D0, _, _, _, rfl, rfl, SqL.of hm, atI_nat (j := 0) (v := .int 0) (by rw [ew, ← z0]; rfl), rfl, _, rfl, ?_⟩
    rw [decide_eq_true rfl]
    refine iteNT ?_
    refine ⟨_, rfl, _, rfl, _, rfl, D0, _, rfl, SqL.of hm, fun B hB => ?_⟩
    rw [show (1 : Int) = ((1 : Nat) : Int) from rfl, cut_from]
    have e2 := Ex.new (o := .lst ((((ws.map (·.1)).map V.int)).drop 1)) hB
    have mB : (upd H1 B (.lst ((((ws.map (·.1)).map V.int)).drop 1))) B = some (.lst ((((ws.map (·.1)).map V.int)).drop 1)) := upd_same
    have mD := e2 _ _ hm
    generalize upd H1 B (.lst ((((ws.map (·.1)).map V.int)).drop 1)) = H2 at e2 mB mD
    refine ⟨D0, B, _, _, rfl, SqL.of mD, SqL.of mB, for_it (walk_zip (n := min ((ws.map (·.1)).map V.int).length ((((ws.map (·.1)).map V.int)).drop 1).length) rfl) (fun i σ H' => ∃ v2 v3, σ = [some (.ref w), some (.ref D0), v2, v3, none, none] ∧ Ex H2 H') ⟨none, none, rfl, Ex.refl _⟩ (fun i σ H' _ z => by obtain ⟨_, _, _, e⟩ := z; exact ⟨SqL.of (e _ _ mD), SqL.of (e _ _ mB)⟩) (fun i y σ H' H'' hi z yy => ?_) (fun σ H' z => ?_)⟩
    · obtain ⟨v2, v3, rfl, e⟩ := z
      obtain ⟨t, u, v, rfl, ht, rfl, h1, h2⟩ := yy
      have h1 : ((ws.map (·.1)).map V.int)[i]? = some u := h1
      have h2 : ((((ws.map (·.1)).map V.int)).drop 1)[i]? = some v := h2
      rw [List.getElem?_drop] at h2
      rw [List.getElem?_map, List.getElem?_map] at h1 h2
      obtain ⟨m1, q1, rfl⟩ := Option.map_eq_some_iff.mp h1
      obtain ⟨r1, hr1, rfl⟩ := Option.map_eq_some_iff.mp q1
      obtain ⟨m2, q2, rfl⟩ := Option.map_eq_some_iff.mp h2
      obtain ⟨r2, hr2, rfl⟩ := Option.map_eq_some_iff.mp q2
      have lt : r1.1 < r2.1 := by
        have i1 := (List.getElem?_eq_some_iff.mp hr1)
        have i2 := (List.getElem?_eq_some_iff.mp hr2)
        obtain ⟨i1, rfl⟩ := i1
        obtain ⟨i2, rfl⟩ := i2
        exact List.pairwise_iff_getElem.mp ok.asc _ _ i1 i2 (by omega)
      refine ⟨t, _, rfl, st_of upd_same, rfl, _, _, rfl, _, _, rfl, rfl, _, rfl, _, rfl, _, _, rfl, rfl, _, rfl, ?_⟩
      rw [decide_eq_false (by omega)]
      exact iteF ⟨_, _, rfl, e.trans (Ex.new ht)⟩
    · obtain ⟨v2, v3, rfl, e⟩ := z
      have hl : ws.length - 1 < ws.length := by omega
      obtain ⟨rl, hrl⟩ : ∃ r, ws[ws.length - 1]? = some r := ⟨_, List.getElem?_eq_getElem hl⟩
      have tp := (ok.top rl (List.mem_of_getElem? hrl)).2
      have last : atI ((ws.map (·.1)).map V.int) (-1) = some (.int rl.1) := by
        unfold atI ixN
        have lV : ((ws.map (·.1)).map V.int).length = ws.length := by rw [List.length_map, List.length_map]
        rw [if_neg (by decide), if_pos (by omega), lV]
        show ((ws.map (·.1)).map V.int)[((ws.length : Int) + -1).toNat]? = _
        rw [show ((ws.length : Int) + -1).toNat = ws.length - 1 by omega, List.getElem?_map, List.getElem?_map, hrl]
        rfl
      refine ⟨_, rfl, _, rfl, D0, _, _, _, rfl, rfl, SqL.of (e _ _ mD), last, _, _, rfl, rfl, _, rfl, ?_⟩
      rw [decide_eq_false (by omega)]
      exact iteF (k _ ((e1.trans e2).trans e))
theorem G_least_minutes (T : Txt K mg a) : FnOk P w K mg base CX0 1 a.f_least_minutes a.d_least_minutes ["rows"] (sp_least_minutes K) := by
  refine T.F_least_minutes.ok sc_least_minutes (fun vs H Q E h => ?_) (fun cdv A outer s H vs Q E hr h => ?_)
  · obtain ⟨b, ys, bs, rfl, _⟩ := h
    rfl
  · obtain ⟨b, ys, bs, rfl, hb, db, lb, k⟩ := h
    have ly := dps_len db
    rw [List.length_map] at ly
    refine ⟨_, (pss_cons (ps_set (i := 1) sc_least_minutes.nd rfl (Or.inl rfl) pe_dnewK)
      (pss_cons (ps_for PassesOwn.never rfl (pi_list (pv 0)) (pg_tup (by rfl) (pgs_cons (pg_name (i := 2) sc_least_minutes.nd rfl (Or.inl rfl)) (pgs_cons (pg_name (i := 3) sc_least_minutes.nd rfl (Or.inl rfl)) pgs_nil))) (pss_one (ps_if (PW.pt (pw_or (pt_cmp (pc_dnotin (hu_of hr) (pv 2) (pv 1))) (pw_or1 (pt_cmpR op_lt (pv 3) (pe_dget (hu_of hr) (pv 1) (pv 2) (fun _ _ => rfl)) (nomark _))))) (pss_one (ps_dput (hu_of hr) (pv 1) (pv 2) (pv 3) rfl)) pss_nil)))
      (pss_one (ps_ret (pv 1))))), ?_⟩
    refine fun d hd => ?_
    have x1 := Ex.new (o := .dK []) hd
    refine ⟨_, rfl, b, rfl, ⟨_, ex_l x1 hb⟩, for_list (K := K) (a := b) (xs := ys) (fun i σ H' => ∃ (v2 v3 : Option V) (kvs : List (Key × V)), σ = [some (.ref b), some (.ref d), v2, v3] ∧ Ex H H' ∧ H' d = some (.dK kvs) ∧ TabK kvs (FP.minOf (bs.take i)) ∧ kvs.length ≤ i) ⟨none, none, [], rfl, x1, upd_same, .nil, Nat.le_refl _⟩ (fun i σ H' _ z => by obtain ⟨v2, v3, kvs, rfl, ex, _⟩ := z; exact ex_l ex hb) (fun i y σ H' hy z => ?_) (fun σ H2 z => ?_)⟩
    · obtain ⟨v2, v3, kvs, rfl, ex, hk, tb, lk⟩ := z
      have hi := (List.getElem?_eq_some_iff.mp hy).1
      obtain ⟨r, hrr, hm, dp⟩ := pick (dps_ex ex db) hy
      obtain ⟨t, rfl, ht⟩ := pm_in dp
      have nx : ∀ q, FP.minOf (bs.take (i + 1)) q = if r.1 = q then FP.least (FP.minOf (bs.take i) q) (some r.2) else FP.minOf (bs.take i) q := fun q => by rw [take_one hrr, FP.minOf_more]
      have vB := tb r.1
      have gB : DGet H' d (.str r.1) (valV kvs (.inr r.1)) := DGet.k (k := Sum.inr r.1) hk
      rw [vB] at gB
      have put : (FP.least (FP.minOf (bs.take i) r.1) (some r.2) = some r.2) → ∃ (v2 v3 : Option V) (kvs2 : List (Key × V)), [some (V.ref b), some (.ref d), some (.str r.1), some (.int r.2)] = [some (V.ref b), some (.ref d), v2, v3] ∧ Ex H (upd H' d (.dK (putK kvs (Sum.inr r.1) (.int r.2)))) ∧ (upd H' d (.dK (putK kvs (Sum.inr r.1) (.int r.2)))) d = some (.dK kvs2) ∧ TabK kvs2 (FP.minOf (bs.take (i + 1))) ∧ kvs2.length ≤ i + 1 := fun e => by
        have := length_putK kvs (Sum.inr r.1) (V.int r.2)
        refine ⟨_, _, putK kvs (Sum.inr r.1) (.int r.2), rfl, ex.mut hd, upd_same, (tb.put r.1 r.2).same fun q => ?_, by omega⟩
        rw [nx q]
        unfold upd1
        by_cases c : r.1 = q
        · rw [if_pos c, if_pos c.symm, ← c, e]
        · rw [if_neg c, if_neg fun z => c z.symm]
      refine ⟨t, _, rfl, ht, rfl, _, _, rfl, _, _, rfl, rfl, ?_⟩
      refine ⟨_, rfl, _, rfl, d, _, rfl, gB, _, rfl, ?_⟩
      cases hf : FP.minOf (bs.take i) r.1 with
      | none =>
        rw [hf] at put
        exact iteT ⟨_, rfl, _, rfl, _, rfl, d, _, rfl, DPut.k (k := Sum.inr r.1) hk (sz_lt (by omega)), put rfl⟩
      | some u =>
        rw [hf] at put gB
        refine iteF ⟨_, rfl, _, rfl, _, rfl, d, _, rfl, gB, _, _, rfl, rfl, _, rfl, ?_⟩
        refine ite2 (fun c2 => ?_) (fun c2 => ?_)
        · exact ⟨_, rfl, _, rfl, _, rfl, d, _, rfl, DPut.k (k := Sum.inr r.1) hk (sz_lt (by omega)), put (if_pos (of_decide_eq_true c2))⟩
        · refine ⟨_, _, kvs, rfl, ex, hk, tb.same fun q => ?_, by omega⟩
          rw [nx q]
          by_cases c : r.1 = q
          · rw [if_pos c, ← c, hf]
            exact (if_neg fun z => c2 (decide_eq_true z)).symm
          · rw [if_neg c]
    · obtain ⟨v2, v3, kvs, rfl, ex, hk, tb, lk⟩ := z
      rw [ly, List.take_length] at tb
      exact ⟨_, rfl, k d H2 ex hd ⟨kvs, hk, by omega, tb⟩⟩
theorem G_spells_of (T : Txt K mg a) : FnOk P w K mg base CX0 1 a.f_spells_of a.d_spells_of ["land", "weather"] (sp_spells_of K a.C) := by
  refine T.F_spells_of.ok sc_spells_of (fun vs H Q E h => ?_) (fun cdv A outer s H vs Q E hr h => ?_)
  · obtain ⟨x, w, D, us, ws, rfl, _⟩ := h
    rfl
  · obtain ⟨x, w, D, us, ws, rfl, hx, hw, dw, ok, k⟩ := h
    have lu := dps_len dw
    rw [List.length_map] at lu
    have l1 := ok.l1
    have l40 := ok.l40
    refine ⟨_, (pss_cons (ps_set (i := 2) sc_spells_of.nd rfl (Or.inl rfl) (pe_op op_cat (pe_lc (own := [("minute", 3), ("_", 4)]) (g := gTup K 2 (gCons (gName 3) (gCons (gName 4) gNil))) (tt := tYes) rfl sc_spells_of.nd (pi_list (pe_slice sl_list (pv 1) (po_some pe_int) po_none)) (blkOk_by (N := ["land", "weather", "ends", "minute", "_", "begin", "wind", "end"]) (sc := defScope s_spells_of) (by decide +kernel)) (fun _ _ _ _ _ => (pg_tup (by rfl) (pgs_cons (pg_name (i := 3) sc_spells_of.nd rfl (Or.inl rfl)) (pgs_cons (pg_name (i := 4) sc_spells_of.nd rfl (Or.inl rfl)) pgs_nil)))) (fun _ _ _ _ _ => pts_nil) (fun _ _ _ _ _ => (pv 3))) (pe_lst (pa_cons pe_non pa_nil))))
      (pss_one (ps_ret (pe_lc (own := [("begin", 5), ("wind", 6), ("end", 7)]) (g := gTup K 2 (gCons (gTup K 2 (gCons (gName 5) (gCons (gName 6) gNil))) (gCons (gName 7) gNil))) (tt := tYes) rfl sc_spells_of.nd (pi_zip (by rfl) T.z_zip (pa_cons (pv 1) (pa_cons (pv 2) pa_nil))) (blkOk_by (N := ["land", "weather", "ends", "minute", "_", "begin", "wind", "end"]) (sc := defScope s_spells_of) (by decide +kernel)) (fun _ _ _ _ _ => (pg_tup (by rfl) (pgs_cons (pg_tup (by rfl) (pgs_cons (pg_name (i := 5) sc_spells_of.nd rfl (Or.inl rfl)) (pgs_cons (pg_name (i := 6) sc_spells_of.nd rfl (Or.inl rfl)) pgs_nil))) (pgs_cons (pg_name (i := 7) sc_spells_of.nd rfl (Or.inl rfl)) pgs_nil)))) (fun _ _ _ _ _ => pts_nil) (fun _ _ _ _ _ => (pe_tup (pa_cons (pv 5) (pa_cons (pv 7) (pa_cons (TupX.pe_bmT PySem.F.plainAttrs_tuple PySem.F.slot_tuple_index PySem.F.type_tuple_index (show MtR _ "tuple.index" (rTupIx K) from mt_tup_index) (show PE _ _ (tFld K (tVar 0) "winds") from pe_fld (pv 0) rfl) (pa_cons (pv 6) pa_nil)) pa_nil))))))))), ?_⟩
    refine ⟨_, rfl, _, rfl, w, _, rfl, hw, fun q hq => ?_⟩
    rw [show (1 : Int) = ((1 : Nat) : Int) from rfl, cut_from]
    have e1 := Ex.new (o := .lst (us.drop 1)) hq
    have mq : (upd H q (.lst (us.drop 1))) q = some (.lst (us.drop 1)) := upd_same
    generalize upd H q (.lst (us.drop 1)) = H1 at e1 mq
    have ddrop : DpAll K H1 (us.drop 1) ((ws.drop 1).map dWr) := by
      have := dps_drop 1 (dps_ex e1 dw)
      rwa [← List.map_drop] at this
    have ld : (us.drop 1).length = (ws.drop 1).length := by rw [List.length_drop, List.length_drop, lu]
    refine ⟨q, rfl, ⟨_, SqL.of mq⟩, fun D0 hD => lcY_list (K := K) (a := q) (xs := us.drop 1) (fun i H' => Ex H1 H' ∧ H' D0 = some (.lst ((((ws.drop 1).take i).map (·.1)).map V.int))) ⟨Ex.new hD, upd_same⟩ (fun i H' _ z => SqL.of (z.1 _ _ mq)) (fun i y H' hy z => ?_) (fun H2 z => ?_)⟩
    · have hi := (List.getElem?_eq_some_iff.mp hy).1
      obtain ⟨r, hrr, hmr, dp⟩ := pick (dps_ex z.1 ddrop) hy
      obtain ⟨t, rfl, st⟩ := wr_in dp
      refine ⟨t, _, rfl, st, rfl, _, _, rfl, _, _, rfl, rfl, rfl, _, rfl, _, z.2, sz_lt (by simp only [List.length_map, List.length_take, List.length_drop]; omega), z.1.mut hD, ?_⟩
      rw [upd_same, take_one hrr, List.map_append, List.map_append]
      rfl
    rw [ld, List.take_length] at z
    obtain ⟨e2, hm⟩ := z
    refine ⟨by show 1 ≤ sizeLine; decide, fun n1 hn1 => ?_⟩
    refine ⟨D0, n1, _, _, rfl, rfl, Ex.new hn1 _ _ hm, upd_same, sz_of (by simp only [List.length_map, List.length_drop, List.length_cons, List.length_nil]; omega), fun L hL => ?_⟩
    let ends := ((ws.drop 1).map (·.1)).map V.int ++ [V.non]
    have e3 := (e1.trans e2).trans ((Ex.new (o := .lst [.non]) hn1).trans (Ex.new (o := .lst ends) hL))
    have mL : (upd (upd H2 n1 (.lst [.non])) L (.lst ends)) L = some (.lst ends) := upd_same
    show _
    generalize upd (upd H2 n1 (.lst [.non])) L (.lst ends) = H3 at e3 mL
    have le : ends.length = us.length := by
      show (((ws.drop 1).map (·.1)).map V.int ++ [V.non]).length = _
      simp only [List.length_append, List.length_map, List.length_drop, List.length_cons, List.length_nil]
      omega
    have hw3 := ex_l e3 hw
    refine ⟨_, rfl, _, rfl, w, L, _, _, rfl, hw3, SqL.of mL, fun B hB => lc_it (walk_zip (n := us.length) (by rw [le, Nat.min_self])) (fun i H' => Ex H3 H' ∧ ∃ acc, H' B = some (.lst acc) ∧ DpAll K (del H' B) acc (((FP.spells (wt D ws)).take i).map dSp) ∧ acc.length = i) ⟨Ex.new hB, [], upd_same, .nil, rfl⟩ (fun i H' _ z => ⟨ex_l z.1 hw3, SqL.of (z.1 _ _ mL)⟩) (fun i y H' H'' hi z yy => ?_) (fun H4 z => ?_)⟩
    · obtain ⟨e, acc, ha, da, la⟩ := z
      obtain ⟨T0, u, v, rfl, ht, rfl, h1, h2⟩ := yy
      have h1 : us[i]? = some u := h1
      have h2 : ends[i]? = some v := h2
      obtain ⟨r, hrr, hmr, dp⟩ := pick (dps_ex (e3.trans e) dw) h1
      obtain ⟨t, rfl, st⟩ := wr_in dp
      have ev : v = vInt (ws[i + 1]?.map (·.1)) := by
        have h2 : (((ws.drop 1).map (·.1)).map V.int ++ [V.non])[i]? = some v := h2
        by_cases c : i + 1 < ws.length
        · rw [List.getElem?_append_left (by simp only [List.length_map, List.length_drop]; omega), List.getElem?_map, List.getElem?_map, List.getElem?_drop, show 1 + i = i + 1 by omega, List.getElem?_eq_getElem c] at h2
          rw [List.getElem?_eq_getElem c]
          exact (Option.some.inj h2).symm
        · rw [List.getElem?_append_right (by simp only [List.length_map, List.length_drop]; omega)] at h2
          have e0 : i - ((((ws.drop 1).map (·.1)).map V.int).length) = 0 := by simp only [List.length_map, List.length_drop]; omega
          rw [e0] at h2
          rw [List.getElem?_eq_none (by omega)]
          exact (Option.some.inj h2).symm
      subst ev
      have sg : (FP.spells (wt D ws))[i]? = some (r.1, ws[i + 1]?.map (·.1), D.ws.idxOf r.2) := by
        rw [spells_get]
        unfold wt
        rw [List.getElem?_map, List.getElem?_map, hrr]
        cases ws[i + 1]? <;> rfl
      have e4 := Ex.new (o := .tup [.ref t, vInt (ws[i + 1]?.map (·.1))]) ht
      obtain ⟨dx, wi, pl, li, pa, rows, prs, L4⟩ := (hx.ex (e3.trans e)).ex e4
      have mem := ok.nm r hmr
      have hj := List.idxOf_lt_length_of_mem mem
      refine ⟨T0, _, rfl, st_of upd_same, rfl, _, _, rfl, t, _, rfl, ex_t e4 st, rfl, _, _, rfl, _, _, rfl, rfl, _, _, rfl, rfl, rfl, ?_⟩
      refine ⟨_, rfl, _, rfl, _, rfl, x, a.C, dx, _, _, rfl, L4.ob, T.cl, T.nW, fs_winds .., wi, _, rfl, L4.wi, _, rfl, wi, D.ws, _, D.ws.idxOf r.2, rfl, rfl, L4.wi.sq, ?_, fun j hlt q => ?_, by show 3 ≤ sizeLine; decide, fun u hu => ?_⟩
      · rw [List.getElem?_eq_getElem hj]
        exact congrArg some (List.getElem_idxOf hj)
      · have h1 : j < D.ws.length := by omega
        rw [List.getElem?_eq_getElem h1] at q
        have := List.not_of_lt_findIdx (p := (· == r.2)) (xs := D.ws) hlt
        rw [Option.some.inj q] at this
        exact absurd this (by simp)
      have ha4 := e4 _ _ ha
      have uB : u ≠ B := fun q => by rw [q, ha4] at hu; cases hu
      have e5 := e4.trans (Ex.new (o := .tup [.int r.1, vInt (ws[i + 1]?.map (·.1)), .int (D.ws.idxOf r.2 : Nat)]) hu)
      refine ⟨acc, e5 _ _ ha, sz_lt (by omega), (e.trans e5).mut hB, _, upd_same, ?_, by rw [List.length_append, la] <;> rfl⟩
      rw [del_upd, take_one sg, List.map_append]
      exact dps_app (dps_ex (ex_del e5) da) (dps_one (.tup (st_of (del_at uB upd_same)) (.cons (.int _) (.cons (dp_opt _) (.cons (.int _) .nil)))))
    · obtain ⟨e, acc, ha, da, la⟩ := z
      have ls : (FP.spells (wt D ws)).length = us.length := by rw [spells_len]; unfold wt; rw [List.length_map, lu]
      rw [← ls, List.take_length] at da
      exact k B H4 acc (e3.trans e) (fresh_back e3 hB) ha (dps_ex del_ex da)
end
end EV

set_option Elab.async false
set_option linter.all false
set_option maxRecDepth 100000
set_option maxHeartbeats 4000000
namespace EV
open PySem PySem.Spec PyProof.Rows L2 EvS Evl FD EnT
/-! ### a question -/
theorem Ex.up {A B : Hp} {u : Addr} {o : HO} (e : Ex A B) : Ex (upd A u o) (upd B u o) := fun x y h => by
  by_cases q : x = u
  · subst q
    rw [upd_same] at h ⊢
    exact h
  · rw [upd_ne q] at h ⊢
    exact e _ _ h
def qFs (l w s b sp st lv : Addr) : List (Str × V) := putF "leaving" (.ref lv) (putF "stops" (.ref st) (putF "spells" (.ref sp) (putF "breaks" (.ref b) (putF "starts" (.ref s) (putF "weather" (.ref w) (putF "land" (.ref l) []))))))
theorem q_land (l w s b sp st lv : Addr) : (qFs l w s b sp st lv).lookup ("land" : Str) = some (V.ref l) := by
  unfold qFs
  rw [lookup_putF, if_neg (by decide +kernel), lookup_putF, if_neg (by decide +kernel), lookup_putF, if_neg (by decide +kernel), lookup_putF, if_neg (by decide +kernel), lookup_putF, if_neg (by decide +kernel), lookup_putF, if_neg (by decide +kernel), lookup_putF, if_pos rfl]
theorem q_weather (l w s b sp st lv : Addr) : (qFs l w s b sp st lv).lookup ("weather" : Str) = some (V.ref w) := by
  unfold qFs
  rw [lookup_putF, if_neg (by decide +kernel), lookup_putF, if_neg (by decide +kernel), lookup_putF, if_neg (by decide +kernel), lookup_putF, if_neg (by decide +kernel), lookup_putF, if_neg (by decide +kernel), lookup_putF, if_pos rfl]
theorem q_starts (l w s b sp st lv : Addr) : (qFs l w s b sp st lv).lookup ("starts" : Str) = some (V.ref s) := by
  unfold qFs
  rw [lookup_putF, if_neg (by decide +kernel), lookup_putF, if_neg (by decide +kernel), lookup_putF, if_neg (by decide +kernel), lookup_putF, if_neg (by decide +kernel), lookup_putF, if_pos rfl]
theorem q_breaks (l w s b sp st lv : Addr) : (qFs l w s b sp st lv).lookup ("breaks" : Str) = some (V.ref b) := by
  unfold qFs
  rw [lookup_putF, if_neg (by decide +kernel), lookup_putF, if_neg (by decide +kernel), lookup_putF, if_neg (by decide +kernel), lookup_putF, if_pos rfl]
theorem q_spells (l w s b sp st lv : Addr) : (qFs l w s b sp st lv).lookup ("spells" : Str) = some (V.ref sp) := by
  unfold qFs
  rw [lookup_putF, if_neg (by decide +kernel), lookup_putF, if_neg (by decide +kernel), lookup_putF, if_pos rfl]
theorem q_stops (l w s b sp st lv : Addr) : (qFs l w s b sp st lv).lookup ("stops" : Str) = some (V.ref st) := by
  unfold qFs
  rw [lookup_putF, if_neg (by decide +kernel), lookup_putF, if_pos rfl]
theorem q_leaving (l w s b sp st lv : Addr) : (qFs l w s b sp st lv).lookup ("leaving" : Str) = some (V.ref lv) := by
  unfold qFs
  rw [lookup_putF, if_pos rfl]
theorem q_is_ahead (l w s b sp st lv : Addr) : (qFs l w s b sp st lv).lookup ("is_ahead" : Str) = none := by
  unfold qFs
  rw [lookup_putF, if_neg (by decide +kernel), lookup_putF, if_neg (by decide +kernel), lookup_putF, if_neg (by decide +kernel), lookup_putF, if_neg (by decide +kernel), lookup_putF, if_neg (by decide +kernel), lookup_putF, if_neg (by decide +kernel), lookup_putF, if_neg (by decide +kernel)]
  rfl
theorem q_through (l w s b sp st lv : Addr) : (qFs l w s b sp st lv).lookup ("through" : Str) = none := by
  unfold qFs
  rw [lookup_putF, if_neg (by decide +kernel), lookup_putF, if_neg (by decide +kernel), lookup_putF, if_neg (by decide +kernel), lookup_putF, if_neg (by decide +kernel), lookup_putF, if_neg (by decide +kernel), lookup_putF, if_neg (by decide +kernel), lookup_putF, if_neg (by decide +kernel)]
  rfl
theorem q_catches (l w s b sp st lv : Addr) : (qFs l w s b sp st lv).lookup ("catches" : Str) = none := by
  unfold qFs
  rw [lookup_putF, if_neg (by decide +kernel), lookup_putF, if_neg (by decide +kernel), lookup_putF, if_neg (by decide +kernel), lookup_putF, if_neg (by decide +kernel), lookup_putF, if_neg (by decide +kernel), lookup_putF, if_neg (by decide +kernel), lookup_putF, if_neg (by decide +kernel)]
  rfl
theorem q_first_minutes (l w s b sp st lv : Addr) : (qFs l w s b sp st lv).lookup ("first_minutes" : Str) = none := by
  unfold qFs
  rw [lookup_putF, if_neg (by decide +kernel), lookup_putF, if_neg (by decide +kernel), lookup_putF, if_neg (by decide +kernel), lookup_putF, if_neg (by decide +kernel), lookup_putF, if_neg (by decide +kernel), lookup_putF, if_neg (by decide +kernel), lookup_putF, if_neg (by decide +kernel)]
  rfl
def outL (ls : List Link) (p : Str) (n : Nat) : List (Nat × Link) := (List.range n).filterMap fun j => (ls[j]?).bind fun k => if k.o = p then some (j, k) else none
theorem outL_next {ls : List Link} {p : Str} {n : Nat} {k : Link} (h : ls[n]? = some k) : outL ls p (n + 1) = outL ls p n ++ if k.o = p then [(n, k)] else [] := by
  unfold outL
  rw [List.range_succ, List.filterMap_append]
  congr 1
  rw [List.filterMap_cons, List.filterMap_nil, h, Option.bind_some]
  by_cases c : k.o = p
  · simp only [if_pos c]
  · simp only [if_neg c]
theorem outL_mem {ls : List Link} {p : Str} {n j : Nat} {k : Link} : (j, k) ∈ outL ls p n ↔ j < n ∧ ls[j]? = some k ∧ k.o = p := by
  unfold outL
  rw [List.mem_filterMap]
  constructor
  · rintro ⟨i, hi, h⟩
    obtain ⟨q, hq, h⟩ := Option.bind_eq_some_iff.mp h
    split at h
    · rename_i c
      cases h
      exact ⟨List.mem_range.mp hi, hq, c⟩
    · cases h
  · rintro ⟨h1, h2, h3⟩
    exact ⟨j, List.mem_range.mpr h1, by rw [h2]; exact if_pos h3⟩
theorem outL_len (ls : List Link) (p : Str) (n : Nat) : (outL ls p n).length ≤ n := by
  refine Nat.le_trans (List.length_filterMap_le _ _) ?_
  rw [List.length_range]
  exact Nat.le_refl _
def dNl (r : Nat × Link) : PyData := .tuple [.int (r.1 : Nat), dLink r.2]
structure QAt (K : PySem.W.Frag) (C CQ : Addr) (H : Hp) (x : Addr) (D : LandD) (ws : List (Int × Str)) (sts bs : List (Str × Int)) (dx l w s b sp st lv : Addr) (us ss bb acc : List V) (kvs : List (Key × V)) : Prop where
  ob : H x = some (.ins CQ dx (qFs l w s b sp st lv))
  ld : IsLand K C H l D
  hw : SqL K H w us
  dw : DpAll K H us (ws.map dWr)
  hs : SqL K H s ss
  ds : DpAll K H ss (sts.map dPm)
  hb : SqL K H b bb
  db : DpAll K H bb (bs.map dPm)
  sp : SqL K H sp acc
  da : DpAll K H acc ((FP.spells (wt D ws)).map dSp)
  st : Tab H st (FP.minOf bs)
  lv : H lv = some (.dK kvs)
  lk : ∀ p ∈ D.ps, ∃ c ys, valV kvs (.inr p) = some (.ref c) ∧ SqL K H c ys ∧ DpAll K H ys ((outL D.ls p D.ls.length).map dNl)
def IsQ (K : PySem.W.Frag) (C CQ : Addr) (H : Hp) (x : Addr) (D : LandD) (ws : List (Int × Str)) (sts bs : List (Str × Int)) : Prop := ∃ dx l w s b sp st lv us ss bb acc kvs, QAt K C CQ H x D ws sts bs dx l w s b sp st lv us ss bb acc kvs
theorem IsQ.ex {K : PySem.W.Frag} {C CQ : Addr} {H H' : Hp} {x : Addr} {D : LandD} {ws : List (Int × Str)} {sts bs : List (Str × Int)} (e : Ex H H') (h : IsQ K C CQ H x D ws sts bs) : IsQ K C CQ H' x D ws sts bs := by
  obtain ⟨dx, l, w, s, b, sp, st, lv, us, ss, bb, acc, kvs, Q⟩ := h
  refine ⟨dx, l, w, s, b, sp, st, lv, us, ss, bb, acc, kvs, e _ _ Q.ob, Q.ld.ex e, ex_l e Q.hw, dps_ex e Q.dw, ex_l e Q.hs, dps_ex e Q.ds, ex_l e Q.hb, dps_ex e Q.db, ex_l e Q.sp, dps_ex e Q.da, Q.st.ex e, e _ _ Q.lv, fun p hp => ?_⟩
  obtain ⟨c, ys, h1, h2, h3⟩ := Q.lk p hp
  exact ⟨c, ys, h1, ex_l e h2, dps_ex e h3⟩
/-- no tuple -/
def NoT (o : HO) : Prop := (∀ xs, o ≠ .tup xs) ∧ ∀ q xs, o ≠ .frz q (.tup xs)
/-- a heap without x and without g -/
def dl2 (x g : Addr) (H : Hp) : Hp := del (del H x) g
theorem dl2_upd {x g : Addr} {H : Hp} {o : HO} : dl2 x g (upd H x o) = dl2 x g H := congrArg (del · g) del_upd
theorem dl2_ex {x g : Addr} {H : Hp} : Ex (dl2 x g H) H := del_ex.trans del_ex
theorem ex_dl2 {x g : Addr} {H H' : Hp} (e : Ex H H') : Ex (dl2 x g H) (dl2 x g H') := ex_del (ex_del e)
theorem ex_to_dl2 {x g : Addr} {H H' : Hp} (e : Ex H H') (hx : H x = none) (hg : H g = none) : Ex H (dl2 x g H') := ex_to_del (ex_to_del e hx) hg
theorem dl2_at {x g a : Addr} {H : Hp} {o : HO} (n : a ≠ x) (m : a ≠ g) (h : H a = some o) : dl2 x g H a = some o := del_at m (del_at n h)
theorem dl2_none {x g a : Addr} {H : Hp} (h : H a = none) : dl2 x g H a = none := by
  unfold dl2 del
  split
  · rfl
  · split
    · rfl
    · exact h
theorem dl2_x {x g : Addr} {H : Hp} : dl2 x g H x = none := by
  unfold dl2 del
  split
  · rfl
  · exact if_pos rfl
theorem dl2_g {x g : Addr} {H : Hp} : dl2 x g H g = none := if_pos rfl
def sp_Question_init (K : PySem.W.Frag) (C CQ : Addr) : Sp := fun vs H Q _ => ∃ (H0 : Hp) (g x dx l w s b : Addr) (oD : HO) (D : LandD) (ws : List (Int × Str)) (sts bs : List (Str × Int)) (us ss bb : List V), vs = [.ref x, .ref l, .ref w, .ref s, .ref b] ∧ Ex H0 H ∧ H0 x = none ∧ H x = some (.ins CQ dx []) ∧ H0 g = none ∧ H g = some oD ∧ NoT oD ∧ g ≠ x ∧
  IsLand K C H0 l D ∧ LandOk D ∧ SqL K H0 w us ∧ DpAll K H0 us (ws.map dWr) ∧ WOk D ws ∧ SqL K H0 s ss ∧ DpAll K H0 ss (sts.map dPm) ∧ sts.length ≤ 1000 ∧ SqL K H0 b bb ∧ DpAll K H0 bb (bs.map dPm) ∧ bs.length ≤ 1000 ∧
  ∀ H', Ex H0 H' → H' g = some oD → IsQ K C CQ (del H' g) x D ws sts bs → Q .non H'
theorem frozen_spells (l : FP.Wt) : frozenAll ((FP.spells l).map dSp) = true := frozenAll_of fun d hd => by
  obtain ⟨b, _, rfl⟩ := List.mem_map.mp hd
  exact frozen_sp b
/-- tuples stand, though an instance goes -/
theorem exT_del {H : Hp} {x C dx : Addr} {fs : List (Str × V)} (h : H x = some (.ins C dx fs)) : ExT H (del H x) := fun a xs r => by
  have ne : ∀ {u : HO}, H a = some u → (∀ C dx fs, u ≠ .ins C dx fs) → a ≠ x := fun {u} e n q => by
    subst q
    rw [h] at e
    exact n _ _ _ (Option.some.inj e).symm
  rcases r with r | ⟨o, r⟩
  · exact .inl (del_at (ne r fun _ _ _ z => by cases z) r)
  · exact .inr ⟨o, del_at (ne r fun _ _ _ z => by cases z) r⟩
theorem exT_delT {H : Hp} {g : Addr} {o : HO} (h : H g = some o) (n : NoT o) : ExT H (del H g) := fun a xs r => by
  rcases r with r | ⟨q, r⟩
  · exact .inl (del_at (fun z => by subst z; rw [h] at r; exact n.1 _ (Option.some.inj r)) r)
  · exact .inr ⟨q, del_at (fun z => by subst z; rw [h] at r; exact n.2 _ _ (Option.some.inj r)) r⟩
theorem exT_dl2 {H : Hp} {x g C dx : Addr} {fs : List (Str × V)} {o : HO} (h : H x = some (.ins C dx fs)) (hg : H g = some o) (n : NoT o) (gx : g ≠ x) : ExT H (dl2 x g H) := (exT_del h).trans (exT_delT (del_at gx hg) n)
section
variable {P : Program} {w : World} {K : PySem.W.Frag} {mg : Str → Option Value} {base : Heap} {a : Ad}
theorem G_Question_init (T : Txt K mg a) : FnOk P w K mg base CX0 2 a.f_Question_init a.d_Question_init ["self", "land", "weather", "starts", "breaks"] (sp_Question_init K a.C a.C_Question) := by
  refine T.F_Question_init.ok sc_Question_init (fun vs H Q E h => ?_) (fun cdv A outer s H vs Q E hr h => ?_)
  · obtain ⟨H0, g, x, dx, l, w, s, b, oD, D, ws, sts, bs, us, ss, bb, rfl, _⟩ := h
    rfl
  · obtain ⟨H0, g, x, dx, l, w, s, b, oD, D, ws, sts, bs, us, ss, bb, rfl, e0, x0, hx, g0, hg, nT, gx, hl, ok, hw, dw, wok, hs, ds, ls, hb, db, lb, k⟩ := h
    have lu := dps_len dw
    rw [List.length_map] at lu
    have lss := dps_len ds
    rw [List.length_map] at lss
    have lbb := dps_len db
    rw [List.length_map] at lbb
    have l40 := wok.l40
    refine ⟨_, (pss_cons (ps_fld (pv 0) (pv 1) rfl)
      (pss_cons (ps_fld (pv 0) (pe_callTy call_lstK (by rfl) T.z_list (by decide +kernel) (pa_cons (pv 2) pa_nil)) rfl)
      (pss_cons (ps_fld (pv 0) (pe_lc (own := [("start", 7)]) (g := gName 7) (tt := tYes) rfl sc_Question_init.nd (pi_list (pv 3)) (blkOk_by (N := ["self", "land", "weather", "starts", "breaks", "number", "link", "start", "told", "place"]) (sc := defScope s_Question_init) (by decide +kernel)) (fun _ _ _ _ _ => pg_name (i := 7) sc_Question_init.nd rfl (Or.inl rfl)) (fun _ _ _ _ _ => pts_nil) (fun _ _ _ _ _ => (pe_callTy (show CallR _ _ (rTupK K) from call_tupK) (by rfl) T.z_tuple (by decide +kernel) (pa_cons (pv 7) pa_nil)))) rfl)
      (pss_cons (ps_fld (pv 0) (pe_lc (own := [("told", 8)]) (g := gName 8) (tt := tYes) rfl sc_Question_init.nd (pi_list (pv 4)) (blkOk_by (N := ["self", "land", "weather", "starts", "breaks", "number", "link", "start", "told", "place"]) (sc := defScope s_Question_init) (by decide +kernel)) (fun _ _ _ _ _ => pg_name (i := 8) sc_Question_init.nd rfl (Or.inl rfl)) (fun _ _ _ _ _ => pts_nil) (fun _ _ _ _ _ => (pe_callTy (show CallR _ _ (rTupK K) from call_tupK) (by rfl) T.z_tuple (by decide +kernel) (pa_cons (pv 8) pa_nil)))) rfl)
      (pss_cons (ps_fld (pv 0) (pe_call (G_spells_of T) (hr.mono (by decide)) (by rfl) T.g_spells_of T.k_spells_of T.B_spells_of .nil pass0 (pa_cons (pv 1) (pa_cons (pv 2) pa_nil))) rfl)
      (pss_cons (ps_fld (pv 0) (pe_call (G_least_minutes T) (hr.mono (by decide)) (by rfl) T.g_least_minutes T.k_least_minutes T.B_least_minutes .nil pass0 (pa_cons (pv 4) pa_nil)) rfl)
      (pss_cons (ps_fld (pv 0) (pe_dc (own := [("place", 9)]) (g := gName 9) (tt := tYes) rfl sc_Question_init.nd (pi_tup (pe_fld (pv 1) rfl)) (blkOk_by (N := ["self", "land", "weather", "starts", "breaks", "number", "link", "start", "told", "place"]) (sc := defScope s_Question_init) (by decide +kernel)) (fun _ _ _ _ _ => pg_name (i := 9) sc_Question_init.nd rfl (Or.inl rfl)) (fun _ _ _ _ _ => pts_nil) (fun _ _ _ _ _ => (pv 9)) (fun _ _ _ _ _ => (pe_lst pa_nil))) rfl)
      (pss_one (ps_for PassesOwn.never rfl (EnT.pi_enumT (by rfl) T.z_enumerate (pa_cons (pe_fld (pv 1) rfl) pa_nil)) (pg_tup (by rfl) (pgs_cons (pg_name (i := 5) sc_Question_init.nd rfl (Or.inl rfl)) (pgs_cons (pg_name (i := 6) sc_Question_init.nd rfl (Or.inl rfl)) pgs_nil))) (pss_one (ps_expr (pe_bm PySem.F.plainAttrs_list PySem.F.slot_list_append PySem.F.type_list_append mt_append (pe_dget (hu_of hr) (pe_fld (pv 0) rfl) (pe_ix ix_tup (pv 6) pe_int (fun _ _ => rfl)) (fun _ _ => rfl)) (pa_cons (pe_tup (pa_cons (pv 5) (pa_cons (pv 6) pa_nil))) pa_nil))))))))))))), ?_⟩
    -- B: the heap without x
    have b0 : Ex H0 (dl2 x g H) := ex_to_dl2 e0 x0 g0
    -- land
    refine ⟨_, rfl, _, rfl, x, a.C_Question, dx, [], rfl, hx, T.cl_Question, T.na_Question_land, by decide, ?_⟩
    have b1 : Ex H0 (dl2 x g (upd H x (.ins a.C_Question dx (putF "land" (.ref l) [])))) := by rw [dl2_upd]; exact b0
    have hx1 : (upd H x (.ins a.C_Question dx (putF "land" (.ref l) []))) x = some (.ins a.C_Question dx (putF "land" (.ref l) [])) := upd_same
    have hg1 : (upd H x (.ins a.C_Question dx (putF "land" (.ref l) []))) g = some oD := by rw [upd_ne gx]; exact hg
    generalize upd H x (.ins a.C_Question dx (putF "land" (.ref l) [])) = H1 at b1 hx1 hg1
    -- weather
    refine ⟨_, rfl, w, us, rfl, .inl (ex_l (b1.trans dl2_ex) hw), fun w' hw' => ?_⟩
    refine ⟨_, rfl, x, a.C_Question, dx, _, rfl, Ex.new hw' _ _ hx1, T.cl_Question, T.na_Question_weather, by show 1 < 1000; decide, ?_⟩
    have wg : w' ≠ g := fun q => by rw [q, hg1] at hw'; cases hw'
    have wx : w' ≠ x := fun q => by rw [q, hx1] at hw'; cases hw'
    have b2 : Ex (dl2 x g H1) (dl2 x g (upd (upd H1 w' (.lst us)) x (.ins a.C_Question dx (putF "weather" (.ref w') (putF "land" (.ref l) []))))) := by rw [dl2_upd]; exact ex_dl2 (Ex.new hw')
    have mw : (dl2 x g (upd (upd H1 w' (.lst us)) x (.ins a.C_Question dx (putF "weather" (.ref w') (putF "land" (.ref l) []))))) w' = some (.lst us) := by rw [dl2_upd]; exact dl2_at wx wg upd_same
    have hx2 : (upd (upd H1 w' (.lst us)) x (.ins a.C_Question dx (putF "weather" (.ref w') (putF "land" (.ref l) [])))) x = some (.ins a.C_Question dx (putF "weather" (.ref w') (putF "land" (.ref l) []))) := upd_same
    have hgH2 : (upd (upd H1 w' (.lst us)) x (.ins a.C_Question dx (putF "weather" (.ref w') (putF "land" (.ref l) [])))) g = some oD := by rw [upd_ne gx]; exact Ex.new hw' _ _ hg1
    generalize upd (upd H1 w' (.lst us)) x (.ins a.C_Question dx (putF "weather" (.ref w') (putF "land" (.ref l) []))) = H2 at b2 mw hx2 hgH2
    -- starts
    have f2 : Ex H0 (dl2 x g H2) := b1.trans b2
    refine ⟨_, rfl, s, rfl, ⟨_, ex_l (f2.trans dl2_ex) hs⟩, fun s' hs' => lcY_list (K := K) (a := s) (xs := ss) (fun i H' => Ex H2 H' ∧ H' s' = some (.lst (ss.take i))) ⟨Ex.new hs', upd_same⟩ (fun i H' _ z => ex_l ((f2.trans dl2_ex).trans z.1) hs) (fun i y H' hy z => ?_) (fun H3 z => ?_)⟩
    · have hi := (List.getElem?_eq_some_iff.mp hy).1
      obtain ⟨r, hrr, hmr, dp⟩ := pick (dps_ex ((f2.trans dl2_ex).trans z.1) ds) hy
      obtain ⟨t, rfl, st⟩ := pm_in dp
      refine ⟨rfl, _, rfl, t, _, rfl, .inr ⟨st, _, z.2, sz_lt (by simp only [List.length_take]; omega), z.1.mut hs', ?_⟩⟩
      rw [upd_same, take_one hy]
    obtain ⟨e3, ms⟩ := z
    rw [List.take_length] at ms
    refine ⟨_, rfl, x, a.C_Question, dx, _, rfl, e3 _ _ hx2, T.cl_Question, T.na_Question_starts, by show 2 < 1000; decide, ?_⟩
    have sg : s' ≠ g := fun q => by rw [q, hgH2] at hs'; cases hs'
    have sx : s' ≠ x := fun q => by rw [q, hx2] at hs'; cases hs'
    have b3 : Ex (dl2 x g H2) (dl2 x g (upd H3 x (.ins a.C_Question dx (putF "starts" (.ref s') (putF "weather" (.ref w') (putF "land" (.ref l) [])))))) := by rw [dl2_upd]; exact ex_dl2 e3
    have ms3 : (dl2 x g (upd H3 x (.ins a.C_Question dx (putF "starts" (.ref s') (putF "weather" (.ref w') (putF "land" (.ref l) [])))))) s' = some (.lst ss) := by rw [dl2_upd]; exact dl2_at sx sg ms
    have hx3 : (upd H3 x (.ins a.C_Question dx (putF "starts" (.ref s') (putF "weather" (.ref w') (putF "land" (.ref l) []))))) x = some (.ins a.C_Question dx (putF "starts" (.ref s') (putF "weather" (.ref w') (putF "land" (.ref l) [])))) := upd_same
    have hgH4 : (upd H3 x (.ins a.C_Question dx (putF "starts" (.ref s') (putF "weather" (.ref w') (putF "land" (.ref l) []))))) g = some oD := by rw [upd_ne gx]; exact e3 _ _ hgH2
    generalize upd H3 x (.ins a.C_Question dx (putF "starts" (.ref s') (putF "weather" (.ref w') (putF "land" (.ref l) [])))) = H4 at b3 ms3 hx3 hgH4
    clear e3 ms
    -- breaks
    have f3 : Ex H0 (dl2 x g H4) := f2.trans b3
    refine ⟨_, rfl, b, rfl, ⟨_, ex_l (f3.trans dl2_ex) hb⟩, fun b' hb' => lcY_list (K := K) (a := b) (xs := bb) (fun i H' => Ex H4 H' ∧ H' b' = some (.lst (bb.take i))) ⟨Ex.new hb', upd_same⟩ (fun i H' _ z => ex_l ((f3.trans dl2_ex).trans z.1) hb) (fun i y H' hy z => ?_) (fun H5 z => ?_)⟩
    · have hi := (List.getElem?_eq_some_iff.mp hy).1
      obtain ⟨r, hrr, hmr, dp⟩ := pick (dps_ex ((f3.trans dl2_ex).trans z.1) db) hy
      obtain ⟨t, rfl, st⟩ := pm_in dp
      refine ⟨rfl, _, rfl, t, _, rfl, .inr ⟨st, _, z.2, sz_lt (by simp only [List.length_take]; omega), z.1.mut hb', ?_⟩⟩
      rw [upd_same, take_one hy]
    obtain ⟨e4, mb⟩ := z
    rw [List.take_length] at mb
    refine ⟨_, rfl, x, a.C_Question, dx, _, rfl, e4 _ _ hx3, T.cl_Question, T.na_Question_breaks, by show 3 < 1000; decide, ?_⟩
    have bg : b' ≠ g := fun q => by rw [q, hgH4] at hb'; cases hb'
    have bx : b' ≠ x := fun q => by rw [q, hx3] at hb'; cases hb'
    have b4 : Ex (dl2 x g H4) (dl2 x g (upd H5 x (.ins a.C_Question dx (putF "breaks" (.ref b') (putF "starts" (.ref s') (putF "weather" (.ref w') (putF "land" (.ref l) []))))))) := by rw [dl2_upd]; exact ex_dl2 e4
    have mb4 : (dl2 x g (upd H5 x (.ins a.C_Question dx (putF "breaks" (.ref b') (putF "starts" (.ref s') (putF "weather" (.ref w') (putF "land" (.ref l) []))))))) b' = some (.lst bb) := by rw [dl2_upd]; exact dl2_at bx bg mb
    have hx4 : (upd H5 x (.ins a.C_Question dx (putF "breaks" (.ref b') (putF "starts" (.ref s') (putF "weather" (.ref w') (putF "land" (.ref l) [])))))) x = some (.ins a.C_Question dx (putF "breaks" (.ref b') (putF "starts" (.ref s') (putF "weather" (.ref w') (putF "land" (.ref l) []))))) := upd_same
    have hgH6 : (upd H5 x (.ins a.C_Question dx (putF "breaks" (.ref b') (putF "starts" (.ref s') (putF "weather" (.ref w') (putF "land" (.ref l) [])))))) g = some oD := by rw [upd_ne gx]; exact e4 _ _ hgH4
    generalize upd H5 x (.ins a.C_Question dx (putF "breaks" (.ref b') (putF "starts" (.ref s') (putF "weather" (.ref w') (putF "land" (.ref l) []))))) = H6 at b4 mb4 hx4 hgH6
    clear e4 mb
    -- spells
    have f4 : Ex H0 (dl2 x g H6) := f3.trans b4
    have g4 := f4.trans dl2_ex
    refine ⟨_, rfl, _, rfl, l, w, D, us, ws, rfl, hl.ex g4, ex_l g4 hw, dps_ex g4 dw, wok, fun sp H7 acc e5 sp0 msp dsp => ?_⟩
    refine ⟨_, rfl, x, a.C_Question, dx, _, rfl, e5 _ _ hx4, T.cl_Question, T.na_Question_spells, by show 4 < 1000; decide, ?_⟩
    have spg : sp ≠ g := fun q => by rw [q, hgH6] at sp0; cases sp0
    have spx : sp ≠ x := fun q => by rw [q, hx4] at sp0; cases sp0
    have b5 : Ex (dl2 x g H6) (dl2 x g (upd H7 x (.ins a.C_Question dx (putF "spells" (.ref sp) (putF "breaks" (.ref b') (putF "starts" (.ref s') (putF "weather" (.ref w') (putF "land" (.ref l) [])))))))) := by rw [dl2_upd]; exact ex_dl2 e5
    have msp5 : (dl2 x g (upd H7 x (.ins a.C_Question dx (putF "spells" (.ref sp) (putF "breaks" (.ref b') (putF "starts" (.ref s') (putF "weather" (.ref w') (putF "land" (.ref l) [])))))))) sp = some (.lst acc) := by rw [dl2_upd]; exact dl2_at spx spg msp
    have dsp5 : DpAll K (dl2 x g (upd H7 x (.ins a.C_Question dx (putF "spells" (.ref sp) (putF "breaks" (.ref b') (putF "starts" (.ref s') (putF "weather" (.ref w') (putF "land" (.ref l) [])))))))) acc ((FP.spells (wt D ws)).map dSp) := by rw [dl2_upd]; exact dps_exT (exT_dl2 (e5 _ _ hx4) (e5 _ _ hgH6) nT gx) dsp (frozen_spells _)
    have hx5 : (upd H7 x (.ins a.C_Question dx (putF "spells" (.ref sp) (putF "breaks" (.ref b') (putF "starts" (.ref s') (putF "weather" (.ref w') (putF "land" (.ref l) []))))))) x = some (.ins a.C_Question dx (putF "spells" (.ref sp) (putF "breaks" (.ref b') (putF "starts" (.ref s') (putF "weather" (.ref w') (putF "land" (.ref l) [])))))) := upd_same
    have hgH8 : (upd H7 x (.ins a.C_Question dx (putF "spells" (.ref sp) (putF "breaks" (.ref b') (putF "starts" (.ref s') (putF "weather" (.ref w') (putF "land" (.ref l) []))))))) g = some oD := by rw [upd_ne gx]; exact e5 _ _ hgH6
    generalize upd H7 x (.ins a.C_Question dx (putF "spells" (.ref sp) (putF "breaks" (.ref b') (putF "starts" (.ref s') (putF "weather" (.ref w') (putF "land" (.ref l) [])))))) = H8 at b5 msp5 dsp5 hx5 hgH8
    clear e5 msp dsp
    -- stops
    have f5 : Ex H0 (dl2 x g H8) := f4.trans b5
    have g5 := f5.trans dl2_ex
    refine ⟨_, rfl, b, bb, bs, rfl, ex_l g5 hb, dps_ex g5 db, lb, fun st H9 e6 st0 tst => ?_⟩
    refine ⟨_, rfl, x, a.C_Question, dx, _, rfl, e6 _ _ hx5, T.cl_Question, T.na_Question_stops, by show 5 < 1000; decide, ?_⟩
    have stg : st ≠ g := fun q => by rw [q, hgH8] at st0; cases st0
    have stx : st ≠ x := fun q => by rw [q, hx5] at st0; cases st0
    have b6 : Ex (dl2 x g H8) (dl2 x g (upd H9 x (.ins a.C_Question dx (putF "stops" (.ref st) (putF "spells" (.ref sp) (putF "breaks" (.ref b') (putF "starts" (.ref s') (putF "weather" (.ref w') (putF "land" (.ref l) []))))))))) := by rw [dl2_upd]; exact ex_dl2 e6
    have tst6 : Tab (dl2 x g (upd H9 x (.ins a.C_Question dx (putF "stops" (.ref st) (putF "spells" (.ref sp) (putF "breaks" (.ref b') (putF "starts" (.ref s') (putF "weather" (.ref w') (putF "land" (.ref l) []))))))))) st (FP.minOf bs) := by
      rw [dl2_upd]
      obtain ⟨kv, h1, h2, h3⟩ := tst
      exact ⟨kv, dl2_at stx stg h1, h2, h3⟩
    have hx6 : (upd H9 x (.ins a.C_Question dx (putF "stops" (.ref st) (putF "spells" (.ref sp) (putF "breaks" (.ref b') (putF "starts" (.ref s') (putF "weather" (.ref w') (putF "land" (.ref l) [])))))))) x = some (.ins a.C_Question dx (putF "stops" (.ref st) (putF "spells" (.ref sp) (putF "breaks" (.ref b') (putF "starts" (.ref s') (putF "weather" (.ref w') (putF "land" (.ref l) []))))))) := upd_same
    have hgHA : (upd H9 x (.ins a.C_Question dx (putF "stops" (.ref st) (putF "spells" (.ref sp) (putF "breaks" (.ref b') (putF "starts" (.ref s') (putF "weather" (.ref w') (putF "land" (.ref l) [])))))))) g = some oD := by rw [upd_ne gx]; exact e6 _ _ hgH8
    generalize upd H9 x (.ins a.C_Question dx (putF "stops" (.ref st) (putF "spells" (.ref sp) (putF "breaks" (.ref b') (putF "starts" (.ref s') (putF "weather" (.ref w') (putF "land" (.ref l) []))))))) = HA at b6 tst6 hx6 hgHA
    clear e6 tst
    -- leaving
    have f6 : Ex H0 (dl2 x g HA) := f5.trans b6
    have g6 := f6.trans dl2_ex
    obtain ⟨dxl, wi, pl, li, pa, rows, prs, L⟩ := hl.ex g6
    refine ⟨_, rfl, l, a.C, dxl, _, _, rfl, L.ob, T.cl, T.nP, fs_places .., pl, rfl, ⟨_, L.pl⟩, fun D0 hD => dcY_it (walk_tup (K := K) (a := pl) (xs := D.ps.map V.str)) (fun i H' => Ex HA H' ∧ ∃ kvs : List (Key × V), H' D0 = some (.dK kvs) ∧ kvs.length ≤ i ∧ (∀ p c, valV kvs (.inr p) = some (.ref c) → H' c = some (.lst []) ∧ HA c = none ∧ c ≠ D0) ∧
      (∀ p q c, valV kvs (.inr p) = some (.ref c) → valV kvs (.inr q) = some (.ref c) → p = q) ∧ ∀ p ∈ D.ps.take i, ∃ c, valV kvs (.inr p) = some (.ref c)) ⟨Ex.new hD, [], upd_same, Nat.le_refl _, (fun p c h => by cases h), (fun p q c h => by cases h), (fun p hp => by cases hp)⟩ (fun i H' _ z => ex_t z.1 L.pl) (fun i y H' H'' hi z yy => ?_) (fun HB z => ?_)⟩
    · obtain ⟨rfl, hy⟩ := yy
      obtain ⟨e, kvs, hk, lk, iA, iC, iB⟩ := z
      rw [List.getElem?_map] at hy
      obtain ⟨p, hp, rfl⟩ := Option.map_eq_some_iff.mp hy
      rw [List.length_map] at hi
      have p24 := ok.p24
      refine ⟨rfl, _, rfl, by show 0 ≤ sizeLine; decide, fun c hc => ?_⟩
      have cD : c ≠ D0 := fun q => by rw [q, hk] at hc; cases hc
      have hk2 := Ex.new (o := .lst []) hc _ _ hk
      have lp := length_putK kvs (Sum.inr p) (V.ref c)
      refine ⟨kvs, .inr p, rfl, hk2, sz_lt (by omega), (e.trans (Ex.new hc)).mut hD, putK kvs (.inr p) (.ref c), upd_same, by omega, fun q d hq => ?_, fun q q' d hq hq' => ?_, fun q hq => ?_⟩
      · rw [valV_put] at hq
        by_cases z : (Sum.inr q : Key) = Sum.inr p
        · rw [if_pos z] at hq
          cases hq
          exact ⟨by rw [upd_ne cD]; exact upd_same, fresh_back e hc, cD⟩
        · rw [if_neg z] at hq
          obtain ⟨h1, h2, h3⟩ := iA q d hq
          exact ⟨by rw [upd_ne h3]; exact Ex.new hc _ _ h1, h2, h3⟩
      · have nc : ∀ {z : Str}, valV kvs (.inr z) = some (.ref c) → False := fun {z} h => by
          have h1 := (iA z c h).1
          rw [hc] at h1
          cases h1
        rw [valV_put] at hq hq'
        by_cases z : (Sum.inr q : Key) = Sum.inr p
        · by_cases z' : (Sum.inr q' : Key) = Sum.inr p
          · rw [Sum.inr.inj z, Sum.inr.inj z']
          · rw [if_pos z] at hq
            rw [if_neg z'] at hq'
            cases hq
            exact (nc hq').elim
        · rw [if_neg z] at hq
          by_cases z' : (Sum.inr q' : Key) = Sum.inr p
          · rw [if_pos z'] at hq'
            cases hq'
            exact (nc hq).elim
          · rw [if_neg z'] at hq'
            exact iC q q' d hq hq'
      · rw [take_one hp] at hq
        rw [valV_put]
        by_cases z : (Sum.inr q : Key) = Sum.inr p
        · exact ⟨c, if_pos z⟩
        · rw [if_neg z]
          rcases List.mem_append.mp hq with h | h
          · exact iB q h
          · rw [List.mem_singleton.mp h] at z
            exact absurd rfl z
    obtain ⟨e7, kvs, hk, lk, iA, iC, iB⟩ := z
    rw [List.length_map] at iB lk
    rw [List.take_length] at iB
    refine ⟨_, rfl, x, a.C_Question, dx, _, rfl, e7 _ _ hx6, T.cl_Question, T.na_Question_leaving, by show 6 < 1000; decide, ?_⟩
    have D0x : D0 ≠ x := fun q => by rw [q, hx6] at hD; cases hD
    have cx : ∀ {c : Addr}, HA c = none → c ≠ x := fun {c} h q => by rw [q, hx6] at h; cases h
    have bB : Ex (dl2 x g HA) (upd HB x (.ins a.C_Question dx (putF "leaving" (.ref D0) (putF "stops" (.ref st) (putF "spells" (.ref sp) (putF "breaks" (.ref b') (putF "starts" (.ref s') (putF "weather" (.ref w') (putF "land" (.ref l) []))))))))) := (dl2_ex.trans e7).mut dl2_x
    have hxB : (upd HB x (.ins a.C_Question dx (putF "leaving" (.ref D0) (putF "stops" (.ref st) (putF "spells" (.ref sp) (putF "breaks" (.ref b') (putF "starts" (.ref s') (putF "weather" (.ref w') (putF "land" (.ref l) []))))))))) x = some (.ins a.C_Question dx (qFs l w' s' b' sp st D0)) := upd_same
    have hkB : (upd HB x (.ins a.C_Question dx (putF "leaving" (.ref D0) (putF "stops" (.ref st) (putF "spells" (.ref sp) (putF "breaks" (.ref b') (putF "starts" (.ref s') (putF "weather" (.ref w') (putF "land" (.ref l) []))))))))) D0 = some (.dK kvs) := by rw [upd_ne D0x]; exact hk
    have iA2 : ∀ p c, valV kvs (.inr p) = some (.ref c) → (upd HB x (.ins a.C_Question dx (putF "leaving" (.ref D0) (putF "stops" (.ref st) (putF "spells" (.ref sp) (putF "breaks" (.ref b') (putF "starts" (.ref s') (putF "weather" (.ref w') (putF "land" (.ref l) []))))))))) c = some (.lst []) ∧ (dl2 x g HA) c = none := fun p c h => by
      obtain ⟨h1, h2, h3⟩ := iA p c h
      exact ⟨by rw [upd_ne (cx h2)]; exact h1, dl2_none h2⟩
    have hgHC : (upd HB x (.ins a.C_Question dx (putF "leaving" (.ref D0) (putF "stops" (.ref st) (putF "spells" (.ref sp) (putF "breaks" (.ref b') (putF "starts" (.ref s') (putF "weather" (.ref w') (putF "land" (.ref l) []))))))))) g = some oD := by rw [upd_ne gx]; exact e7 _ _ hgHA
    generalize upd HB x (.ins a.C_Question dx (putF "leaving" (.ref D0) (putF "stops" (.ref st) (putF "spells" (.ref sp) (putF "breaks" (.ref b') (putF "starts" (.ref s') (putF "weather" (.ref w') (putF "land" (.ref l) [])))))))) = HC at bB hxB hkB iA2 hgHC
    have cg : ∀ p c, valV kvs (.inr p) = some (.ref c) → c ≠ g := fun p c h q => by
      have h2 := (iA p c h).2.1
      rw [q, hgHA] at h2
      cases h2
    have D0g : D0 ≠ g := fun q => by rw [q, hgHA] at hD; cases hD
    clear iA e7 hk
    have f7 : Ex H0 HC := f6.trans bB
    obtain ⟨dxl, wi, pl, li, pa, rows, prs, L⟩ := hl.ex f6
    have lr := dps_len L.ls
    rw [List.length_map] at lr
    have l60 := ok.l60
    refine ⟨_, rfl, l, a.C, dxl, _, _, rfl, bB _ _ L.ob, T.cl, T.nL, fs_links .., li, rows, rfl, ex_t bB L.li, for_it (walk_enumT (K := K) (a := li) (xs := rows)) (fun i σ H' => ∃ (v5 v6 : Option V) (Bi : Hp), σ = [some (.ref x), some (.ref l), some (.ref w), some (.ref s), some (.ref b), v5, v6, none, none, none] ∧ Ex (dl2 x g HA) Bi ∧ Ex Bi H' ∧ Bi g = none ∧ H' g = some oD ∧ H' x = some (.ins a.C_Question dx (qFs l w' s' b' sp st D0)) ∧ H' D0 = some (.dK kvs) ∧
      ∀ p c, valV kvs (.inr p) = some (.ref c) → ∃ ys, H' c = some (.lst ys) ∧ Bi c = none ∧ ys.length ≤ i ∧ DpAll K Bi ys ((outL D.ls p i).map dNl)) ⟨none, none, dl2 x g HA, rfl, Ex.refl _, bB, dl2_g, hgHC, hxB, hkB, fun p c h => ⟨[], (iA2 p c h).1, (iA2 p c h).2, Nat.le_refl _, .nil⟩⟩ (fun i σ H' _ z => by obtain ⟨v5, v6, Bi, _, h1, h2, _⟩ := z; exact ex_t (h1.trans h2) L.li) (fun i y σ H' H'' hi z yy => ?_) (fun σ H' z => ?_)⟩
    · obtain ⟨v5, v6, Bi, rfl, x1, x2, bg0, hg', hx', hk', lists⟩ := z
      obtain ⟨T0, y, rfl, ht, rfl, hy⟩ := yy
      obtain ⟨q, hq, hm, dp⟩ := pick (dps_ex x1 L.ls) hy
      obtain ⟨t, u, vs, rfl, hT, hU, hts⟩ := link_in dp
      have hT' := ex_t (x2.trans (Ex.new (o := .tup [.int (i : Nat), .ref t]) ht)) hT
      obtain ⟨c, hc⟩ := iB q.o (ok.lk q hm).o
      obtain ⟨ys, hys, bc, ly, dys⟩ := lists q.o c hc
      have eT := Ex.new (o := .tup [.int (i : Nat), .ref t]) ht
      refine ⟨T0, _, rfl, st_of upd_same, rfl, _, _, rfl, _, _, rfl, rfl, ?_⟩
      have gL : DGet (upd H' T0 (.tup [.int (i : Nat), .ref t])) D0 (.str q.o) (valV kvs (.inr q.o)) := DGet.k (k := Sum.inr q.o) (eT _ _ hk')
      rw [hc] at gL
      refine ⟨_, rfl, x, a.C_Question, dx, _, _, rfl, eT _ _ hx', T.cl_Question, T.na_Question_leaving, q_leaving .., _, rfl, t, _, _, _, rfl, rfl, hT', atI_nat (j := 1) rfl, D0, _, rfl, gL, .inl ⟨rfl, ys, SqL.of (eT _ _ hys)⟩, _, rfl, _, rfl, by show 2 ≤ sizeLine; decide, fun u0 hu0 => ?_⟩
      have eU := Ex.new (o := .tup [.int (i : Nat), .ref t]) hu0
      have x2' := (x2.trans eT)
      have bu : Bi u0 = none := fresh_back x2' hu0
      have hc1 := eU _ _ (eT _ _ hys)
      have cu : c ≠ u0 := ne_of_none (eT _ _ hys) hu0
      refine ⟨c, ys, _, rfl, rfl, hc1, sz_lt (by omega), _, _, upd Bi u0 (.tup [.int (i : Nat), .ref t]), rfl, x1.trans (Ex.new bu), ?_, ?_, ?_, ?_, ?_, fun p d hd => ?_⟩
      rotate_left 1
      · exact (by rw [upd_ne (ne_of_none (eT _ _ hg') hu0)]; exact bg0)
      · have gc : g ≠ c := (cg _ _ hc).symm
        rw [upd_ne gc]
        exact eU _ _ (eT _ _ hg')
      rotate_right 1
      · exact (Ex.up x2').mut (by rw [upd_ne cu]; exact bc)
      · have xc : x ≠ c := fun z => by rw [z, hys] at hx'; cases hx'
        rw [upd_ne xc]
        exact eU _ _ (eT _ _ hx')
      · have Dc : D0 ≠ c := fun z => by rw [z, hys] at hk'; cases hk'
        rw [upd_ne Dc]
        exact eU _ _ (eT _ _ hk')
      · by_cases z : q.o = p
        · subst z
          rw [hc] at hd
          cases hd
          refine ⟨_, upd_same, by rw [upd_ne cu]; exact bc, by rw [List.length_append]; show ys.length + 1 ≤ i + 1; omega, ?_⟩
          rw [outL_next hq, if_pos rfl, List.map_append]
          exact dps_app (dps_ex (Ex.new bu) dys) (dps_one (.tup (st_of upd_same) (.cons (.int _) (.cons (dp_ex (Ex.new bu) dp) .nil))))
        · obtain ⟨zs, hzs, bz, lz, dz⟩ := lists p d hd
          have dc : d ≠ c := fun e => by
            subst e
            exact z (iC _ _ _ hc hd)
          have du : d ≠ u0 := ne_of_none (eT _ _ hzs) hu0
          refine ⟨zs, by rw [upd_ne dc]; exact eU _ _ (eT _ _ hzs), by rw [upd_ne du]; exact bz, by omega, ?_⟩
          rw [outL_next hq, if_neg z, List.append_nil]
          exact dps_ex (Ex.new bu) dz
    · obtain ⟨v5, v6, Bi, rfl, x1, x2, bg0, hg', hx', hk', lists⟩ := z
      have e8 := x1.trans x2
      rw [lr] at lists
      have e9 : Ex (dl2 x g HA) (del H' g) := ex_to_del e8 dl2_g
      have x2g : Ex Bi (del H' g) := ex_to_del x2 bg0
      refine k H' (f6.trans e8) hg' ⟨dx, l, w', s', b', sp, st, D0, us, ss, bb, acc, kvs, del_at gx.symm hx', hl.ex (f6.trans e9), SqL.of (e9 _ _ (b6 _ _ (b5 _ _ (b4 _ _ (b3 _ _ mw))))), dps_ex (f6.trans e9) dw, SqL.of (e9 _ _ (b6 _ _ (b5 _ _ (b4 _ _ ms3)))), dps_ex (f6.trans e9) ds, SqL.of (e9 _ _ (b6 _ _ (b5 _ _ mb4))), dps_ex (f6.trans e9) db, SqL.of (e9 _ _ (b6 _ _ msp5)), dps_ex ((b6).trans e9) dsp5, tst6.ex e9, del_at D0g hk', fun p hp => ?_⟩
      obtain ⟨c, hc⟩ := iB p hp
      obtain ⟨ys, hys, bc, ly, dys⟩ := lists p c hc
      exact ⟨c, ys, hc, SqL.of (del_at (cg _ _ hc) hys), dps_ex x2g dys⟩
end
end EV

set_option Elab.async false
set_option linter.all false
set_option maxRecDepth 100000
set_option maxHeartbeats 4000000
namespace EV
open PySem PySem.Spec PyProof.Rows L2 EvS Evl FD EnT
def sp_Question_is_ahead (K : PySem.W.Frag) (C CQ : Addr) : Sp := fun vs H Q _ => ∃ (x : Addr) (m : Int) (p : Str) (D : LandD) (ws : List (Int × Str)) (sts bs : List (Str × Int)), vs = [.ref x, .int m, .str p] ∧ IsQ K C CQ H x D ws sts bs ∧ Q (.bl (FP.ahead (FP.minOf bs p) m)) H
def sp_Question_through (K : PySem.W.Frag) (C CQ : Addr) : Sp := fun vs H Q _ => ∃ (x r : Addr) (m : Int) (D : LandD) (ws : List (Int × Str)) (sts bs : List (Str × Int)) (row : List (Option Int)), vs = [.ref x, .ref r, .int m] ∧ IsQ K C CQ H x D ws sts bs ∧ SqT K H r (row.map vInt) ∧ row.length = D.ws.length ∧ FP.RowOk row ∧ WOk D ws ∧ 0 ≤ m ∧ Q (vInt (FP.thr (wt D ws) row m)) H
theorem wt_asc {D : LandD} {ws : List (Int × Str)} (ok : WOk D ws) : FP.Asc (wt D ws) := by
  unfold FP.Asc wt
  rw [List.pairwise_map]
  exact ok.asc
theorem wt_head {D : LandD} {ws : List (Int × Str)} (ok : WOk D ws) {m : Int} (h : 0 ≤ m) : ∀ r ∈ (wt D ws).head?, r.1 ≤ m := fun r hr => by
  cases ws with
  | nil => cases hr
  | cons q l =>
    cases hr
    have := ok.h0 q rfl
    show q.1 ≤ m
    omega
theorem wt_ne {D : LandD} {ws : List (Int × Str)} (ok : WOk D ws) : wt D ws ≠ [] := fun e => by
  have l1 := ok.l1
  have := congrArg List.length e
  unfold wt at this
  rw [List.length_map] at this
  simp at this
  subst this
  exact absurd l1 (by decide)
theorem spell_wind {D : LandD} {ws : List (Int × Str)} (ok : WOk D ws) {s : FP.Spell} (h : s ∈ FP.spells (wt D ws)) : s.2.2 < D.ws.length := by
  obtain ⟨i, hi⟩ := List.mem_iff_getElem?.mp h
  rw [spells_get] at hi
  obtain ⟨r, hr, rfl⟩ := Option.map_eq_some_iff.mp hi
  unfold wt at hr
  rw [List.getElem?_map] at hr
  obtain ⟨q, hq, rfl⟩ := Option.map_eq_some_iff.mp hr
  exact List.idxOf_lt_length_of_mem (ok.nm q (List.mem_of_getElem? hq))
theorem FP_go_cons (row : List (Option Int)) (m : Int) (s : FP.Spell) (r : List FP.Spell) (c : Option Int) : FP.goThr row m (s :: r) c = if FP.early c s.1 = true then c else FP.goThr row m r (FP.least c (FP.candS row m s)) := rfl
theorem cand_num {row : List (Option Int)} {m : Int} {s : FP.Spell} (h : FP.num row s.2.2 = none) : FP.candS row m s = none := by
  unfold FP.candS
  rw [h]
  split <;> rfl
theorem least_none (c : Option Int) : FP.least c none = c := by cases c <;> rfl
theorem sp_in {K : PySem.W.Frag} {H : Hp} {v : V} {s : FP.Spell} (h : Dp K H v (dSp s)) : ∃ t, v = .ref t ∧ SqT K H t [.int s.1, vInt s.2.1, .int (s.2.2 : Nat)] := by
  unfold dSp at h
  cases h with
  | tup st al =>
    cases al with
    | cons d1 al =>
      cases al with
      | cons d2 al =>
        cases al with
        | cons d3 al =>
          cases al
          cases d1
          cases d3
          rw [opt_dp d2] at st
          exact ⟨_, rfl, st⟩
section
variable {P : Program} {w : World} {K : PySem.W.Frag} {mg : Str → Option Value} {base : Heap} {a : Ad}
theorem G_Question_is_ahead (T : Txt K mg a) : FnOk P w K mg base CX0 1 a.f_Question_is_ahead a.d_Question_is_ahead ["self", "minute", "place"] (sp_Question_is_ahead K a.C a.C_Question) := by
  refine T.F_Question_is_ahead.ok sc_Question_is_ahead (fun vs H Q E h => ?_) (fun cdv A outer s H vs Q E hr h => ?_)
  · obtain ⟨x, m, p, D, ws, sts, bs, rfl, _⟩ := h
    rfl
  · obtain ⟨x, m, p, D, ws, sts, bs, rfl, hq, k⟩ := h
    obtain ⟨dx, l, w, s, b, sp, st, lv, us, ss, bb, acc, kvs, QA⟩ := hq
    obtain ⟨kst, hst, lst, tst⟩ := QA.st
    refine ⟨_, (pss_one (ps_ret (pe_or (pe_cmp (pc_dnotin (hu_of hr) (pv 2) (pe_fld (pv 0) rfl))) (pe_one (pe_cmpR op_lt (pv 1) (pe_dget (hu_of hr) (pe_fld (pv 0) rfl) (pv 2) (fun _ _ => rfl)) (nomark _)))))), ?_⟩
    have g : DGet H st (.str p) (valV kst (.inr p)) := DGet.k (k := Sum.inr p) hst
    rw [tst p] at g
    refine ⟨_, rfl, _, rfl, x, a.C_Question, dx, _, _, rfl, QA.ob, T.cl_Question, T.na_Question_stops, q_stops .., st, _, rfl, g, _, rfl, ?_⟩
    cases hs : FP.minOf bs p with
    | none =>
      rw [hs] at k
      exact iteT k
    | some u =>
      rw [hs] at k g
      exact iteF ⟨_, rfl, _, rfl, x, a.C_Question, dx, _, _, rfl, QA.ob, T.cl_Question, T.na_Question_stops, q_stops .., _, rfl, st, _, rfl, g, _, _, rfl, rfl, k⟩
theorem G_Question_through (T : Txt K mg a) : FnOk P w K mg base CX0 1 a.f_Question_through a.d_Question_through ["self", "row", "minute"] (sp_Question_through K a.C a.C_Question) := by
  refine T.F_Question_through.ok sc_Question_through (fun vs H Q E h => ?_) (fun cdv A outer s H vs Q E hr h => ?_)
  · obtain ⟨x, r, m, D, ws, sts, bs, row, rfl, _⟩ := h
    rfl
  · obtain ⟨x, r, m, D, ws, sts, bs, row, rfl, hq, hrow, lrow, rok, wok, m0, k⟩ := h
    obtain ⟨dx, l, w, s, b, sp, st, lv, us, ss, bb, acc, kvs, QA⟩ := hq
    have fin := FP.go_thr rok (wt_asc wok) (wt_head wok m0) (wt_ne wok)
    rw [← fin] at k
    have la := dps_len QA.da
    rw [List.length_map] at la
    refine ⟨_, (pss_cons (ps_set (i := 3) sc_Question_through.nd rfl (Or.inl rfl) pe_non)
      (pss_cons (ps_for PassesOwn.never rfl (pi_list (pe_fld (pv 0) rfl)) (pg_tup (by rfl) (pgs_cons (pg_name (i := 4) sc_Question_through.nd rfl (Or.inl rfl)) (pgs_cons (pg_name (i := 5) sc_Question_through.nd rfl (Or.inl rfl)) (pgs_cons (pg_name (i := 6) sc_Question_through.nd rfl (Or.inl rfl)) pgs_nil)))) (Evl.pss_cut (ps_if (PW.pt (pw_and (pt_cmpR op_notN (pv 3) pe_non (nomark _)) (pw_and1 (pt_cmpR op_le (pv 3) (pv 4) (nomark _))))) (pss_one ps_break) pss_nil)
        (Evl.pss_cut (ps_if (PW.pt (pw_or (pt_cmpR op_isN (pe_ix ix_tup (pv 1) (pv 6) (fun _ _ => rfl)) pe_non (nomark _)) (pw_or1 (PW.pt (pw_and (pt_cmpR op_notN (pv 5) pe_non (nomark _)) (pw_and1 (pt_cmpR op_le (pv 5) (pv 2) (nomark _)))))))) (pss_one ps_continue) pss_nil)
        (pss_cons (ps_set (i := 7) sc_Question_through.nd rfl (Or.inl rfl) (pe_op op_add (pe_callB (call_max2 rfl) (by rfl) T.z_max (by decide +kernel) (pa_cons (pv 4) (pa_cons (pv 2) pa_nil))) (pe_ix ix_tup (pv 1) (pv 6) (fun _ _ => rfl))))
        (pss_one (ps_if (PW.pt (pw_or (pt_cmpR op_isN (pv 3) pe_non (nomark _)) (pw_or1 (pt_cmpR op_lt (pv 7) (pv 3) (nomark _))))) (pss_one (ps_set (i := 3) sc_Question_through.nd rfl (Or.inl rfl) (pv 7))) pss_nil))))))
      (pss_one (ps_ret (pv 3))))), ?_⟩
    refine ⟨_, rfl, x, a.C_Question, dx, _, _, rfl, QA.ob, T.cl_Question, T.na_Question_spells, q_spells .., sp, rfl, ⟨_, QA.sp⟩, for_list (K := K) (a := sp) (xs := acc) (fun i σ H' => ∃ (c : Option Int) (v4 v5 v6 v7 : Option V), σ = [some (.ref x), some (.ref r), some (.int m), some (vInt c), v4, v5, v6, v7] ∧ H' = H ∧ FP.goThr row m ((FP.spells (wt D ws)).drop i) c = FP.goThr row m (FP.spells (wt D ws)) none) ⟨none, none, none, none, none, rfl, rfl, rfl⟩ (fun i σ H' _ z => by obtain ⟨_, _, _, _, _, _, e, _⟩ := z; rw [e]; exact QA.sp) (fun i y σ H' hy z => ?_) (fun σ H' z => ?_)⟩
    · obtain ⟨c, v4, v5, v6, v7, rfl, e, inv⟩ := z
      rw [e]
      obtain ⟨q, hq, hm, dp⟩ := pick QA.da hy
      obtain ⟨t, rfl, st⟩ := sp_in dp
      obtain ⟨qb, qe, qw⟩ := q
      have dr : (FP.spells (wt D ws)).drop i = (qb, qe, qw) :: (FP.spells (wt D ws)).drop (i + 1) := by
        obtain ⟨hi, e⟩ := List.getElem?_eq_some_iff.mp hq
        rw [← e]
        exact List.drop_eq_getElem_cons hi
      rw [dr] at inv
      rw [FP_go_cons] at inv
      have wl : qw < D.ws.length := spell_wind wok hm
      obtain ⟨nv, hnv⟩ : ∃ nv, row[qw]? = some nv := ⟨row[qw]'(by omega), List.getElem?_eq_getElem (by omega)⟩
      have hn : FP.num row qw = nv := by
        unfold FP.num
        rw [List.getD_eq_getElem?_getD, hnv]
        rfl
      have hat : atI (row.map vInt) ((qw : Nat) : Int) = some (vInt nv) := atI_nat (by rw [List.getElem?_map, hnv]; rfl)
      refine ⟨t, _, rfl, st, rfl, _, _, rfl, _, _, rfl, _, _, rfl, rfl, ?_⟩
      let S : Option V → L2.St := fun v7 => [some (.ref x), some (.ref r), some (.int m), some (vInt c), some (.int qb), some (vInt qe), some (.int (qw : Nat)), v7]
      refine ⟨fun σ H' => σ = S v7 ∧ H' = H ∧ FP.early c qb = false, ?_, ?_⟩
      · cases c with
        | none => exact ⟨_, rfl, rfl, _, rfl, iteF ⟨rfl, rfl, rfl⟩⟩
        | some f =>
          refine ⟨_, rfl, rfl, _, rfl, iteT ⟨_, rfl, _, rfl, _, _, rfl, rfl, _, rfl, ?_⟩⟩
          refine ite2 (fun h => ?_) (fun h => ?_)
          · rw [if_pos (show FP.early (some f) qb = true from h)] at inv
            rw [← inv] at k
            exact ⟨_, rfl, k⟩
          · exact ⟨rfl, rfl, by cases h2 : FP.early (some f) qb with
              | false => rfl
              | true => exact absurd h2 h⟩
      rintro σ H' ⟨rfl, rfl, ea⟩
      rw [if_neg (by rw [ea]; decide)] at inv
      refine ⟨fun σ H2 => σ = S v7 ∧ H2 = H' ∧ ∃ n, nv = some n ∧ FP.over qe m = false, ?_, ?_⟩
      · refine ⟨_, rfl, _, rfl, r, _, _, _, rfl, rfl, hrow, hat, ?_⟩
        cases nv with
        | none =>
          refine ⟨rfl, _, rfl, iteT ⟨c, _, _, _, _, rfl, rfl, ?_⟩⟩
          rw [cand_num hn, least_none] at inv
          exact inv
        | some n =>
          refine ⟨rfl, _, rfl, iteF ?_⟩
          cases qe with
          | none =>
            refine ⟨_, rfl, rfl, _, rfl, iteF ⟨rfl, rfl, n, rfl, rfl⟩⟩
          | some u =>
            refine ⟨_, rfl, rfl, _, rfl, iteT ⟨_, rfl, _, rfl, _, _, rfl, rfl, _, rfl, ?_⟩⟩
            refine ite2 (fun h => ?_) (fun h => ?_)
            · refine ⟨c, _, _, _, _, rfl, rfl, ?_⟩
              have e2 : FP.candS row m (qb, some u, qw) = none := by
                unfold FP.candS
                exact if_pos h
              rw [e2, least_none] at inv
              exact inv
            · refine ⟨rfl, rfl, n, rfl, ?_⟩
              cases h2 : FP.over (some u) m with
              | false => rfl
              | true => exact absurd h2 h
      rintro σ H2 ⟨rfl, rfl, n, rfl, ov⟩
      have ec : FP.candS row m (qb, qe, qw) = some ((if qb < m then m else qb) + n) := by
        unfold FP.candS
        rw [ov, hn]
        rfl
      rw [ec] at inv
      refine ⟨_, rfl, _, rfl, _, _, rfl, _, rfl, _, rfl, r, _, _, _, rfl, rfl, hrow, hat, _, _, rfl, rfl, ?_⟩
      refine ⟨_, rfl, ?_⟩
      cases c with
      | none => exact ⟨rfl, _, rfl, iteT ⟨_, rfl, some ((if qb < m then m else qb) + n), _, _, _, _, rfl, rfl, inv⟩⟩
      | some f =>
        refine ⟨rfl, _, rfl, iteF ⟨_, rfl, _, rfl, _, _, rfl, rfl, _, rfl, ?_⟩⟩
        refine ite2 (fun h => ?_) (fun h => ?_)
        · refine ⟨_, rfl, some ((if qb < m then m else qb) + n), _, _, _, _, rfl, rfl, ?_⟩
          rw [← inv]
          show _ = FP.goThr row m _ (if _ < f then _ else _)
          rw [if_pos (of_decide_eq_true h)]
        · refine ⟨some f, _, _, _, _, rfl, rfl, ?_⟩
          rw [← inv]
          show _ = FP.goThr row m _ (if _ < f then _ else _)
          rw [if_neg fun z => h (decide_eq_true z)]
    · obtain ⟨c, v4, v5, v6, v7, rfl, e, inv⟩ := z
      rw [e]
      rw [la, List.drop_length] at inv
      rw [← inv] at k
      exact ⟨_, rfl, k⟩
end
end EV

set_option Elab.async false
set_option linter.all false
set_option maxRecDepth 100000
set_option maxHeartbeats 4000000
namespace EV
open PySem PySem.Spec PyProof.Rows L2 EvS Evl FD EnT
/-! ### numbers of a fire -/
def dRow (row : List (Option Int)) : PyData := .tuple (row.map dOpt)
def lkN (k : Link) (row : List (Option Int)) : FP.Lk := ⟨k.o, k.t, row⟩
def fireN (D : LandD) (ws : List (Int × Str)) (sts bs : List (Str × Int)) (nums : List (List (Option Int))) : FP.Fire := ⟨wt D ws, List.zipWith lkN D.ls nums, sts, FP.minOf bs⟩
structure NumsOk (D : LandD) (nums : List (List (Option Int))) : Prop where
  len : nums.length = D.ls.length
  row : ∀ row ∈ nums, row.length = D.ws.length ∧ FP.RowOk row
theorem zip_mem {ls : List Link} {nums : List (List (Option Int))} {l : FP.Lk} : l ∈ List.zipWith lkN ls nums ↔ ∃ (j : Nat) (k : Link) (row : List (Option Int)), ls[j]? = some k ∧ nums[j]? = some row ∧ l = lkN k row := by
  rw [List.mem_iff_getElem?]
  constructor
  · rintro ⟨i, hi⟩
    rw [List.getElem?_zipWith] at hi
    cases h1 : ls[i]? with
    | none => rw [h1] at hi; cases hi
    | some k =>
      cases h2 : nums[i]? with
      | none => rw [h1, h2] at hi; cases hi
      | some row =>
        rw [h1, h2] at hi
        exact ⟨i, k, row, h1, h2, (Option.some.inj hi).symm⟩
  · rintro ⟨j, k, row, h1, h2, rfl⟩
    refine ⟨j, ?_⟩
    rw [List.getElem?_zipWith, h1, h2]
theorem fireN_ok {D : LandD} (ok : LandOk D) {ws : List (Int × Str)} {sts bs : List (Str × Int)} {nums : List (List (Option Int))} (hs : StOk D sts) (hn : NumsOk D nums) : FP.Ok (fireN D ws sts bs nums) D.ps where
  nn := fun r hr => (hs r hr).2
  rows := fun l hl => by
    obtain ⟨j, k, row, h1, h2, rfl⟩ := zip_mem.mp hl
    exact (hn.row row (List.mem_of_getElem? h2)).2
  sp := fun r hr => (hs r hr).1
  ends := fun l hl => by
    obtain ⟨j, k, row, h1, h2, rfl⟩ := zip_mem.mp hl
    have q := ok.lk k (List.mem_of_getElem? h1)
    exact ⟨q.o, q.t⟩
theorem row_in {K : PySem.W.Frag} {H : Hp} {v : V} {row : List (Option Int)} (h : Dp K H v (dRow row)) : ∃ r, v = .ref r ∧ SqT K H r (row.map vInt) := by
  unfold dRow at h
  cases h with
  | tup st al =>
    have key : ∀ {vs : List V} {row : List (Option Int)}, DpAll K H vs (row.map dOpt) → vs = row.map vInt := fun {vs row} => by
      induction row generalizing vs with
      | nil => intro h; cases h; rfl
      | cons o row ih =>
        intro h
        cases h with
        | cons h1 h2 => rw [opt_dp h1, ih h2]; rfl
    rw [key al] at st
    exact ⟨_, rfl, st⟩
theorem pe_weak {X : Cx} {e : Expr} {t t' : TE} (h : PE X e t) (w : ∀ σ H Q, t' σ H Q → t σ H Q) : PE X e t' := ⟨fun pins s σ H Q I q => h.run pins s σ H Q I (w σ H Q q)⟩
/-- a name, or None for the empty text -/
def NmV (z : Str) (nm : V) : Prop := (z = "" ∧ nm = .non) ∨ (z ≠ "" ∧ nm = .str z)
def tNm6 : TE := fun σ H Q => ∃ z : Str, σ[6]? = some (some (.str z)) ∧ ∀ nm : V, NmV z nm → Q nm H
/-! ### counting -/
def cnt (ls : List Link) (f : Str → Option Int) : Nat := (ls.filter fun k => (f k.o).isSome).length
theorem cnt_upd {f : Str → Option Int} {p : Str} {t : Int} (n : f p = none) : ∀ ls : List Link, cnt ls (upd1 f p t) = cnt ls f + (ls.filter fun k => decide (k.o = p)).length
  | [] => rfl
  | k :: ls => by
    have ih := cnt_upd (t := t) n ls
    unfold cnt at ih ⊢
    rw [List.filter_cons, List.filter_cons, List.filter_cons]
    by_cases c : k.o = p
    · have h1 : (upd1 f p t k.o).isSome = true := by unfold upd1; rw [if_pos c]; rfl
      have h2 : (f k.o).isSome = false := by rw [c, n]; rfl
      rw [if_pos h1, if_neg (by rw [h2]; decide), if_pos (decide_eq_true c)]
      simp only [List.length_cons]
      omega
    · have h1 : upd1 f p t k.o = f k.o := by unfold upd1; rw [if_neg c]
      rw [h1, if_neg (fun z => c (of_decide_eq_true z))]
      by_cases d : (f k.o).isSome = true
      · rw [if_pos d, if_pos d]
        simp only [List.length_cons]
        omega
      · rw [if_neg d, if_neg d]
        exact ih
theorem outL_cnt (ls : List Link) (p : Str) : ∀ n, n ≤ ls.length → (outL ls p n).length = ((ls.take n).filter fun k => decide (k.o = p)).length
  | 0, _ => by simp [outL]
  | n + 1, h => by
    obtain ⟨k, hk⟩ : ∃ k, ls[n]? = some k := ⟨_, List.getElem?_eq_getElem (by omega)⟩
    rw [outL_next hk, List.length_append, outL_cnt ls p n (by omega), take_one hk, List.filter_append, List.length_append]
    congr 1
    rw [List.filter_cons]
    by_cases c : k.o = p
    · rw [if_pos c, if_pos (decide_eq_true c)]; rfl
    · rw [if_neg c, if_neg (fun z => c (of_decide_eq_true z))]; rfl
theorem cnt_le (ls : List Link) (f : Str → Option Int) : cnt ls f ≤ ls.length := List.length_filter_le _ _
def fnd (ps : List Str) (f : Str → Option Int) : Nat := (ps.filter fun q => (f q).isSome).length
theorem fnd_upd {f : Str → Option Int} {p : Str} {t : Int} (n : f p = none) : ∀ ps : List Str, fnd ps f ≤ fnd ps (upd1 f p t) ∧ (p ∈ ps → fnd ps f + 1 ≤ fnd ps (upd1 f p t))
  | [] => ⟨Nat.le_refl _, fun h => by cases h⟩
  | q :: ps => by
    obtain ⟨ih1, ih2⟩ := fnd_upd (t := t) n ps
    unfold fnd at ih1 ih2 ⊢
    rw [List.filter_cons, List.filter_cons]
    by_cases c : q = p
    · have h1 : (upd1 f p t q).isSome = true := by unfold upd1; rw [if_pos c]; rfl
      have h2 : (f q).isSome = false := by rw [c, n]; rfl
      rw [if_pos h1, if_neg (by rw [h2]; decide)]
      simp only [List.length_cons]
      exact ⟨by omega, fun _ => by omega⟩
    · have h1 : upd1 f p t q = f q := by unfold upd1; rw [if_neg c]
      have mem : p ∈ q :: ps → p ∈ ps := fun h => (List.mem_cons.mp h).elim (fun z => absurd z.symm c) id
      rw [h1]
      by_cases d : (f q).isSome = true
      · rw [if_pos d, if_pos d]
        simp only [List.length_cons]
        exact ⟨by omega, fun h => by have := ih2 (mem h); omega⟩
      · rw [if_neg d, if_neg d]
        exact ⟨ih1, fun h => ih2 (mem h)⟩
theorem fnd_le (ps : List Str) (f : Str → Option Int) : fnd ps f ≤ ps.length := List.length_filter_le _ _
/-! ### what waits -/
abbrev WRow := Int × Str × Str
def tupW (r : WRow) : HO := .tup [.int r.1, .str r.2.1, .str r.2.2]
def prs (rw : Addr → WRow) (ts : List Addr) : List (Int × Str) := ts.map fun c => ((rw c).1, (rw c).2.1)
def setW (rw : Addr → WRow) (u : Addr) (r : WRow) : Addr → WRow := fun c => if c = u then r else rw c
def keyW (rw : Addr → WRow) : Addr → HeapM.Key := fun c => FP.kOf (rw c)
structure HpAt (H0 Hb H : Hp) (p d : Addr) (rw : Addr → WRow) (ts : List Addr) (kvs : List (Key × V)) : Prop where
  b0 : Ex H0 Hb
  bp : Hb p = none
  bd : Hb d = none
  ex : Ex Hb H
  pd : p ≠ d
  hp : H p = some (.lst (ts.map V.ref))
  hd : H d = some (.dK kvs)
  row : ∀ c ∈ ts, Hb c = some (tupW (rw c))
  hA : HeapM.HeapA (keyW rw) ts
theorem prs_set {rw : Addr → WRow} {ts ts' : List Addr} {u : Addr} {r : WRow} (hu : u ∉ ts) (pm : ts'.Perm (u :: ts)) {e : Int × Str} : e ∈ prs (setW rw u r) ts' ↔ e = (r.1, r.2.1) ∨ e ∈ prs rw ts := by
  unfold prs setW
  rw [(pm.map _).mem_iff, List.map_cons, List.mem_cons, if_pos rfl]
  have : (ts.map fun c => ((if c = u then r else rw c).1, (if c = u then r else rw c).2.1)) = ts.map fun c => ((rw c).1, (rw c).2.1) := List.map_congr_left fun c hc => by
    have ne : c ≠ u := fun z => hu (by rw [← z]; exact hc)
    rw [if_neg ne]
  rw [this]
theorem HpAt.rowV {K : PySem.W.Frag} {H0 Hb H : Hp} {p d : Addr} {rw : Addr → WRow} {ts : List Addr} {kvs : List (Key × V)} (h : HpAt H0 Hb H p d rw ts kvs) : ∀ c ∈ ts, HeapM.RowV K H c (keyW rw c) := fun c hc => ⟨_, _, _, st_of (h.ex _ _ (h.row c hc)), rfl⟩
theorem HpAt.notin {H0 Hb H : Hp} {p d u : Addr} {rw : Addr → WRow} {ts : List Addr} {kvs : List (Key × V)} (h : HpAt H0 Hb H p d rw ts kvs) (hu : H u = none) : u ∉ ts := fun z => by
  have := h.ex _ _ (h.row u z)
  rw [hu] at this
  cases this
theorem setW_at {rw : Addr → WRow} {u : Addr} {r : WRow} : setW rw u r u = r := if_pos rfl
theorem setW_ne {rw : Addr → WRow} {u c : Addr} {r : WRow} (h : c ≠ u) : setW rw u r c = rw c := if_neg h
/-- ahead of a push: the new row laid -/
theorem HpAt.rowV2 {K : PySem.W.Frag} {H0 Hb H : Hp} {p d u : Addr} {rw : Addr → WRow} {ts : List Addr} {kvs : List (Key × V)} {r : WRow} (h : HpAt H0 Hb H p d rw ts kvs) (hu : H u = none) : ∀ c ∈ u :: ts, HeapM.RowV K (upd H u (tupW r)) c (keyW (setW rw u r) c) := fun c hc => by
  rcases List.mem_cons.mp hc with rfl | hc
  · refine ⟨_, _, _, st_of upd_same, ?_⟩
    unfold keyW
    rw [setW_at]
    rfl
  · have ne : c ≠ u := fun z => h.notin hu (by rw [← z]; exact hc)
    refine ⟨_, _, _, st_of (Ex.new hu _ _ (h.ex _ _ (h.row c hc))), ?_⟩
    unfold keyW
    rw [setW_ne ne]
    rfl
theorem HpAt.keyA {H0 Hb H : Hp} {p d u : Addr} {rw : Addr → WRow} {ts : List Addr} {kvs : List (Key × V)} {r : WRow} (h : HpAt H0 Hb H p d rw ts kvs) (hu : H u = none) : HeapM.HeapA (keyW (setW rw u r)) ts := FP.heapA_congr (fun c hc => by
  unfold keyW
  have ne : c ≠ u := fun z => h.notin hu (by rw [← z]; exact hc)
  rw [setW_ne ne]) h.hA
theorem HpAt.pushed {H0 Hb H : Hp} {p d u : Addr} {rw : Addr → WRow} {ts ts' : List Addr} {kvs : List (Key × V)} {r : WRow} (h : HpAt H0 Hb H p d rw ts kvs) (hu : H u = none) (pm : ts'.Perm (u :: ts)) (hA : HeapM.HeapA (keyW (setW rw u r)) ts') : HpAt H0 (upd Hb u (tupW r)) (upd (upd H u (tupW r)) p (.lst (ts'.map V.ref))) p d (setW rw u r) ts' kvs := by
  have bu : Hb u = none := fresh_back h.ex hu
  have pu : p ≠ u := ne_of_none h.hp hu
  have du : d ≠ u := ne_of_none h.hd hu
  refine ⟨h.b0.trans (Ex.new bu), by rw [upd_ne pu]; exact h.bp, by rw [upd_ne du]; exact h.bd, (Ex.up h.ex).mut (by rw [upd_ne pu]; exact h.bp), h.pd, upd_same, ?_, fun c hc => ?_, hA⟩
  · rw [upd_ne h.pd.symm, upd_ne du]
    exact h.hd
  · rcases List.mem_cons.mp (pm.mem_iff.mp hc) with rfl | hc
    · rw [upd_same, setW_at]
    · have ne : c ≠ u := fun z => h.notin hu (by rw [← z]; exact hc)
      rw [upd_ne ne, setW_ne ne]
      exact h.row c hc
theorem HpAt.put {H0 Hb H : Hp} {p d u : Addr} {rw : Addr → WRow} {ts : List Addr} {kvs kvs2 : List (Key × V)} {o : HO} (h : HpAt H0 Hb H p d rw ts kvs) (hu : H u = none) : HpAt H0 (upd Hb u o) (upd (upd H u o) d (.dK kvs2)) p d rw ts kvs2 := by
  have bu : Hb u = none := fresh_back h.ex hu
  have pu : p ≠ u := ne_of_none h.hp hu
  have du : d ≠ u := ne_of_none h.hd hu
  refine ⟨h.b0.trans (Ex.new bu), by rw [upd_ne pu]; exact h.bp, by rw [upd_ne du]; exact h.bd, (Ex.up h.ex).mut (by rw [upd_ne du]; exact h.bd), h.pd, ?_, upd_same, fun c hc => Ex.new bu _ _ (h.row c hc), h.hA⟩
  rw [upd_ne h.pd, upd_ne pu]
  exact h.hp
theorem HpAt.popped {H0 Hb H : Hp} {p d c : Addr} {rw : Addr → WRow} {ts ts1 : List Addr} {kvs : List (Key × V)} (h : HpAt H0 Hb H p d rw (c :: ts) kvs) (pm : ts1.Perm ts) (hA : HeapM.HeapA (keyW rw) ts1) : HpAt H0 Hb (upd H p (.lst (ts1.map V.ref))) p d rw ts1 kvs :=
  ⟨h.b0, h.bp, h.bd, h.ex.mut h.bp, h.pd, upd_same, by rw [upd_ne h.pd.symm]; exact h.hd, fun e he => h.row e (List.mem_cons_of_mem _ (pm.mem_iff.mp he)), hA⟩
def KOf (H : Hp) (kvs : List (Key × V)) (f : Str → Option Int) : Prop := (∀ e ∈ kvs, ∃ (q : Str) (t : Int) (b : Addr) (nm : V), e = (.inr q, .ref b) ∧ H b = some (.tup [.str q, nm, .int t]) ∧ f q = some t) ∧ ∀ q : Str, (valV kvs (.inr q)).isSome = (f q).isSome
theorem KOf.ex {H H' : Hp} {kvs : List (Key × V)} {f : Str → Option Int} (e : Ex H H') (h : KOf H kvs f) : KOf H' kvs f := ⟨fun x hx => by
  obtain ⟨q, t, b, nm, h1, h2, h3⟩ := h.1 x hx
  exact ⟨q, t, b, nm, h1, e _ _ h2, h3⟩, h.2⟩
theorem KOf.same {H : Hp} {kvs : List (Key × V)} {f g : Str → Option Int} (e : ∀ q, f q = g q) (h : KOf H kvs f) : KOf H kvs g := ⟨fun x hx => by
  obtain ⟨q, t, b, nm, h1, h2, h3⟩ := h.1 x hx
  exact ⟨q, t, b, nm, h1, h2, (e q).symm.trans h3⟩, fun q => by rw [← e q]; exact h.2 q⟩
theorem KOf.put {H : Hp} {kvs : List (Key × V)} {f : Str → Option Int} {p : Str} {t : Int} {b : Addr} {nm : V} (h : KOf H kvs f) (n : f p = none) (hb : H b = some (.tup [.str p, nm, .int t])) : KOf H (putK kvs (.inr p) (.ref b)) (upd1 f p t) := by
  have v0 : valV kvs (.inr p) = none := by
    have := h.2 p
    rw [n] at this
    cases e : valV kvs (.inr p) with
    | none => rfl
    | some v => rw [e] at this; cases this
  refine ⟨fun e he => ?_, fun q => ?_⟩
  · rw [putK_new _ v0] at he
    rcases List.mem_append.mp he with he | he
    · obtain ⟨q, t', b', nm', h1, h2, h3⟩ := h.1 e he
      refine ⟨q, t', b', nm', h1, h2, ?_⟩
      unfold upd1
      rw [if_neg fun z => by rw [z, n] at h3; cases h3]
      exact h3
    · rw [List.mem_singleton.mp he]
      exact ⟨p, t, b, nm, rfl, hb, if_pos rfl⟩
  · rw [valV_put]
    unfold upd1
    by_cases c : q = p
    · rw [if_pos (congrArg Sum.inr c), if_pos c]; rfl
    · rw [if_neg fun z => c (Sum.inr.inj z), if_neg c]
      exact h.2 q
end EV

set_option Elab.async false
set_option linter.all false
set_option maxRecDepth 100000
set_option maxHeartbeats 4000000
namespace EV
open PySem PySem.Spec PyProof.Rows L2 EvS Evl FD EnT
def sp_Question_catches (K : PySem.W.Frag) (C CQ : Addr) : Sp := fun vs H Q _ => ∃ (x nt : Addr) (D : LandD) (ws : List (Int × Str)) (sts bs : List (Str × Int)) (nums : List (List (Option Int))) (ns : List V), vs = [.ref x, .ref nt] ∧ IsQ K C CQ H x D ws sts bs ∧ LandOk D ∧ WOk D ws ∧ StOk D sts ∧ sts.length ≤ 800 ∧
  SqT K H nt ns ∧ DpAll K H ns (nums.map dRow) ∧ NumsOk D nums ∧ ∀ d H' kvs, Ex H H' → H d = none → H' d = some (.dK kvs) → kvs.length ≤ 24 → KOf H' kvs (FP.first (fireN D ws sts bs nums)) → Q (.ref d) H'
theorem nl_in {K : PySem.W.Frag} {H : Hp} {v : V} {r : Nat × Link} (h : Dp K H v (dNl r)) : ∃ t l, v = .ref t ∧ SqT K H t [.int (r.1 : Nat), .ref l] ∧ ∃ u, SqT K H l [.str r.2.n, .str r.2.o, .str r.2.t, .ref u] := by
  unfold dNl at h
  cases h with
  | tup st al =>
    cases al with
    | cons d1 al =>
      cases al with
      | cons d2 al =>
        cases al
        cases d1
        obtain ⟨t, u, vs, rfl, h1, _, _⟩ := link_in d2
        exact ⟨_, _, rfl, st, u, h1⟩
section
variable {P : Program} {w : World} {K : PySem.W.Frag} {mg : Str → Option Value} {base : Heap} {a : Ad}
theorem G_Question_catches (T : Txt K mg a) : FnOk P w K mg base CX0 2 a.f_Question_catches a.d_Question_catches ["self", "numbers"] (sp_Question_catches K a.C a.C_Question) := by
  refine T.F_Question_catches.ok sc_Question_catches (fun vs H Q E h => ?_) (fun cdv A outer s H vs Q E hr h => ?_)
  · obtain ⟨x, nt, D, ws, sts, bs, nums, ns, rfl, _⟩ := h
    rfl
  · obtain ⟨x, nt, D, ws, sts, bs, nums, ns, rfl, hq, ok, wok, sok, ls, hnt, dns, nok, k⟩ := h
    obtain ⟨dx, l, w, s, b, sp, stp, lv, us, ss, bb, acc, kl, QA⟩ := id hq
    have lss := dps_len QA.ds
    rw [List.length_map] at lss
    have l60 := ok.l60
    have p24 := ok.p24
    let F := fireN D ws sts bs nums
    have fok : FP.Ok F D.ps := fireN_ok ok sok nok
    have el0 : (outL D.ls : Str → Nat → List (Nat × Link)) = outL D.ls := rfl
    refine ⟨_, (pss_cons (ps_setLc (i := 2) (own := [("place", 5), ("minute", 4)]) (g := gTup K 2 (gCons (gName 5) (gCons (gName 4) gNil))) (tt := tYes) rfl sc_Question_catches.nd rfl rfl (sw_true rfl rfl rfl (by decide +kernel)) (pi_list (pe_fld (pv 0) rfl)) (blkOk_by (N := ["self", "numbers", "waiting", "found", "minute", "place", "name", "number", "link", "passed"]) (sc := defScope s_Question_catches) (by decide +kernel)) (fun _ _ _ _ _ => (pg_tup (by rfl) (pgs_cons (pg_name (i := 5) sc_Question_catches.nd rfl (Or.inl rfl)) (pgs_cons (pg_name (i := 4) sc_Question_catches.nd rfl (Or.inl rfl)) pgs_nil)))) (fun _ _ _ _ _ => pts_nil) (fun _ _ _ _ _ => (pe_tup (pa_cons (pv 4) (pa_cons (pv 5) (pa_cons pe_str pa_nil))))))
      (pss_cons (ps_expr (StS.pe_callG (HeapM.call_heapify (EvS.r65 hr)) (by rfl) T.g_heapify (pa_cons (pv 2) pa_nil)))
      (pss_cons (ps_set (i := 3) sc_Question_catches.nd rfl (Or.inl rfl) pe_dnewK)
      (pss_cons (ps_while PassesOwn.never (pt_cmpR op_gt (pe_callB call_len_seq (by rfl) T.z_len PySem.boot_len (pa_cons (pv 2) pa_nil)) pe_int (nomark _)) (pss_cons (ps_asg (StS.pe_callG (HeapM.call_pop (EvS.r65 hr)) (by rfl) T.g_heappop (pa_cons (pv 2) pa_nil)) (pg_tup (by rfl) (pgs_cons (pg_name (i := 4) sc_Question_catches.nd rfl (Or.inl rfl)) (pgs_cons (pg_name (i := 5) sc_Question_catches.nd rfl (Or.inl rfl)) (pgs_cons (pg_name (i := 6) sc_Question_catches.nd rfl (Or.inl rfl)) pgs_nil)))))
        (Evl.pss_cut (ps_if (PW.pt (pw_or (pt_cmp (pc_din (hu_of hr) (pv 5) (pv 3))) (pw_or1 (pt_not (pt_val (pe_meth (pv 0) T.cl_Question T.m_Question_is_ahead (G_Question_is_ahead T) (hr.mono (by decide)) T.B_Question_is_ahead .nil pass0 (pa_cons (pv 4) (pa_cons (pv 5) pa_nil)))))))) (pss_one ps_continue) pss_nil)
        (pss_cons (ps_dput (hu_of hr) (pv 3) (pv 5) (pe_tup (pa_cons (pv 5) (pa_cons (pe_weak (t' := tNm6) (pe_ifExp (pt_cmpR op_eq (pv 6) pe_str (nomark _)) pe_non (pv 6)) (fun σ H Q q => by obtain ⟨z, e, q⟩ := q; exact ⟨_, e, rfl, _, rfl, ite2 (fun h => q _ (.inl ⟨V.str.inj (of_decide_eq_true h), rfl⟩)) (fun h => ⟨_, e, q _ (.inr ⟨fun y => h (by rw [y] <;> exact decide_eq_true rfl), rfl⟩)⟩)⟩)) (pa_cons (pv 4) pa_nil)))) rfl)
        (pss_one (ps_for PassesOwn.never rfl (pi_list (pe_dget (hu_of hr) (pe_fld (pv 0) rfl) (pv 5) (fun _ _ => rfl))) (pg_tup (by rfl) (pgs_cons (pg_name (i := 7) sc_Question_catches.nd rfl (Or.inl rfl)) (pgs_cons (pg_name (i := 8) sc_Question_catches.nd rfl (Or.inl rfl)) pgs_nil))) (pss_cons (ps_set (i := 9) sc_Question_catches.nd rfl (Or.inl rfl) (pe_meth (pv 0) T.cl_Question T.m_Question_through (G_Question_through T) (hr.mono (by decide)) T.B_Question_through .nil pass0 (pa_cons (pe_ix ix_tup (pv 1) (pv 7) (fun _ _ => rfl)) (pa_cons (pv 4) pa_nil))))
          (pss_one (ps_if (pt_cmpR op_notN (pv 9) pe_non (nomark _)) (pss_one (ps_expr (StS.pe_callG (HeapM.call_push (EvS.r65 hr)) (by rfl) T.g_heappush (pa_cons (pv 2) (pa_cons (pe_tup (pa_cons (pv 9) (pa_cons (pe_ix ix_tup (pv 8) pe_int (fun _ _ => rfl)) (pa_cons (pe_ix ix_tup (pv 8) pe_int (fun _ _ => rfl)) pa_nil)))) pa_nil))))) pss_nil)))))))))
      (pss_one (ps_ret (pv 3))))))), ?_⟩
    -- the starts
    refine ⟨_, rfl, x, a.C_Question, dx, _, _, rfl, QA.ob, T.cl_Question, T.na_Question_starts, q_starts .., s, rfl, ⟨_, QA.hs⟩, fun p hp => lcY_list (K := K) (a := s) (xs := ss) (fun i H' => ∃ (Hb : Hp) (rw : Addr → WRow) (ts : List Addr), Ex H Hb ∧ Hb p = none ∧ Ex Hb H' ∧ H' p = some (.lst (ts.map V.ref)) ∧ ts.length = i ∧ (∀ c ∈ ts, Hb c = some (tupW (rw c))) ∧ ∀ e, e ∈ prs rw ts ↔ (e.2, e.1) ∈ sts.take i) ⟨H, fun _ => (0, "", ""), [], Ex.refl _, hp, Ex.new hp, upd_same, rfl, (fun c hc => by cases hc), fun e => ⟨(fun z => by cases z), (fun z => by cases z)⟩⟩ (fun i H' _ z => by obtain ⟨Hb, rw, ts, h1, _, h2, _⟩ := z; exact ex_l (h1.trans h2) QA.hs) (fun i y H' hy z => ?_) (fun H1 z => ?_)⟩
    · obtain ⟨Hb, rw, ts, h1, h2, h3, h4, h5, h6, h7⟩ := z
      have hi := (List.getElem?_eq_some_iff.mp hy).1
      obtain ⟨r, hrr, hmr, dp⟩ := pick (dps_ex (h1.trans h3) QA.ds) hy
      obtain ⟨t, rfl, st⟩ := pm_in dp
      refine ⟨t, _, rfl, st, rfl, _, _, rfl, _, _, rfl, rfl, rfl, ?_⟩
      refine ⟨_, rfl, _, rfl, by show 3 ≤ sizeLine; decide, fun u hu => ?_⟩
      have bu : Hb u = none := fresh_back h3 hu
      have pu : p ≠ u := ne_of_none h4 hu
      have un : u ∉ ts := fun z => by
        have := h6 u z
        rw [bu] at this
        cases this
      refine ⟨ts.map V.ref, Ex.new hu _ _ h4, sz_lt (by rw [List.length_map]; omega), upd Hb u (tupW (r.2, r.1, "")), setW rw u (r.2, r.1, ""), ts ++ [u], h1.trans (Ex.new bu), by rw [upd_ne pu]; exact h2, (Ex.up h3).mut (by rw [upd_ne pu]; exact h2), ?_, by rw [List.length_append, h5] <;> rfl, fun c hc => ?_, fun e => ?_⟩
      · rw [upd_same, List.map_append]
        rfl
      · rcases List.mem_append.mp hc with hc | hc
        · have ne : c ≠ u := fun z => un (by rw [← z]; exact hc)
          rw [upd_ne ne, setW_ne ne]
          exact h6 c hc
        · rw [List.mem_singleton.mp hc, upd_same, setW_at]
      · rw [prs_set (ts := ts) un (List.perm_append_comm (l₁ := ts) (l₂ := [u])), h7, take_one hrr, List.mem_append, List.mem_singleton]
        constructor
        · rintro (z | z)
          · rw [z]
            exact .inr rfl
          · exact .inl z
        · rintro (z | z)
          · exact .inr z
          · exact .inl (by rw [← z])
    obtain ⟨Hb, rw, ts, h1, h2, h3, h4, h5, h6, h7⟩ := z
    rw [lss, List.take_length] at h7
    -- heapify
    refine ⟨_, rfl, p, ts, keyW rw, rfl, h4, by omega, fun c hc => ⟨_, _, _, st_of (h3 _ _ (h6 c hc)), rfl⟩, fun ts1 pm hA => ?_⟩
    refine fun d hd => ?_
    have mp1 : (upd H1 p (.lst (ts1.map V.ref))) p = some (.lst (ts1.map V.ref)) := upd_same
    have pd : p ≠ d := ne_of_none mp1 hd
    have bd : Hb d = none := by
      have : H1 d = none := by rw [upd_ne pd.symm] at hd; exact hd
      exact fresh_back h3 this
    have d0 : H d = none := fresh_back h1 bd
    have at0 : HpAt H Hb (upd (upd H1 p (.lst (ts1.map V.ref))) d (.dK [])) p d rw ts1 [] := ⟨h1, h2, bd, (h3.mut h2).trans (Ex.new hd), pd, by rw [upd_ne pd]; exact mp1, upd_same, fun c hc => h6 c (pm.mem_iff.mp hc), hA⟩
    have in0 : FP.DInv F (fun _ => none) (prs rw ts1) := FP.DInv.start fun e => by
      rw [← show (e.2, e.1) ∈ sts ↔ (e.2, e.1) ∈ F.st from Iff.rfl, ← h7]
      exact (pm.map _).mem_iff
    have l1 := pm.length_eq
    generalize upd (upd H1 p (.lst (ts1.map V.ref))) d (.dK []) = H2 at at0
    clear h1 h2 h3 h4 h6 h7 hA mp1 hd bd pm
    -- the places
    refine ⟨fun m σ H' => ∃ (v4 v5 v6 v7 v8 v9 : Option V) (Hb : Hp) (rw : Addr → WRow) (ts : List Addr) (kvs : List (Key × V)) (f : Str → Option Int), σ = [some (.ref x), some (.ref nt), some (.ref p), some (.ref d), v4, v5, v6, v7, v8, v9] ∧ HpAt H Hb H' p d rw ts kvs ∧ FP.DInv F f (prs rw ts) ∧ KOf Hb kvs f ∧ kvs.length ≤ fnd D.ps f ∧ ts.length ≤ sts.length + cnt D.ls f ∧ m = ts.length + (D.ls.length - cnt D.ls f), ⟨_, none, none, none, none, none, none, Hb, rw, ts1, [], fun _ => none, rfl, at0, in0, ⟨(fun e he => by cases he), (fun q => rfl)⟩, Nat.zero_le _, by omega, rfl⟩, ?_⟩
    rintro m σ H3 ⟨v4, v5, v6, v7, v8, v9, Hb, rw, ts, kvs, f, rfl, hat, inv, kof, lk, lt, rfl⟩
    have lc := cnt_le D.ls f
    refine ⟨_, rfl, p, _, rfl, .inl (SqL.of hat.hp), _, _, rfl, rfl, _, rfl, ?_⟩
    cases ts with
    | nil =>
      refine iteF ?_
      refine ⟨_, rfl, ?_⟩
      have fire := inv.done
      have same := FP.is_first fok fire
      exact k d H3 kvs (hat.b0.trans hat.ex) d0 hat.hd (by have := fnd_le D.ps f; omega) ((kof.same same).ex hat.ex)
    | cons c ts =>
      refine ite2 (fun _ => ?_) (fun n => absurd (decide_eq_true (show ((((c :: ts).map V.ref).length : Nat) : Int) > 0 by rw [List.length_map, List.length_cons]; omega)) n)
      refine ⟨_, fun σ' H' h => h, ?_⟩
      rw [List.length_cons] at lt
      have l800 := ok.l60
      -- pop
      refine ⟨_, rfl, p, c, ts, keyW rw, rfl, hat.hp, by omega, hat.rowV, hat.hA, fun ts1 pm hA1 => ?_⟩
      have least : ∀ e ∈ prs rw (c :: ts), (rw c).1 ≤ e.1 := fun e he => by
        obtain ⟨b, hb, rfl⟩ := List.mem_map.mp he
        exact FP.key_le (HeapM.heapA_least hat.hA b hb)
      have hc := hat.row c List.mem_cons_self
      have mem : ((rw c).1, (rw c).2.1) ∈ prs rw (c :: ts) := List.mem_cons_self
      have at1 := hat.popped pm hA1
      have lp := pm.length_eq
      have sub1 : ∀ e ∈ prs rw (c :: ts), e = ((rw c).1, (rw c).2.1) ∨ e ∈ prs rw ts1 := fun e he => by
        rcases List.mem_cons.mp he with z | z
        · exact .inl z
        · exact .inr ((pm.map _).mem_iff.mpr z)
      have sub2 : ∀ e ∈ prs rw ts1, e ∈ prs rw (c :: ts) := fun e he => List.mem_cons_of_mem _ ((pm.map _).mem_iff.mp he)
      generalize upd H3 p (.lst (ts1.map V.ref)) = H4 at at1
      generalize hr0 : rw c = r0 at least hc mem sub1
      obtain ⟨t0, p0, n0⟩ := r0
      have mem : (t0, p0) ∈ prs rw (c :: ts) := mem
      refine ⟨c, _, rfl, st_of (at1.ex _ _ hc), rfl, _, _, rfl, _, _, rfl, _, _, rfl, rfl, ?_⟩
      refine ⟨fun σ H' => σ = [some (.ref x), some (.ref nt), some (.ref p), some (.ref d), some (.int t0), some (.str p0), some (.str n0), v7, v8, v9] ∧ H' = H4 ∧ f p0 = none ∧ FP.ahead (F.stop p0) t0 = true, ?_, ?_⟩
      · have skip : (f p0).isSome = true ∨ FP.ahead (F.stop p0) t0 = false → ∃ m', m' < (c :: ts).length + (D.ls.length - cnt D.ls f) ∧ ∃ (v4 v5 v6 v7' v8' v9' : Option V) (Hb : Hp) (rw : Addr → WRow) (ts : List Addr) (kvs : List (Key × V)) (f : Str → Option Int), [some (V.ref x), some (.ref nt), some (.ref p), some (.ref d), some (.int t0), some (.str p0), some (.str n0), v7, v8, v9] = [some (.ref x), some (.ref nt), some (.ref p), some (.ref d), v4, v5, v6, v7', v8', v9'] ∧ HpAt H Hb H4 p d rw ts kvs ∧ FP.DInv F f (prs rw ts) ∧ KOf Hb kvs f ∧ kvs.length ≤ fnd D.ps f ∧ ts.length ≤ sts.length + cnt D.ls f ∧ m' = ts.length + (D.ls.length - cnt D.ls f) := fun h =>
          ⟨ts1.length + (D.ls.length - cnt D.ls f), by rw [List.length_cons]; omega, _, _, _, _, _, _, Hb, rw, ts1, kvs, f, rfl, at1, inv.skip mem sub1 sub2 h, kof, lk, by omega, rfl⟩
        have g : DGet H4 d (.str p0) (valV kvs (.inr p0)) := DGet.k (k := Sum.inr p0) at1.hd
        refine ⟨_, rfl, _, rfl, d, _, rfl, g, _, rfl, ?_⟩
        rw [kof.2 p0]
        cases hf : f p0 with
        | some u =>
          exact iteT (skip (.inl (by rw [hf] <;> rfl)))
        | none =>
          refine iteF ?_
          have e4 := at1.b0.trans at1.ex
          refine ⟨_, rfl, x, dx, _, rfl, e4 _ _ QA.ob, q_is_ahead .., _, rfl, _, rfl, x, t0, p0, D, ws, sts, bs, rfl, hq.ex e4, _, rfl, ?_⟩
          cases ha : FP.ahead (FP.minOf bs p0) t0 with
          | false => exact iteT (skip (.inr ha))
          | true => exact iteF ⟨rfl, rfl, rfl, ha⟩
      rintro σ H' ⟨rfl, rfl, hf, ah⟩
      have re := inv.ws _ mem ah
      obtain ⟨m0, pin⟩ := re.nn fok
      refine ⟨_, rfl, n0, rfl, fun nm hnm => ⟨_, rfl, by show 3 ≤ sizeLine; decide, fun u hu => ?_⟩⟩
      have hd4 := Ex.new (o := .tup [.str p0, nm, .int t0]) hu _ _ at1.hd
      have fl := fnd_le D.ps f
      refine ⟨_, rfl, _, rfl, d, _, rfl, DPut.k (k := Sum.inr p0) hd4 (sz_lt (by omega)), ?_⟩
      have at2 : HpAt H (upd Hb u (.tup [.str p0, nm, .int t0])) (upd (upd H' u (.tup [.str p0, nm, .int t0])) d (.dK (putK kvs (Sum.inr p0) (V.ref u)))) p d rw ts1 (putK kvs (Sum.inr p0) (V.ref u)) := at1.put hu
      have kof2 := (kof.ex (Ex.new (o := .tup [.str p0, nm, .int t0]) (fresh_back at1.ex hu))).put hf upd_same
      have lk2 : (putK kvs (Sum.inr p0) (V.ref u)).length ≤ fnd D.ps (upd1 f p0 t0) := by
        have h1 := length_putK kvs (Sum.inr p0) (V.ref u)
        have h2 := (fnd_upd (t := t0) hf D.ps).2 pin
        omega
      generalize putK kvs (Sum.inr p0) (V.ref u) = kvs2 at at2 kof2 lk2
      generalize upd (upd H' u (.tup [.str p0, nm, .int t0])) d (.dK kvs2) = H5 at at2
      generalize upd Hb u (.tup [.str p0, nm, .int t0]) = Hb2 at at2 kof2
      clear hd4 at1
      have e5 := at2.b0.trans at2.ex
      obtain ⟨cc, ys, hcc, hys, dys⟩ := QA.lk p0 pin
      have gL : DGet H5 lv (.str p0) (valV kl (.inr p0)) := DGet.k (k := Sum.inr p0) (e5 _ _ QA.lv)
      rw [hcc] at gL
      have ly := dps_len dys
      rw [List.length_map] at ly
      have lcount : ys.length = (D.ls.filter fun k => decide (k.o = p0)).length := by
        rw [ly, outL_cnt D.ls p0 D.ls.length (Nat.le_refl _), List.take_length]
      have lc2 := cnt_upd (t := t0) hf D.ls
      have lc3 := cnt_le D.ls (upd1 f p0 t0)
      refine ⟨_, rfl, x, a.C_Question, dx, _, _, rfl, e5 _ _ QA.ob, T.cl_Question, T.na_Question_leaving, q_leaving .., _, rfl, lv, _, rfl, gL, cc, rfl, ⟨_, ex_l e5 hys⟩, for_list (K := K) (a := cc) (xs := ys) (fun j σ H' => ∃ (v7 v8 v9 : Option V) (Hb' : Hp) (rw' : Addr → WRow) (ts' : List Addr), σ = [some (.ref x), some (.ref nt), some (.ref p), some (.ref d), some (.int t0), some (.str p0), some (.str n0), v7, v8, v9] ∧ Ex Hb2 Hb' ∧ HpAt H Hb' H' p d rw' ts' kvs2 ∧ ts'.length ≤ ts1.length + j ∧
        (∀ e ∈ prs rw' ts', e ∈ prs rw ts1 ∨ ∃ r ∈ (outL D.ls p0 D.ls.length).take j, ∃ row, nums[r.1]? = some row ∧ FP.thr (wt D ws) row t0 = some e.1 ∧ e.2 = r.2.t) ∧ (∀ e ∈ prs rw ts1, e ∈ prs rw' ts') ∧ (∀ r ∈ (outL D.ls p0 D.ls.length).take j, ∀ row, nums[r.1]? = some row → ∀ t', FP.thr (wt D ws) row t0 = some t' → (t', r.2.t) ∈ prs rw' ts')) ⟨v7, v8, v9, Hb2, rw, ts1, rfl, Ex.refl _, at2, Nat.le_refl _, (fun e he => .inl he), (fun e he => he), (fun r hr => by cases hr)⟩ (fun i σ H' _ z => by obtain ⟨_, _, _, Hb', rw', ts', _, _, h3, _⟩ := z; exact ex_l (h3.b0.trans h3.ex) hys) (fun j y σ H' hy z => ?_) (fun σ H' z => ?_)⟩
      · obtain ⟨v7, v8, v9, Hb', rw', ts', rfl, xb, at3, l3, i1, i2, i3⟩ := z
        have e6 := at3.b0.trans at3.ex
        have hj := (List.getElem?_eq_some_iff.mp hy).1
        obtain ⟨r, hrr, hmr, dp⟩ := pick (dps_ex e6 dys) hy
        obtain ⟨t, l', rfl, st, uu, stl⟩ := nl_in dp
        obtain ⟨jn, kq⟩ := r
        obtain ⟨jl, hkq, ko⟩ := outL_mem.mp hmr
        have nl := nok.len
        obtain ⟨row, hrow⟩ : ∃ row, nums[jn]? = some row := ⟨_, List.getElem?_eq_getElem (by omega)⟩
        obtain ⟨rl, rok⟩ := nok.row row (List.mem_of_getElem? hrow)
        obtain ⟨rv, hrv, drv⟩ := pick_i (dps_ex e6 dns) hrow
        obtain ⟨rr, rfl, srr⟩ := row_in drv
        refine ⟨t, _, rfl, st, rfl, _, _, rfl, _, _, rfl, rfl, ?_⟩
        refine ⟨_, rfl, x, dx, _, rfl, e6 _ _ QA.ob, q_through .., _, rfl, _, rfl, nt, _, _, _, rfl, rfl, ex_t e6 hnt, atI_nat hrv, _, rfl, x, rr, t0, D, ws, sts, bs, row, rfl, hq.ex e6, srr, rl, rok, wok, m0, ?_⟩
        refine ⟨_, rfl, ?_⟩
        have tk := take_one hrr
        cases hth : FP.thr (wt D ws) row t0 with
        | none =>
          refine ⟨rfl, _, rfl, iteF ⟨_, _, _, Hb', rw', ts', rfl, xb, at3, by omega, fun e he => ?_, i2, fun q hq row' hrow' t' ht' => ?_⟩⟩
          · rcases i1 e he with z | ⟨q, hq, z⟩
            · exact .inl z
            · exact .inr ⟨q, by rw [tk]; exact List.mem_append_left _ hq, z⟩
          · rw [tk] at hq
            rcases List.mem_append.mp hq with hq | hq
            · exact i3 q hq row' hrow' t' ht'
            · rw [List.mem_singleton.mp hq] at hrow'
              rw [show row' = row from Option.some.inj (hrow'.symm.trans hrow), hth] at ht'
              cases ht'
        | some tp =>
          refine ⟨rfl, _, rfl, iteT ?_⟩
          refine ⟨_, rfl, _, rfl, _, rfl, l', _, _, _, rfl, rfl, stl, atI_nat (j := 2) rfl, _, rfl, l', _, _, _, rfl, rfl, stl, atI_nat (j := 0) rfl, by show 3 ≤ sizeLine; decide, fun u1 hu1 => ?_⟩
          have hp1 := Ex.new (o := tupW (tp, kq.t, kq.n)) hu1 _ _ at3.hp
          refine ⟨p, u1, ts', keyW (setW rw' u1 (tp, kq.t, kq.n)), rfl, hp1, by omega, at3.rowV2 (r := (tp, kq.t, kq.n)) hu1, at3.keyA hu1, fun ts2 pm2 hA2 => ?_⟩
          have un := at3.notin hu1
          have mm : ∀ {e : Int × Str}, e ∈ prs (setW rw' u1 (tp, kq.t, kq.n)) ts2 ↔ e = (tp, kq.t) ∨ e ∈ prs rw' ts' := fun {e} => prs_set un pm2
          have l2 := pm2.length_eq
          rw [List.length_cons] at l2
          refine ⟨_, _, _, upd Hb' u1 (tupW (tp, kq.t, kq.n)), setW rw' u1 (tp, kq.t, kq.n), ts2, rfl, xb.trans (Ex.new (fresh_back at3.ex hu1)), at3.pushed hu1 pm2 hA2, by omega, fun e he => ?_, fun e he => mm.mpr (.inr (i2 e he)), fun q hq row' hrow' t' ht' => ?_⟩
          · rcases mm.mp he with z | z
            · rw [z]
              exact .inr ⟨(jn, kq), by rw [tk]; exact List.mem_append_right _ List.mem_cons_self, row, hrow, hth, rfl⟩
            · rcases i1 e z with z | ⟨q, hq, z⟩
              · exact .inl z
              · exact .inr ⟨q, by rw [tk]; exact List.mem_append_left _ hq, z⟩
          · rw [tk] at hq
            rcases List.mem_append.mp hq with hq | hq
            · exact mm.mpr (.inr (i3 q hq row' hrow' t' ht'))
            · have eq := List.mem_singleton.mp hq
              rw [eq] at hrow' ⊢
              rw [show row' = row from Option.some.inj (hrow'.symm.trans hrow), hth] at ht'
              rw [← Option.some.inj ht']
              exact mm.mpr (.inl rfl)
      · obtain ⟨v7, v8, v9, Hb', rw', ts', rfl, xb, at3, l3, i1, i2, i3⟩ := z
        rw [ly, List.take_length] at i1 i3
        have inv2 : FP.DInv F (upd1 f p0 t0) (prs rw' ts') := FP.DInv.find fok.rows inv mem sub1 sub2 least hf ah (fun e he => by
          rcases i1 e he with z | ⟨⟨jn, kq⟩, hm, row, h1, h2, h3⟩
          · exact .inl z
          · obtain ⟨_, h4, h5⟩ := outL_mem.mp hm
            exact .inr ⟨lkN kq row, zip_mem.mpr ⟨jn, kq, row, h4, h1, rfl⟩, h5, h2, h3⟩) i2 (fun lk0 hl0 ho t' ht' => by
          obtain ⟨jn, kq, row, h1, h2, rfl⟩ := zip_mem.mp hl0
          exact i3 (jn, kq) (outL_mem.mpr ⟨(List.getElem?_eq_some_iff.mp h1).1, h1, ho⟩) row h2 t' ht')
        exact ⟨ts'.length + (D.ls.length - cnt D.ls (upd1 f p0 t0)), by rw [List.length_cons]; omega, _, _, _, _, _, _, Hb', rw', ts', kvs2, upd1 f p0 t0, rfl, at3, inv2, kof2.ex xb, lk2, by omega, rfl⟩
end
end EV

set_option Elab.async false
set_option linter.all false
set_option maxRecDepth 100000
set_option maxHeartbeats 4000000
namespace EV
open PySem PySem.Spec PyProof.Rows L2 EvS Evl FD EnT
def sp_Question_first_minutes (K : PySem.W.Frag) (C CQ : Addr) : Sp := fun vs H Q _ => ∃ (x nt : Addr) (D : LandD) (ws : List (Int × Str)) (sts bs : List (Str × Int)) (nums : List (List (Option Int))) (ns : List V), vs = [.ref x, .ref nt] ∧ IsQ K C CQ H x D ws sts bs ∧ LandOk D ∧ WOk D ws ∧ StOk D sts ∧ sts.length ≤ 800 ∧
  SqT K H nt ns ∧ DpAll K H ns (nums.map dRow) ∧ NumsOk D nums ∧ ∀ d H', Ex H H' → H d = none → Tab H' d (FP.first (fireN D ws sts bs nums)) → Q (.ref d) H'
def numsS (s : Nat) (D : LandD) : List (List (Option Int)) := D.ls.map fun k => k.ts.map (sideN s)
theorem numsS_ok {D : LandD} (ok : LandOk D) (s : Nat) : NumsOk D (numsS s D) where
  len := List.length_map ..
  row := fun row h => by
    obtain ⟨k, hk, rfl⟩ := List.mem_map.mp h
    refine ⟨by rw [List.length_map]; exact (ok.lk k hk).len, fun x hx => ?_⟩
    obtain ⟨b, hb, e⟩ := List.mem_map.mp hx
    cases b with
    | none => cases e
    | some b =>
      unfold sideN at e
      obtain rfl := Option.some.inj e
      obtain ⟨h1, h2, h3⟩ := (ok.lk k hk).ok _ hb
      split
      · exact h1
      · exact Int.le_trans h1 h2
theorem zip_numsS (s : Nat) : ∀ ls : List Link, List.zipWith lkN ls (ls.map fun k => k.ts.map (sideN s)) = ls.map (lkS s)
  | [] => rfl
  | k :: ls => by
    rw [List.map_cons, List.zipWith_cons_cons, zip_numsS s ls]
    rfl
theorem fireN_S (D : LandD) (ws : List (Int × Str)) (sts bs : List (Str × Int)) (s : Nat) : fireN D ws sts bs (numsS s D) = fireOf D ws sts bs s := by
  unfold fireN fireOf numsS
  rw [zip_numsS]
def spNums (s : Nat) (K : PySem.W.Frag) (C : Addr) : Sp := fun vs H Q _ => ∃ (l : Addr) (D : LandD), vs = [.ref l] ∧ IsLand K C H l D ∧ LandOk D ∧ ∀ H' nt ns, Ex H H' → H nt = none → SqT K H' nt ns → DpAll K H' ns ((numsS s D).map dRow) → Q (.ref nt) H'
def sp_least_numbers (K : PySem.W.Frag) (C : Addr) : Sp := spNums 0 K C
def sp_most_numbers (K : PySem.W.Frag) (C : Addr) : Sp := spNums 1 K C
theorem frozen_row (row : List (Option Int)) : frozen (dRow row) = true := by
  unfold dRow
  rw [frozen]
  exact frozenAll_of fun d hd => by
    obtain ⟨b, _, rfl⟩ := List.mem_map.mp hd
    exact frozen_opt b
theorem dps_opt {K : PySem.W.Frag} {H : Hp} : ∀ row : List (Option Int), DpAll K H (row.map vInt) (row.map dOpt)
  | [] => .nil
  | o :: row => .cons (dp_opt o) (dps_opt row)
section
variable {P : Program} {w : World} {K : PySem.W.Frag} {mg : Str → Option Value} {base : Heap} {a : Ad}
theorem G_Question_first_minutes (T : Txt K mg a) : FnOk P w K mg base CX0 3 a.f_Question_first_minutes a.d_Question_first_minutes ["self", "numbers"] (sp_Question_first_minutes K a.C a.C_Question) := by
  refine T.F_Question_first_minutes.ok sc_Question_first_minutes (fun vs H Q E h => ?_) (fun cdv A outer s H vs Q E hr h => ?_)
  · obtain ⟨x, nt, D, ws, sts, bs, nums, ns, rfl, _⟩ := h
    rfl
  · obtain ⟨x, nt, D, ws, sts, bs, nums, ns, rfl, hq, ok, wok, sok, ls, hnt, dns, nok, k⟩ := h
    obtain ⟨dx, l, w, s, b, sp, stp, lv, us, ss, bb, acc, kl, QA⟩ := id hq
    refine ⟨_, (pss_one (ps_ret (pe_dc (own := [("place", 2), ("_", 3), ("minute", 4)]) (g := gTup K 3 (gCons (gName 2) (gCons (gName 3) (gCons (gName 4) gNil)))) (tt := tYes) rfl sc_Question_first_minutes.nd (FD.pi_valuesN (pe_meth (pv 0) T.cl_Question T.m_Question_catches (G_Question_catches T) (hr.mono (by decide)) T.B_Question_catches .nil pass0 (pa_cons (pv 1) pa_nil))) (blkOk_by (N := ["self", "numbers", "place", "_", "minute"]) (sc := defScope s_Question_first_minutes) (by decide +kernel)) (fun _ _ _ _ _ => (pg_tup (by rfl) (pgs_cons (pg_name (i := 2) sc_Question_first_minutes.nd rfl (Or.inl rfl)) (pgs_cons (pg_name (i := 3) sc_Question_first_minutes.nd rfl (Or.inl rfl)) (pgs_cons (pg_name (i := 4) sc_Question_first_minutes.nd rfl (Or.inl rfl)) pgs_nil))))) (fun _ _ _ _ _ => pts_nil) (fun _ _ _ _ _ => (pv 2)) (fun _ _ _ _ _ => (pv 4))))), ?_⟩
    refine ⟨_, rfl, x, dx, _, rfl, QA.ob, q_catches .., _, rfl, x, nt, D, ws, sts, bs, nums, ns, rfl, hq, ok, wok, sok, ls, hnt, dns, nok, fun d H1 kvs e1 d0 hd lk kof => ⟨d, kvs, rfl, hd, fun od D0 hD => ?_⟩⟩
    have e2 : Ex H (upd H1 d (.frz od (.dK kvs))) := e1.mut d0
    have kof2 : KOf (upd H1 d (.frz od (.dK kvs))) kvs (FP.first (fireN D ws sts bs nums)) := ⟨fun e he => by
      obtain ⟨q, t, b, nm, h1, h2, h3⟩ := kof.1 e he
      refine ⟨q, t, b, nm, h1, ?_, h3⟩
      rw [upd_ne (fun z => by rw [z, hd] at h2; cases h2)]
      exact h2, kof.2⟩
    have md : (upd H1 d (.frz od (.dK kvs))) d = some (.frz od (.dK kvs)) := upd_same
    have D00 : H D0 = none := fresh_back e2 hD
    generalize upd H1 d (.frz od (.dK kvs)) = H2 at e2 kof2 md hD
    let f := FP.first (fireN D ws sts bs nums)
    refine dcY_it (walk_values (kvs := kvs)) (fun i H' => Ex H2 H' ∧ ∃ (kv2 : List (Key × V)) (g : Str → Option Int), H' D0 = some (.dK kv2) ∧ kv2.length ≤ i ∧ TabK kv2 g ∧ (∀ q t, g q = some t → f q = some t) ∧ ∀ e ∈ kvs.take i, ∀ q : Str, e.1 = .inr q → g q = f q) ⟨Ex.new hD, [], fun _ => none, upd_same, Nat.le_refl _, .nil, (fun q t h => by cases h), (fun e he => by cases he)⟩ (fun i H' _ z => z.1 _ _ md) (fun i y H' H'' hi z yy => ?_) (fun H3 z => ?_)
    · obtain ⟨rfl, kk, hk⟩ := yy
      obtain ⟨e, kv2, g, hv, lv2, tb, g1, g2⟩ := z
      obtain ⟨q, t, bb, nm, h1, h2, h3⟩ := kof2.1 _ (List.mem_of_getElem? hk)
      cases h1
      refine ⟨bb, _, rfl, st_of (e _ _ h2), rfl, _, _, rfl, _, _, rfl, _, _, rfl, rfl, rfl, _, rfl, _, rfl, kv2, .inr q, rfl, hv, sz_lt (by omega), e.mut hD, putK kv2 (.inr q) (.int t), upd1 g q t, upd_same, ?_, tb.put q t, fun q' t' h => ?_, fun e' he' q' hq' => ?_⟩
      · have := length_putK kv2 (Sum.inr q) (V.int t)
        omega
      · unfold upd1 at h
        split at h
        · rename_i z
          cases h
          rw [z]
          exact h3
        · exact g1 q' t' h
      · unfold upd1
        split
        · rename_i z
          rw [z]
          exact h3.symm
        · rename_i z
          rw [take_one hk] at he'
          rcases List.mem_append.mp he' with h | h
          · exact g2 e' h q' hq'
          · rw [List.mem_singleton.mp h] at hq'
            exact absurd (Sum.inr.inj hq').symm z
    · obtain ⟨e, kv2, g, hv, lv2, tb, g1, g2⟩ := z
      rw [List.take_length] at g2
      refine k D0 H3 (e2.trans e) D00 ⟨kv2, hv, by omega, fun p => ?_⟩
      rw [tb p]
      have : g p = f p := by
        cases hf : f p with
        | none =>
          cases hg : g p with
          | none => rfl
          | some t => rw [g1 p t hg] at hf; cases hf
        | some t =>
          have h2 := kof2.2 p
          rw [show FP.first (fireN D ws sts bs nums) p = some t from hf] at h2
          cases hv2 : valV kvs (.inr p) with
          | none => rw [hv2] at h2; cases h2
          | some v =>
            unfold valV at hv2
            obtain ⟨kv, h3, h4⟩ := Option.map_eq_some_iff.mp hv2
            have h5 := List.find?_some h3
            rw [g2 kv (List.mem_of_find?_eq_some h3) p (of_decide_eq_true h5)]
            exact hf
      rw [this]
theorem G_least_numbers (T : Txt K mg a) : FnOk P w K mg base CX0 1 a.f_least_numbers a.d_least_numbers ["land"] (sp_least_numbers K a.C) := by
  refine T.F_least_numbers.ok sc_least_numbers (fun vs H Q E h => ?_) (fun cdv A outer s H vs Q E hr h => ?_)
  · obtain ⟨l, D, rfl, _⟩ := h
    rfl
  · obtain ⟨l, D, rfl, hl, ok, k⟩ := h
    obtain ⟨dxl, wi, pl, li, pa, rows, prs, L⟩ := hl
    have lr := dps_len L.ls
    rw [List.length_map] at lr
    have l60 := ok.l60
    have w4 := ok.w4
    refine ⟨_, (pss_one (ps_ret (pe_callTy call_tupK (by rfl) T.z_tuple (by decide +kernel) (pa_cons (pe_lc (own := [("link", 1)]) (g := gName 1) (tt := tYes) rfl sc_least_numbers.nd (pi_tup (pe_fld (pv 0) rfl)) (blkOk_by (N := ["land", "link", "bounds"]) (sc := defScope s_least_numbers) (by decide +kernel)) (fun _ _ _ _ _ => pg_name (i := 1) sc_least_numbers.nd rfl (Or.inl rfl)) (fun _ _ _ _ _ => pts_nil) (fun _ _ _ _ _ => (pe_callTy (show CallR _ _ (rTupK K) from call_tupK) (by rfl) T.z_tuple (by decide +kernel) (pa_cons (pe_lc (own := [("bounds", 2)]) (g := gName 2) (tt := tYes) rfl sc_least_numbers.nd (show PI _ _ _ (iTup K (tOp (rIxT K) (tVar 1) (tC (.int 3)))) from (pi_tup (pe_ix (show IxR _ (rIxT K) from ix_tup) (pv 1) pe_int (fun _ _ => rfl)))) (EvS.blkOk_nest (N := ["land", "link", "bounds"]) (sc := defScope s_least_numbers) rfl rfl (by decide +kernel)) (fun _ _ _ _ _ => pg_name (i := 2) sc_least_numbers.nd rfl (Or.inl rfl)) (fun _ _ _ _ _ => pts_nil) (fun _ _ _ _ _ => (pe_ifExp (pt_cmpR op_isN (pv 2) pe_non (nomark _)) pe_non (pe_ix (show IxR _ (rIxT K) from ix_tup) (pv 2) pe_int (fun _ _ => rfl))))) pa_nil)))) pa_nil)))), ?_⟩
    refine ⟨_, rfl, l, a.C, dxl, _, _, rfl, L.ob, T.cl, T.nL, fs_links .., li, rfl, ⟨_, L.li⟩, fun D0 hD => lcY_tup (K := K) (a := li) (xs := rows) (fun i H' => Ex H H' ∧ ∃ acc, H' D0 = some (.lst acc) ∧ acc.length = i ∧ DpAll K (del H' D0) acc (((numsS 0 D).take i).map dRow)) ⟨Ex.new hD, [], upd_same, rfl, .nil⟩ (fun i H' _ z => ex_t z.1 L.li) (fun i y H' hy z => ?_) (fun H2 z => ?_)⟩
    · obtain ⟨e, acc, ha, la, da⟩ := z
      have hi := (List.getElem?_eq_some_iff.mp hy).1
      obtain ⟨q, hq, hm, dp⟩ := pick (dps_ex e L.ls) hy
      obtain ⟨t, u, vs, rfl, hT, hU, hts⟩ := link_in dp
      have lv := dps_len hts
      rw [List.length_map] at lv
      have lkt := (ok.lk q hm).len
      have nq : (numsS 0 D)[i]? = some (q.ts.map (sideN 0)) := by unfold numsS; rw [List.getElem?_map, hq]; rfl
      refine ⟨rfl, _, rfl, t, _, _, _, rfl, rfl, hT, atI_nat (j := 3) rfl, u, rfl, ⟨_, hU⟩, fun D1 hD1 => lcY_tup (K := K) (a := u) (xs := vs) (fun j H2 => Ex H' H2 ∧ H2 D1 = some (.lst (((q.ts.take j).map (sideN 0)).map vInt))) ⟨Ex.new hD1, upd_same⟩ (fun j H2 _ z => ex_t z.1 hU) (fun j y2 H2 hy2 z => ?_) (fun H2 z => ?_)⟩
      · obtain ⟨e2, h1⟩ := z
        have hj := (List.getElem?_eq_some_iff.mp hy2).1
        obtain ⟨bn, hbn, _, db⟩ := pick (dps_ex e2 hts) hy2
        have nx : ∀ {v : V}, v = vInt (sideN 0 bn) → ∃ acc, H2 D1 = some (.lst acc) ∧ acc.length < sizeLine ∧ Ex H' (upd H2 D1 (.lst (acc ++ [v]))) ∧ (upd H2 D1 (.lst (acc ++ [v]))) D1 = some (.lst (((q.ts.take (j + 1)).map (sideN 0)).map vInt)) := fun {v} ev =>
          ⟨_, h1, sz_lt (by simp only [List.length_map, List.length_take]; omega), e2.mut hD1, by rw [upd_same, take_one hbn, List.map_append, List.map_append, ev]; rfl⟩
        refine ⟨rfl, _, rfl, ?_⟩
        cases bn with
        | none =>
          cases db
          exact ⟨rfl, _, rfl, iteT (nx rfl)⟩
        | some bn =>
          cases db with
          | @tup z _ _ hz hr =>
            cases hr with
            | cons a1 hr =>
              cases a1
              cases hr with
              | cons a2 hr =>
                cases a2
                cases hr
                exact ⟨rfl, _, rfl, iteF ⟨_, rfl, z, _, _, _, rfl, rfl, hz, atI_nat (j := 0) rfl, nx rfl⟩⟩
      obtain ⟨e2, h1⟩ := z
      rw [lv, List.take_length] at h1
      have ha2 := e2 _ _ ha
      refine ⟨D1, _, rfl, .inl ⟨SqL.of h1, fun tl htl => ?_⟩⟩
      have e3 := e2.trans (Ex.new (o := .tup ((q.ts.map (sideN 0)).map vInt)) htl)
      have tD : tl ≠ D0 := fun z => by rw [z, ha2] at htl; cases htl
      refine ⟨acc, e3 _ _ ha, sz_lt (by omega), (e.trans e3).mut hD, _, upd_same, by rw [List.length_append, la] <;> rfl, ?_⟩
      rw [del_upd, take_one nq, List.map_append]
      exact dps_app (dps_ex (ex_del e3) da) (dps_one (.tup (st_of (del_at tD upd_same)) (dps_opt _)))
    · obtain ⟨e, acc, ha, la, da⟩ := z
      have ln : (numsS 0 D).length = rows.length := by unfold numsS; rw [List.length_map, lr]
      rw [← ln, List.take_length] at da
      refine ⟨D0, acc, rfl, .inl ⟨SqL.of ha, fun nt hnt => ?_⟩⟩
      exact k _ nt acc (e.trans (Ex.new hnt)) (fresh_back e hnt) (st_of upd_same) (dps_ex (del_ex.trans (Ex.new hnt)) da)
theorem G_most_numbers (T : Txt K mg a) : FnOk P w K mg base CX0 1 a.f_most_numbers a.d_most_numbers ["land"] (sp_most_numbers K a.C) := by
  refine T.F_most_numbers.ok sc_most_numbers (fun vs H Q E h => ?_) (fun cdv A outer s H vs Q E hr h => ?_)
  · obtain ⟨l, D, rfl, _⟩ := h
    rfl
  · obtain ⟨l, D, rfl, hl, ok, k⟩ := h
    obtain ⟨dxl, wi, pl, li, pa, rows, prs, L⟩ := hl
    have lr := dps_len L.ls
    rw [List.length_map] at lr
    have l60 := ok.l60
    have w4 := ok.w4
    refine ⟨_, (pss_one (ps_ret (pe_callTy call_tupK (by rfl) T.z_tuple (by decide +kernel) (pa_cons (pe_lc (own := [("link", 1)]) (g := gName 1) (tt := tYes) rfl sc_most_numbers.nd (pi_tup (pe_fld (pv 0) rfl)) (blkOk_by (N := ["land", "link", "bounds"]) (sc := defScope s_most_numbers) (by decide +kernel)) (fun _ _ _ _ _ => pg_name (i := 1) sc_most_numbers.nd rfl (Or.inl rfl)) (fun _ _ _ _ _ => pts_nil) (fun _ _ _ _ _ => (pe_callTy (show CallR _ _ (rTupK K) from call_tupK) (by rfl) T.z_tuple (by decide +kernel) (pa_cons (pe_lc (own := [("bounds", 2)]) (g := gName 2) (tt := tYes) rfl sc_most_numbers.nd (show PI _ _ _ (iTup K (tOp (rIxT K) (tVar 1) (tC (.int 3)))) from (pi_tup (pe_ix (show IxR _ (rIxT K) from ix_tup) (pv 1) pe_int (fun _ _ => rfl)))) (EvS.blkOk_nest (N := ["land", "link", "bounds"]) (sc := defScope s_most_numbers) rfl rfl (by decide +kernel)) (fun _ _ _ _ _ => pg_name (i := 2) sc_most_numbers.nd rfl (Or.inl rfl)) (fun _ _ _ _ _ => pts_nil) (fun _ _ _ _ _ => (pe_ifExp (pt_cmpR op_isN (pv 2) pe_non (nomark _)) pe_non (pe_ix (show IxR _ (rIxT K) from ix_tup) (pv 2) pe_int (fun _ _ => rfl))))) pa_nil)))) pa_nil)))), ?_⟩
    refine ⟨_, rfl, l, a.C, dxl, _, _, rfl, L.ob, T.cl, T.nL, fs_links .., li, rfl, ⟨_, L.li⟩, fun D0 hD => lcY_tup (K := K) (a := li) (xs := rows) (fun i H' => Ex H H' ∧ ∃ acc, H' D0 = some (.lst acc) ∧ acc.length = i ∧ DpAll K (del H' D0) acc (((numsS 1 D).take i).map dRow)) ⟨Ex.new hD, [], upd_same, rfl, .nil⟩ (fun i H' _ z => ex_t z.1 L.li) (fun i y H' hy z => ?_) (fun H2 z => ?_)⟩
    · obtain ⟨e, acc, ha, la, da⟩ := z
      have hi := (List.getElem?_eq_some_iff.mp hy).1
      obtain ⟨q, hq, hm, dp⟩ := pick (dps_ex e L.ls) hy
      obtain ⟨t, u, vs, rfl, hT, hU, hts⟩ := link_in dp
      have lv := dps_len hts
      rw [List.length_map] at lv
      have lkt := (ok.lk q hm).len
      have nq : (numsS 1 D)[i]? = some (q.ts.map (sideN 1)) := by unfold numsS; rw [List.getElem?_map, hq]; rfl
      refine ⟨rfl, _, rfl, t, _, _, _, rfl, rfl, hT, atI_nat (j := 3) rfl, u, rfl, ⟨_, hU⟩, fun D1 hD1 => lcY_tup (K := K) (a := u) (xs := vs) (fun j H2 => Ex H' H2 ∧ H2 D1 = some (.lst (((q.ts.take j).map (sideN 1)).map vInt))) ⟨Ex.new hD1, upd_same⟩ (fun j H2 _ z => ex_t z.1 hU) (fun j y2 H2 hy2 z => ?_) (fun H2 z => ?_)⟩
      · obtain ⟨e2, h1⟩ := z
        have hj := (List.getElem?_eq_some_iff.mp hy2).1
        obtain ⟨bn, hbn, _, db⟩ := pick (dps_ex e2 hts) hy2
        have nx : ∀ {v : V}, v = vInt (sideN 1 bn) → ∃ acc, H2 D1 = some (.lst acc) ∧ acc.length < sizeLine ∧ Ex H' (upd H2 D1 (.lst (acc ++ [v]))) ∧ (upd H2 D1 (.lst (acc ++ [v]))) D1 = some (.lst (((q.ts.take (j + 1)).map (sideN 1)).map vInt)) := fun {v} ev =>
          ⟨_, h1, sz_lt (by simp only [List.length_map, List.length_take]; omega), e2.mut hD1, by rw [upd_same, take_one hbn, List.map_append, List.map_append, ev]; rfl⟩
        refine ⟨rfl, _, rfl, ?_⟩
        cases bn with
        | none =>
          cases db
          exact ⟨rfl, _, rfl, iteT (nx rfl)⟩
        | some bn =>
          cases db with
          | @tup z _ _ hz hr =>
            cases hr with
            | cons a1 hr =>
              cases a1
              cases hr with
              | cons a2 hr =>
                cases a2
                cases hr
                exact ⟨rfl, _, rfl, iteF ⟨_, rfl, z, _, _, _, rfl, rfl, hz, atI_nat (j := 1) rfl, nx rfl⟩⟩
      obtain ⟨e2, h1⟩ := z
      rw [lv, List.take_length] at h1
      have ha2 := e2 _ _ ha
      refine ⟨D1, _, rfl, .inl ⟨SqL.of h1, fun tl htl => ?_⟩⟩
      have e3 := e2.trans (Ex.new (o := .tup ((q.ts.map (sideN 1)).map vInt)) htl)
      have tD : tl ≠ D0 := fun z => by rw [z, ha2] at htl; cases htl
      refine ⟨acc, e3 _ _ ha, sz_lt (by omega), (e.trans e3).mut hD, _, upd_same, by rw [List.length_append, la] <;> rfl, ?_⟩
      rw [del_upd, take_one nq, List.map_append]
      exact dps_app (dps_ex (ex_del e3) da) (dps_one (.tup (st_of (del_at tD upd_same)) (dps_opt _)))
    · obtain ⟨e, acc, ha, la, da⟩ := z
      have ln : (numsS 1 D).length = rows.length := by unfold numsS; rw [List.length_map, lr]
      rw [← ln, List.take_length] at da
      refine ⟨D0, acc, rfl, .inl ⟨SqL.of ha, fun nt hnt => ?_⟩⟩
      exact k _ nt acc (e.trans (Ex.new hnt)) (fresh_back e hnt) (st_of upd_same) (dps_ex (del_ex.trans (Ex.new hnt)) da)
end
end EV

set_option Elab.async false
set_option linter.all false
set_option maxRecDepth 100000
set_option maxHeartbeats 4000000
namespace EV
open PySem PySem.Spec PyProof.Rows L2 EvS Evl FD EnT
def WsAt (K : PySem.W.Frag) (H : Hp) (D : LandD) (wvs : List V) (wss : List (List (Int × Str))) : Prop := wvs.length = wss.length ∧ ∀ (i : Nat) (v : V), wvs[i]? = some v → ∃ (w : Addr) (us : List V) (ws : List (Int × Str)), v = .ref w ∧ wss[i]? = some ws ∧ SqL K H w us ∧ DpAll K H us (ws.map dWr) ∧ WOk D ws
def QsAt (K : PySem.W.Frag) (C CQ : Addr) (H : Hp) (D : LandD) (qs : List V) (wss : List (List (Int × Str))) (sts bs : List (Str × Int)) : Prop := qs.length = wss.length ∧ ∀ (i : Nat) (ws : List (Int × Str)), wss[i]? = some ws → ∃ x : Addr, qs[i]? = some (.ref x) ∧ IsQ K C CQ H x D ws sts bs
def PmIn (D : LandD) (rs : List (Str × Int)) : Prop := ∀ r ∈ rs, r.1 ∈ D.ps
def sp_ask_all (K : PySem.W.Frag) (C CQ : Addr) : Sp := fun vs H Q _ => ∃ (l W s b pl : Addr) (D : LandD) (wss : List (List (Int × Str))) (wvs : List V) (sts bs : List (Str × Int)) (ss bb : List V) (pq : List Str), vs = [.ref l, .ref W, .ref s, .ref b, .ref pl] ∧ IsLand K C H l D ∧ LandOk D ∧ SqL K H W wvs ∧ WsAt K H D wvs wss ∧ 1 ≤ wss.length ∧ wss.length ≤ 1000 ∧
  SqL K H s ss ∧ DpAll K H ss (sts.map dPm) ∧ sts.length ≤ 1000 ∧ PmIn D sts ∧ SqL K H b bb ∧ DpAll K H bb (bs.map dPm) ∧ bs.length ≤ 1000 ∧ PmIn D bs ∧ (SqL K H pl (pq.map V.str) ∨ SqT K H pl (pq.map V.str)) ∧ (∀ q ∈ pq, q ∈ D.ps) ∧
  ∀ H' o qs, Ex H H' → H o = none → H' o = some (.lst qs) → QsAt K C CQ H' D qs wss sts bs → Q (.ref o) H'
def sp_ask (K : PySem.W.Frag) (C CQ : Addr) : Sp := fun vs H Q _ => ∃ (l w s b pl : Addr) (D : LandD) (ws : List (Int × Str)) (us : List V) (sts bs : List (Str × Int)) (ss bb : List V) (pq : List Str), vs = [.ref l, .ref w, .ref s, .ref b, .ref pl] ∧ IsLand K C H l D ∧ LandOk D ∧ SqL K H w us ∧ DpAll K H us (ws.map dWr) ∧ WOk D ws ∧
  SqL K H s ss ∧ DpAll K H ss (sts.map dPm) ∧ sts.length ≤ 1000 ∧ PmIn D sts ∧ SqL K H b bb ∧ DpAll K H bb (bs.map dPm) ∧ bs.length ≤ 1000 ∧ PmIn D bs ∧ (SqL K H pl (pq.map V.str) ∨ SqT K H pl (pq.map V.str)) ∧ (∀ q ∈ pq, q ∈ D.ps) ∧
  ∀ H' x, Ex H H' → IsQ K C CQ H' x D ws sts bs → Q (.ref x) H'
section
variable {P : Program} {w : World} {K : PySem.W.Frag} {mg : Str → Option Value} {base : Heap} {a : Ad}
theorem G_ask_all (T : Txt K mg a) : FnOk P w K mg base CX0 4 a.f_ask_all a.d_ask_all ["land", "weathers", "starts", "breaks", "places"] (sp_ask_all K a.C a.C_Question) := by
  refine T.F_ask_all.ok sc_ask_all (fun vs H Q E h => ?_) (fun cdv A outer s H vs Q E hr h => ?_)
  · obtain ⟨l, W, s, b, pl, D, wss, wvs, sts, bs, ss, bb, pq, rfl, _⟩ := h
    rfl
  · obtain ⟨l, W, s, b, pl, D, wss, wvs, sts, bs, ss, bb, pq, rfl, hl, ok, hW, hws, l1, lw, hs, ds, ls, is, hb, db, lb, ib, hpl, ipl, k⟩ := h
    obtain ⟨dxl, wi, pa1, li, pa, rows, prs, L⟩ := id hl
    obtain ⟨lww, hws⟩ := hws
    have lss := dps_len ds
    rw [List.length_map] at lss
    have lbb := dps_len db
    rw [List.length_map] at lbb
    refine ⟨_, PSs.nox ((pss_cons (ps_for PassesOwn.never rfl (pi_list (pv 1)) (pg_name (i := 5) sc_ask_all.nd rfl (Or.inl rfl)) (pss_one (ps_expr (pe_call (G_check_winds T) (hr.mono (by decide)) (by rfl) T.g_check_winds T.k_check_winds T.B_check_winds .nil pass0 (pa_cons (pv 0) (pa_cons (pv 5) pa_nil))))))
      (pss_cons (ps_for PassesOwn.never rfl (pi_list (pe_lst (StX.pa_star (pv 2) (StX.pa_star (pv 3) pa_nil)))) (pg_tup (by rfl) (pgs_cons (pg_name (i := 6) sc_ask_all.nd rfl (Or.inl rfl)) (pgs_cons (pg_name (i := 7) sc_ask_all.nd rfl (Or.inl rfl)) pgs_nil))) (pss_one (ps_expr (pe_meth (pv 0) T.cl T.m_check_place (G_check_place T) (hr.mono (by decide)) T.B_check_place .nil pass0 (pa_cons (pv 6) pa_nil)))))
      (Evl.pss_cut (ps_for PassesOwn.never rfl (pi_or (pi_list (pv 4)) (pi_tup (pv 4))) (pg_name (i := 6) sc_ask_all.nd rfl (Or.inl rfl)) (pss_one (ps_expr (pe_meth (pv 0) T.cl T.m_check_place (G_check_place T) (hr.mono (by decide)) T.B_check_place .nil pass0 (pa_cons (pv 6) pa_nil)))))
      (pss_cons (ps_for PassesOwn.never rfl (pi_list (pv 1)) (pg_name (i := 5) sc_ask_all.nd rfl (Or.inl rfl)) (pss_one (ps_expr (pe_call (G_check_rows T) (hr.mono (by decide)) (by rfl) T.g_check_rows T.k_check_rows T.B_check_rows .nil pass0 (pa_cons (pv 5) pa_nil)))))
      (pss_cons (ps_if (pt_cmpR op_eq (pe_callB call_len_seq (by rfl) T.z_len PySem.boot_len (pa_cons (pv 1) pa_nil)) pe_int (nomark _)) pss_any pss_nil)
      (pss_one (ps_ret (pe_lc (own := [("weather", 5)]) (g := gName 5) (tt := tYes) rfl sc_ask_all.nd (pi_list (pv 1)) (blkOk_by (N := ["land", "weathers", "starts", "breaks", "places", "weather", "place", "_"]) (sc := defScope s_ask_all) (by decide +kernel)) (fun _ _ _ _ _ => pg_name (i := 5) sc_ask_all.nd rfl (Or.inl rfl)) (fun _ _ _ _ _ => pts_nil) (fun _ _ _ _ _ => (pe_make T.mk_Question (G_Question_init T) (hr.mono (by decide)) (by rfl) T.g_Question T.B_Question_init .nil pass0 (pa_cons (pv 0) (pa_cons (pv 5) (pa_cons (pv 2) (pa_cons (pv 3) pa_nil))))))))))))))), ?_⟩
    -- winds
    refine ⟨_, rfl, W, rfl, ⟨_, hW⟩, for_list (K := K) (a := W) (xs := wvs) (fun i σ H' => ∃ v5 : Option V, σ = [some (.ref l), some (.ref W), some (.ref s), some (.ref b), some (.ref pl), v5, none, none] ∧ H' = H) ⟨none, rfl, rfl⟩ (fun i σ H' _ z => by obtain ⟨_, _, e⟩ := z; rw [e]; exact hW) (fun i y σ H' hy z => ?_) (fun σ H1 z => ?_)⟩
    · obtain ⟨v5, rfl, e⟩ := z
      rw [e]
      obtain ⟨w1, us, ws, rfl, _, hw, dw, wok⟩ := hws i y hy
      exact ⟨_, rfl, _, rfl, l, w1, D, us, ws, rfl, hl, hw, dw, wok.nm, _, rfl, rfl⟩
    obtain ⟨v5, rfl, e⟩ := z
    rw [e]
    -- places of starts and breaks
    refine ⟨_, rfl, s, ss, rfl, .inr hs, _, rfl, b, bb, rfl, .inr hb, sz_of (by simp only [List.length_append, List.length_nil]; omega), fun m hm => ?_⟩
    have em := Ex.new (o := .lst (ss ++ (bb ++ []))) hm
    have mm : (upd H m (.lst (ss ++ (bb ++ [])))) m = some (.lst (ss ++ (bb ++ []))) := upd_same
    generalize upd H m (.lst (ss ++ (bb ++ []))) = H2 at em mm
    have dall : DpAll K H2 (ss ++ (bb ++ [])) ((sts ++ bs).map dPm) := by
      rw [List.append_nil, List.map_append]
      exact dps_ex em (dps_app ds db)
    refine ⟨m, rfl, ⟨_, SqL.of mm⟩, for_list (K := K) (a := m) (xs := ss ++ (bb ++ [])) (fun i σ H' => ∃ v6 v7 : Option V, σ = [some (.ref l), some (.ref W), some (.ref s), some (.ref b), some (.ref pl), v5, v6, v7] ∧ H' = H2) ⟨none, none, rfl, rfl⟩ (fun i σ H' _ z => by obtain ⟨_, _, _, e⟩ := z; rw [e]; exact SqL.of mm) (fun i y σ H' hy z => ?_) (fun σ H3 z => ?_)⟩
    · obtain ⟨v6, v7, rfl, e⟩ := z
      rw [e]
      obtain ⟨r, hrr, hmr, dp⟩ := pick dall hy
      obtain ⟨t, rfl, st⟩ := pm_in dp
      have mem : r.1 ∈ D.ps := by
        rcases List.mem_append.mp hmr with h | h
        · exact is r h
        · exact ib r h
      exact ⟨t, _, rfl, st, rfl, _, _, rfl, _, _, rfl, rfl, _, rfl, l, dxl, _, rfl, em _ _ L.ob, fs_check_place .., _, rfl, l, D, r.1, rfl, hl.ex em, mem, _, _, rfl, rfl⟩
    obtain ⟨v6, v7, rfl, e⟩ := z
    rw [e]
    -- further places
    have turn : ∀ {y : V} {v6 v7 : Option V} {i : Nat}, (pq.map V.str)[i]? = some y → ∃ q, q ∈ D.ps ∧ y = .str q := fun {y v6 v7 i} hy => by
      rw [List.getElem?_map] at hy
      obtain ⟨q, hq, rfl⟩ := Option.map_eq_some_iff.mp hy
      exact ⟨q, ipl q (List.mem_of_getElem? hq), rfl⟩
    refine ⟨fun σ H' => ∃ v5 v6 v7 : Option V, σ = [some (.ref l), some (.ref W), some (.ref s), some (.ref b), some (.ref pl), v5, v6, v7] ∧ H' = H2, ?_, ?_⟩
    · have body : ∀ (i : Nat) (y : V) (v5 v6 v7 : Option V), (pq.map V.str)[i]? = some y → tMeth a.C "check_place" (sp_check_place K a.C) [] E0 (tVar 0) (tCons (tVar 6) tNil) [some (.ref l), some (.ref W), some (.ref s), some (.ref b), some (.ref pl), v5, some y, v7] H2 fun _ H3 => ∃ v6 : Option V, [some (V.ref l), some (.ref W), some (.ref s), some (.ref b), some (.ref pl), v5, some y, v7] = [some (V.ref l), some (.ref W), some (.ref s), some (.ref b), some (.ref pl), v5, v6, v7] ∧ H3 = H2 := fun i y v5 v6 v7 hy => by
        obtain ⟨q, hq, rfl⟩ := turn (v6 := none) (v7 := none) hy
        exact ⟨_, rfl, l, dxl, _, rfl, em _ _ L.ob, fs_check_place .., _, rfl, l, D, q, rfl, hl.ex em, hq, _, rfl, rfl⟩
      rcases hpl with hpl | hpl
      · refine .inl ⟨_, rfl, pl, rfl, ⟨_, ex_l em hpl⟩, for_list (K := K) (a := pl) (xs := pq.map V.str) (fun i σ H' => ∃ v6 : Option V, σ = [some (.ref l), some (.ref W), some (.ref s), some (.ref b), some (.ref pl), v5, v6, v7] ∧ H' = H2) ⟨v6, rfl, rfl⟩ (fun i σ H' _ z => by obtain ⟨_, _, e⟩ := z; rw [e]; exact ex_l em hpl) (fun i y σ H' hy z => ?_) (fun σ H3 z => ?_)⟩
        · obtain ⟨v6, rfl, e⟩ := z
          rw [e]
          exact body i y v5 v6 v7 hy
        · obtain ⟨v6, rfl, e⟩ := z
          exact ⟨v5, v6, v7, rfl, e⟩
      · refine .inr ⟨_, rfl, pl, rfl, ⟨_, ex_t em hpl⟩, for_tup (K := K) (a := pl) (xs := pq.map V.str) (fun i σ H' => ∃ v6 : Option V, σ = [some (.ref l), some (.ref W), some (.ref s), some (.ref b), some (.ref pl), v5, v6, v7] ∧ H' = H2) ⟨v6, rfl, rfl⟩ (fun i σ H' _ z => by obtain ⟨_, _, e⟩ := z; rw [e]; exact ex_t em hpl) (fun i y σ H' hy z => ?_) (fun σ H3 z => ?_)⟩
        · obtain ⟨v6, rfl, e⟩ := z
          rw [e]
          exact body i y v5 v6 v7 hy
        · obtain ⟨v6, rfl, e⟩ := z
          exact ⟨v5, v6, v7, rfl, e⟩
    rintro σ H' ⟨v5, v6, v7, rfl, rfl⟩
    -- rows
    refine ⟨_, rfl, W, rfl, ⟨_, ex_l em hW⟩, for_list (K := K) (a := W) (xs := wvs) (fun i σ H2 => ∃ v5 v6 v7 : Option V, σ = [some (.ref l), some (.ref W), some (.ref s), some (.ref b), some (.ref pl), v5, v6, v7] ∧ Ex H H2) ⟨_, _, _, rfl, em⟩ (fun i σ H' _ z => by obtain ⟨_, _, _, _, e⟩ := z; exact ex_l e hW) (fun i y σ H' hy z => ?_) (fun σ H3 z => ?_)⟩
    · obtain ⟨v5, v6, v7, rfl, e⟩ := z
      obtain ⟨w1, us, ws, rfl, _, hw, dw, wok⟩ := hws i y hy
      exact ⟨_, rfl, w1, D, us, ws, rfl, ex_l e hw, dps_ex e dw, wok, fun H4 e4 => ⟨_, _, _, rfl, e.trans e4⟩⟩
    obtain ⟨v5, v6, v7, rfl, e⟩ := z
    refine ⟨_, rfl, W, _, rfl, .inl (ex_l e hW), rfl, _, rfl, ?_⟩
    rw [decide_eq_false (show ¬ V.int ((wvs.length : Nat) : Int) = V.int 0 from fun z => by have := V.int.inj z; omega)]
    refine iteF ?_
    -- the questions
    refine ⟨_, rfl, W, rfl, ⟨_, ex_l e hW⟩, fun D0 hD => lcY_list (K := K) (a := W) (xs := wvs) (fun i H' => Ex H3 H' ∧ ∃ qs, H' D0 = some (.lst qs) ∧ qs.length = i ∧ ∀ (j : Nat) (ws : List (Int × Str)), j < i → wss[j]? = some ws → ∃ x : Addr, qs[j]? = some (.ref x) ∧ IsQ K a.C a.C_Question (del H' D0) x D ws sts bs) ⟨Ex.new hD, [], upd_same, rfl, (fun j ws h => absurd h (Nat.not_lt_zero _))⟩ (fun i H' _ z => ex_l (e.trans z.1) hW) (fun i y H' hy z => ?_) (fun H5 z => ?_)⟩
    · obtain ⟨e3, qs, hqs, lq, hq⟩ := z
      have hi := (List.getElem?_eq_some_iff.mp hy).1
      obtain ⟨w1, us, ws, rfl, hws1, hw, dw, wok⟩ := hws i y hy
      refine ⟨rfl, _, rfl, _, rfl, _, rfl, _, rfl, fun x dx hx hdx ne => ?_⟩
      have d0 : Ex H (del H' D0) := ex_to_del (e.trans e3) (fresh_back e hD)
      have dx0 : del H' D0 x = none := by
        unfold del
        split
        · rfl
        · exact hx
      have gx : D0 ≠ x := ne_of_none hqs hx
      have gd : D0 ≠ dx := ne_of_none hqs hdx
      have eN : Ex (del H' D0) (upd (upd H' dx (.own x)) x (.ins a.C_Question dx [])) := (del_ex.trans (Ex.new hdx)).trans (Ex.new (by rw [upd_ne ne.symm]; exact hx))
      refine ⟨del H' D0, D0, x, dx, l, w1, s, b, .lst qs, D, ws, sts, bs, us, ss, bb, rfl, eN, dx0, upd_same, if_pos rfl, by rw [upd_ne gx, upd_ne gd]; exact hqs, ⟨(fun xs z => by cases z), (fun q xs z => by cases z)⟩, gx, hl.ex d0, ok, ex_l d0 hw, dps_ex d0 dw, wok, ex_l d0 hs, dps_ex d0 ds, ls, ex_l d0 hb, dps_ex d0 db, lb, fun H6 e6 hg6 hq6 => ⟨rfl, qs, hg6, sz_lt (by omega), ?_, qs ++ [.ref x], upd_same, by rw [List.length_append, lq] <;> rfl, fun j ws' hj hws' => ?_⟩⟩
      · exact ((ex_to_del e3 hD).trans e6).mut hD
      · rw [del_upd]
        by_cases c : j < i
        · obtain ⟨x', h1, h2⟩ := hq j ws' c hws'
          exact ⟨x', by rw [List.getElem?_append_left (by omega)]; exact h1, h2.ex (ex_to_del e6 (if_pos rfl))⟩
        · have ej : j = i := by omega
          subst ej
          rw [hws1] at hws'
          cases hws'
          exact ⟨x, by rw [← lq, List.getElem?_append_right (Nat.le_refl _), Nat.sub_self] <;> rfl, hq6⟩
    · obtain ⟨e3, qs, hqs, lq, hq⟩ := z
      refine k H5 D0 qs (e.trans e3) (fresh_back e hD) hqs ⟨by omega, fun i ws hi => ?_⟩
      have hlt := (List.getElem?_eq_some_iff.mp hi).1
      obtain ⟨x, h1, h2⟩ := hq i ws (by omega) hi
      exact ⟨x, h1, h2.ex del_ex⟩
theorem G_ask (T : Txt K mg a) : FnOk P w K mg base CX0 5 a.f_ask a.d_ask ["land", "weather", "starts", "breaks", "places"] (sp_ask K a.C a.C_Question) := by
  refine T.F_ask.ok sc_ask (fun vs H Q E h => ?_) (fun cdv A outer s H vs Q E hr h => ?_)
  · obtain ⟨l, w1, s, b, pl, D, ws, us, sts, bs, ss, bb, pq, rfl, _⟩ := h
    rfl
  · obtain ⟨l, w1, s, b, pl, D, ws, us, sts, bs, ss, bb, pq, rfl, hl, ok, hw, dw, wok, hs, ds, ls, is, hb, db, lb, ib, hpl, ipl, k⟩ := h
    refine ⟨_, (pss_one (ps_ret (pe_ix ix_list (pe_call (G_ask_all T) (hr.mono (by decide)) (by rfl) T.g_ask_all T.k_ask_all T.B_ask_all .nil pass0 (pa_cons (pv 0) (pa_cons (pe_lst (pa_cons (pv 1) pa_nil)) (pa_cons (pv 2) (pa_cons (pv 3) (pa_cons (pv 4) pa_nil)))))) pe_int (fun _ _ => rfl)))), ?_⟩
    refine ⟨_, rfl, _, rfl, by show 1 ≤ sizeLine; decide, fun m hm => ⟨_, rfl, _, rfl, _, rfl, ?_⟩⟩
    have em := Ex.new (o := .lst [.ref w1]) hm
    refine ⟨l, m, s, b, pl, D, [ws], [.ref w1], sts, bs, ss, bb, pq, rfl, hl.ex em, ok, SqL.of upd_same, ⟨rfl, fun i v hv => ?_⟩, (by show 1 ≤ 1; decide), (by show 1 ≤ 1000; decide), ex_l em hs, dps_ex em ds, ls, is, ex_l em hb, dps_ex em db, lb, ib, hpl.imp (ex_l em) (ex_t em), ipl, fun H1 o qs e1 o0 ho qa => ?_⟩
    · cases i with
      | zero =>
        cases hv
        exact ⟨w1, us, ws, rfl, rfl, ex_l em hw, dps_ex em dw, wok⟩
      | succ i => cases i <;> cases hv
    · obtain ⟨x, h1, h2⟩ := qa.2 0 ws rfl
      exact ⟨o, _, _, _, rfl, rfl, SqL.of ho, atI_nat (j := 0) h1, k H1 x (em.trans e1) h2⟩
end
end EV

set_option Elab.async false
set_option linter.all false
set_option maxRecDepth 100000
set_option maxHeartbeats 4000000
namespace EV
open PySem PySem.Spec PyProof.Rows L2 EvS Evl FD EnT
theorem Nums.get {K : PySem.W.Frag} {H : Hp} {p : Addr} {ks : List Int} (N : Nums K H p ks) {i : Int} (h0 : 0 ≤ i) (h1 : i < 170) : ∃ n, 0 ≤ n ∧ n < 1009 ∧ atI (ks.map V.int) i = some (.int n) := by
  have lo := N.lo
  obtain ⟨n, hn, hat, _⟩ := num_in (ks := ks) (i := i) h0 (by omega)
  exact ⟨n, (N.sm n hn).1, (N.sm n hn).2, hat⟩
theorem str_pick {ps : List Str} (h : 1 ≤ ps.length) (x : Int) : ((ps.map V.str).length : Int) ≠ 0 ∧ ∃ z, z ∈ ps ∧ atI (ps.map V.str) (x.fmod ((ps.map V.str).length : Int)) = some (.str z) := by
  have L : (ps.map V.str).length = ps.length := List.length_map ..
  have o0 := Int.fmod_nonneg_of_pos x (b := (((ps.map V.str).length : Nat) : Int)) (by omega)
  have o1 := Int.fmod_lt_of_pos x (b := (((ps.map V.str).length : Nat) : Int)) (by omega)
  obtain ⟨i, ei⟩ : ∃ i : Nat, x.fmod (((ps.map V.str).length : Nat) : Int) = (i : Int) := ⟨_, (Int.toNat_of_nonneg o0).symm⟩
  have hi : i < ps.length := by omega
  refine ⟨by omega, ps[i], List.getElem_mem hi, ?_⟩
  rw [ei]
  exact atI_nat (by rw [List.getElem?_map, List.getElem?_eq_getElem hi] <;> rfl)
theorem str_at {ps : List Str} {v : Int} (h0 : 0 ≤ v) (h1 : v < ps.length) : ∃ z, z ∈ ps ∧ atI (ps.map V.str) v = some (.str z) := by
  obtain ⟨i, rfl⟩ : ∃ i : Nat, v = (i : Int) := ⟨_, (Int.toNat_of_nonneg h0).symm⟩
  have hi : i < ps.length := by omega
  exact ⟨ps[i], List.getElem_mem hi, atI_nat (by rw [List.getElem?_map, List.getElem?_eq_getElem hi] <;> rfl)⟩
def sp4__law_pick (K : PySem.W.Frag) : Sp := fun vs H Q _ => ∃ (p : Addr) (ks : List Int) (at_ m : Int), vs = [.ref p, .int at_, .int m] ∧ Nums K H p ks ∧ 0 ≤ at_ ∧ at_ < 170 ∧ 0 < m ∧ ∀ v, 0 ≤ v → v < m → Q (.int v) H
def sp4__law_rows (K : PySem.W.Frag) : Sp := fun vs H Q _ => ∃ (q p : Addr) (ks : List Int) (at_ many most : Int) (D : LandD) (wi pl li pa : Addr) (rows prs : List V), vs = [.ref q, .int at_, .int many, .ref p, .int most] ∧ Nums K H q ks ∧ 0 ≤ at_ ∧ 0 ≤ many ∧ many ≤ 20 ∧ at_ + 2 * many ≤ 170 - 2 ∧ 0 < most ∧ Parts2 K H p D wi pl li pa rows prs ∧ 1 ≤ D.ps.length ∧
  ∀ H' l us rs, Ex H H' → H l = none → H' l = some (.lst us) → DpAll K H' us (rs.map dPm) → StOk D rs → (rs.length : Int) = many → Q (.ref l) H'
def sp4__law_weather (K : PySem.W.Frag) : Sp := fun vs H Q _ => ∃ (q p : Addr) (ks : List Int) (D : LandD) (wi pl li pa : Addr) (rows prs : List V), vs = [.ref q, .int 145, .ref p] ∧ Nums K H q ks ∧ Parts2 K H p D wi pl li pa rows prs ∧ LandOk D ∧
  ∀ H' l us ws, Ex H H' → H l = none → H' l = some (.lst us) → DpAll K H' us (ws.map dWr) → WOk D ws → ws.length ≤ 4 → (∀ r ∈ ws, r.1 ≤ 40) → Q (.ref l) H'
def sp2__law_made (K : PySem.W.Frag) (C : Addr) : Sp := fun vs H Q _ => ∃ (p : Addr) (D : LandD) (wi pl li pa : Addr) (rows prs : List V), vs = [.ref p] ∧ Parts2 K H p D wi pl li pa rows prs ∧ LandOk D ∧ ∀ H' x, Ex H H' → H x = none → IsLand K C H' x D → Q (.ref x) H'
def sp__law_some (K : PySem.W.Frag) : Sp := fun vs H Q _ => ∃ (p q wi pl li pa : Addr) (ks : List Int) (ps : List Str) (at_ : Nat) (step : Int), vs = [.ref p, .int (at_ : Int), .ref q, .int step] ∧ Nums K H p ks ∧ SqL K H q [.ref wi, .ref pl, .ref li, .ref pa] ∧ SqT K H pl (ps.map V.str) ∧ at_ + ps.length ≤ 170 ∧ 1 ≤ step ∧
  ∀ H' r (ss : List Str), Ex H H' → H r = none → H' r = some (.lst (ss.map V.str)) → ss.Sublist ps → Q (.ref r) H'
section
variable {P : Program} {w : World} {K : PySem.W.Frag} {mg : Str → Option Value} {base : Heap} {a : Ad}
theorem G__law_weather (T : Txt K mg a) : FnOk P w K mg base CX0 1 a.f__law_weather a.d__law_weather ["numbers", "at", "parts"] (sp4__law_weather K) := by
  refine T.F__law_weather.ok sc__law_weather (fun vs H Q E h => ?_) (fun cdv A outer s H vs Q E hr h => ?_)
  · obtain ⟨q, p, ks, D, wi, pl, li, pa, rows, prs, rfl, _⟩ := h
    rfl
  · obtain ⟨q, p, ks, D, wi, pl, li, pa, rows, prs, rfl, N, S, ok, k⟩ := h
    have w1 := ok.w1
    refine ⟨_, (pss_cons (ps_set (i := 3) sc__law_weather.nd rfl (Or.inl rfl) (pe_lst (pa_cons (pe_tup (pa_cons pe_int (pa_cons (pe_ix ix_tup (pe_ix ix_list (pv 2) pe_int (fun _ _ => rfl)) (pe_op op_modN (pe_callTy call_int1 (by rfl) T.z_int (by decide +kernel) (pa_cons (pe_ix ix_list (pv 0) (pv 1) (fun _ _ => rfl)) pa_nil)) (pe_callB call_len_seq (by rfl) T.z_len PySem.boot_len (pa_cons (pe_ix ix_list (pv 2) pe_int (fun _ _ => rfl)) pa_nil))) (fun _ _ => rfl)) pa_nil))) pa_nil)))
      (pss_cons (ps_for PassesOwn.never rfl (pi_range1 (by rfl) T.z_range (pa_cons (pe_op op_mod (pe_callTy call_int1 (by rfl) T.z_int (by decide +kernel) (pa_cons (pe_ix ix_list (pv 0) (pe_op op_add (pv 1) pe_int) (fun _ _ => rfl)) pa_nil)) pe_int) pa_nil)) (pg_name (i := 4) sc__law_weather.nd rfl (Or.inl rfl)) (pss_cons (ps_set (i := 5) sc__law_weather.nd rfl (Or.inl rfl) (pe_ix ix_tup (pe_ix ix_list (pv 2) pe_int (fun _ _ => rfl)) (pe_op op_modN (pe_callTy call_int1 (by rfl) T.z_int (by decide +kernel) (pa_cons (pe_ix ix_list (pv 0) (pe_op op_add (pe_op op_add (pv 1) pe_int) (pv 4)) (fun _ _ => rfl)) pa_nil)) (pe_callB call_len_seq (by rfl) T.z_len PySem.boot_len (pa_cons (pe_ix ix_list (pv 2) pe_int (fun _ _ => rfl)) pa_nil))) (fun _ _ => rfl)))
        (pss_one (ps_expr (pe_bm PySem.F.plainAttrs_list PySem.F.slot_list_append PySem.F.type_list_append mt_append (pv 3) (pa_cons (pe_tup (pa_cons (pe_op op_add (pe_op op_add (pe_ix ix_tup (pe_ix ix_list (pv 3) (pv 4) (fun _ _ => rfl)) pe_int (fun _ _ => rfl)) pe_int) (pe_op op_mod (pe_callTy call_int1 (by rfl) T.z_int (by decide +kernel) (pa_cons (pe_ix ix_list (pv 0) (pe_op op_add (pe_op op_add (pv 1) pe_int) (pv 4)) (fun _ _ => rfl)) pa_nil)) pe_int)) (pa_cons (pv 5) pa_nil))) pa_nil))))))
      (pss_one (ps_ret (pv 3))))), ?_⟩
    obtain ⟨n0, l0, u0, g0⟩ := N.get (i := 145) (by decide) (by decide)
    obtain ⟨n1, l1, u1, g1⟩ := N.get (i := 145 + 1) (by decide) (by decide)
    obtain ⟨nz, z, zin, hz⟩ := str_pick w1 n0
    refine ⟨_, rfl, p, _, _, _, rfl, rfl, S.ob, atI_nat (j := 0) rfl, _, rfl, _, rfl, q, _, _, _, rfl, rfl, N.at_, g0, .inl ⟨_, rfl, _, rfl, p, _, _, _, rfl, rfl, S.ob, atI_nat (j := 0) rfl, wi, _, rfl, .inr S.wi.sq, _, _, rfl, rfl, nz, wi, _, _, _, rfl, rfl, S.wi.sq, hz, by show 2 ≤ sizeLine; decide, fun t ht => ⟨by show 1 ≤ sizeLine; decide, fun L hL => ?_⟩⟩⟩
    have L0 := fresh_back (Ex.new ht) hL
    have e0 : Ex H (upd (upd H t (.tup [.int 0, .str z])) L (.lst [.ref t])) := (Ex.new ht).trans (Ex.new hL)
    have tL : t ≠ L := ne_of_none (upd_same (H := H) (a := t) (o := .tup [.int 0, .str z])) hL
    have d0 : DpAll K (del (upd (upd H t (.tup [.int 0, .str z])) L (.lst [.ref t])) L) [.ref t] ([((0 : Int), z)].map dWr) := by
      rw [del_upd]
      exact dps_one (.tup (st_of (del_at tL upd_same)) (.cons (.int _) (.cons (.str _) .nil)))
    have h0 : (upd (upd H t (.tup [.int 0, .str z])) L (.lst [.ref t])) L = some (.lst [.ref t]) := upd_same
    generalize upd (upd H t (.tup [.int 0, .str z])) L (.lst [.ref t]) = H0 at e0 d0 h0
    refine ⟨_, rfl, _, rfl, _, _, rfl, rfl, q, _, _, _, rfl, rfl, (N.ex e0).at_, g1, .inl ⟨_, rfl, _, _, rfl, rfl, (by show (0 : Int) < 4; decide), _, rfl, by omega, by omega, for_range (n := (n1 % 4).toNat) (fun i σ H' => ∃ (us : List V) (ws : List (Int × Str)) (v4 v5 : Option V), σ = [some (.ref q), some (.int 145), some (.ref p), some (.ref L), v4, v5] ∧ Ex H H' ∧ H' L = some (.lst us) ∧ DpAll K (del H' L) us (ws.map dWr) ∧ (∀ r ∈ ws, r.2 ∈ D.ws) ∧ (∀ r ∈ ws.head?, r.1 = 0) ∧ ws.Pairwise (fun a b => a.1 < b.1) ∧ (∀ r ∈ ws, 0 ≤ r.1 ∧ r.1 ≤ 12 * (i : Int)) ∧ ws.length = i + 1 ∧ ∃ r, ws[i]? = some r ∧ ∀ x ∈ ws, x.1 ≤ r.1) ?_ ?_ ?_⟩⟩
    · exact ⟨[.ref t], [(0, z)], none, none, rfl, e0, h0, d0, (fun r hr => by rw [List.mem_singleton.mp hr]; exact zin), (fun r hr => by cases hr; rfl), List.pairwise_singleton _ _, (fun r hr => by rw [List.mem_singleton.mp hr]; exact ⟨Int.le_refl 0, by show (0 : Int) ≤ 12 * ((0 : Nat) : Int); decide⟩), rfl, (0, z), rfl, fun x hx => by rw [List.mem_singleton.mp hx]; exact Int.le_refl _⟩
    · rintro i σ H1 hi ⟨us, ws, v4, v5, rfl, e1, hg, hd, nm, hd0, asc, top, lw, r, hr, mx⟩
      have i4 : i < 4 := by omega
      have lus : us.length = ws.length := by rw [dps_len hd, List.length_map]
      obtain ⟨v, hv, dv⟩ := pick_i (dps_ex del_ex hd) hr
      obtain ⟨t1, rfl, ht1⟩ := wr_in dv
      have N1 := N.ex e1
      have S1 := S.ex e1
      obtain ⟨n, ln, un, gn⟩ := N1.get (i := 145 + 2 + (0 + (i : Int))) (by omega) (by omega)
      obtain ⟨y, ly, uy, gy⟩ := N1.get (i := 145 + 5 + (0 + (i : Int))) (by omega) (by omega)
      obtain ⟨nz2, z2, zin2, hz2⟩ := str_pick w1 y
      have m0 := Int.emod_nonneg n (show (12 : Int) ≠ 0 by decide)
      have m1 := Int.emod_lt_of_pos n (show (0 : Int) < 12 by decide)
      have hmr := List.mem_of_getElem? hr
      have rtop := top r hmr
      have ei : (0 : Int) + (i : Int) = ((i : Nat) : Int) := by omega
      refine ⟨_, rfl, p, _, _, _, rfl, rfl, S1.ob, atI_nat (j := 0) rfl, _, rfl, _, rfl, _, _, rfl, rfl, _, rfl, _, _, rfl, rfl, q, _, _, _, rfl, rfl, N1.at_, gy, .inl ⟨_, rfl, _, rfl, p, _, _, _, rfl, rfl, S1.ob, atI_nat (j := 0) rfl, wi, _, rfl, .inr S1.wi.sq, _, _, rfl, rfl, nz2, wi, _, _, _, rfl, rfl, S1.wi.sq, hz2, ?_⟩⟩
      refine ⟨_, rfl, .inl ⟨rfl, _, SqL.of hg⟩, _, rfl, _, rfl, L, _, _, _, rfl, rfl, SqL.of hg, by rw [ei]; exact atI_nat hv, t1, _, _, _, rfl, rfl, ht1, atI_nat (j := 0) rfl, _, _, rfl, rfl, _, rfl, _, rfl, _, _, rfl, rfl, _, rfl, _, _, rfl, rfl, q, _, _, _, rfl, rfl, N1.at_, gn, .inl ⟨_, rfl, _, _, rfl, rfl, (by show (0 : Int) < 12; decide), _, _, rfl, rfl, ?_⟩⟩
      refine ⟨_, rfl, by show 2 ≤ sizeLine; decide, fun t2 ht2 => ?_⟩
      have e2 : Ex H1 (upd H1 t2 (.tup [.int (r.1 + 1 + n % 12), .str z2])) := Ex.new ht2
      have tL2 : t2 ≠ L := fun e => by rw [e, hg] at ht2; cases ht2
      refine ⟨L, us, _, rfl, rfl, e2 _ _ hg, sz_lt (by omega), us ++ [.ref t2], ws ++ [(r.1 + 1 + n % 12, z2)], _, _, rfl, (e1.trans e2).mut L0, upd_same, ?_, ?_, ?_, ?_, ?_, by rw [List.length_append, lw] <;> rfl, (r.1 + 1 + n % 12, z2), ?_, ?_⟩
      · rw [del_upd, List.map_append]
        exact dps_app (dps_ex (ex_del e2) hd) (dps_one (.tup (st_of (del_at tL2 upd_same)) (.cons (.int _) (.cons (.str _) .nil))))
      · intro x hx
        rcases List.mem_append.mp hx with h | h
        · exact nm x h
        · rw [List.mem_singleton.mp h]; exact zin2
      · intro x hx
        cases ws with
        | nil => cases hmr
        | cons w0 wl => exact hd0 x hx
      · rw [List.pairwise_append]
        refine ⟨asc, List.pairwise_singleton _ _, fun x hx y hy => ?_⟩
        rw [List.mem_singleton.mp hy]
        have := mx x hx
        show x.1 < r.1 + 1 + n % 12
        omega
      · intro x hx
        rcases List.mem_append.mp hx with h | h
        · have := top x h
          push_cast
          exact ⟨this.1, by omega⟩
        · rw [List.mem_singleton.mp h]
          refine ⟨by show 0 ≤ r.1 + 1 + n % 12; omega, ?_⟩
          show r.1 + 1 + n % 12 ≤ 12 * ((i + 1 : Nat) : Int)
          push_cast
          omega
      · rw [← lw, List.getElem?_append_right (Nat.le_refl _), Nat.sub_self] <;> rfl
      · intro x hx
        rcases List.mem_append.mp hx with h | h
        · have := mx x h
          show x.1 ≤ r.1 + 1 + n % 12
          omega
        · rw [List.mem_singleton.mp h]
          exact Int.le_refl _
    · rintro σ H1 ⟨us, ws, v4, v5, rfl, e1, hg, hd, nm, hd0, asc, top, lw, _⟩
      exact ⟨_, rfl, k H1 L us ws e1 L0 hg (dps_ex del_ex hd) ⟨by omega, by omega, nm, hd0, asc, fun r hr => by have := top r hr; omega⟩ (by omega) (fun r hr => by have := top r hr; omega)⟩
theorem G__law_made (T : Txt K mg a) : FnOk P w K mg base CX0 5 a.f__law_made a.d__law_made ["parts"] (sp2__law_made K a.C) := by
  obtain ⟨mv, kb_Land_wplp⟩ := kb_wplp T
  refine T.F__law_made.ok sc__law_made (fun vs H Q E h => ?_) (fun cdv A outer s H vs Q E hr h => ?_)
  · obtain ⟨p, D, wi, pl, li, pa, rows, prs, rfl, _⟩ := h
    rfl
  · obtain ⟨p, D, wi, pl, li, pa, rows, prs, rfl, S, ok, k⟩ := h
    refine ⟨_, (pss_one (ps_ret (pe_makeK0 T.mk_Land (G_init T) (hr.mono (by decide)) (by rfl) T.g_Land kb_Land_wplp pass0 (pk_cons (pe_ix ix_list (pv 0) pe_int (fun _ _ => rfl)) (pk_cons (pe_ix ix_list (pv 0) pe_int (fun _ _ => rfl)) (pk_cons (pe_ix ix_list (pv 0) pe_int (fun _ _ => rfl)) (pk_cons (pe_ix ix_list (pv 0) pe_int (fun _ _ => rfl)) pk_nil))))))), ?_⟩
    refine ⟨_, rfl, p, _, _, _, rfl, rfl, S.ob, atI_nat (j := 0) rfl, _, rfl, p, _, _, _, rfl, rfl, S.ob, atI_nat (j := 1) rfl, _, rfl, p, _, _, _, rfl, rfl, S.ob, atI_nat (j := 2) rfl, _, rfl, p, _, _, _, rfl, rfl, S.ob, atI_nat (j := 3) rfl, rfl, rfl, fun x dx nx ndx ne => ?_⟩
    exact ⟨H, x, dx, wi, pl, li, pa, D, rows, prs, rfl, (Ex.new ndx).mut nx, nx, upd_same, .inr S.wi, .inr S.pl, .inr S.li, all2_dps (f := dLink) (R := LinkIn K _) (fun v b h => made_in h) S.ls, .inr S.pa, S.ps, ok, fun H' e hl => ⟨rfl, k H' x e nx hl⟩⟩
theorem G__law_some (T : Txt K mg a) : FnOk P w K mg base CX0 1 a.f__law_some a.d__law_some ["numbers", "at", "parts", "step"] (sp__law_some K) := by
  refine T.F__law_some.ok sc__law_some (fun vs H Q E h => ?_) (fun cdv A outer s H vs Q E hr h => ?_)
  · obtain ⟨p, q, wi, pl, li, pa, ks, ps, at_, step, rfl, _⟩ := h
    rfl
  · obtain ⟨p, q, wi, pl, li, pa, ks, ps, at_, step, rfl, N, hq, hp, ba, s1, k⟩ := h
    have lo := N.lo
    have lp : (ps.map V.str).length = ps.length := List.length_map ..
    refine ⟨_, (pss_one (ps_ret (pe_lc (own := [("k", 4)]) (g := gName 4) rfl sc__law_some.nd (pi_range1 (by rfl) T.z_range (pa_cons (pe_callB call_len_seq (by rfl) T.z_len PySem.boot_len (pa_cons (pe_ix ix_list (pv 2) pe_int (fun _ _ => rfl)) pa_nil)) pa_nil)) (blkOk_by (N := ["numbers", "at", "parts", "step", "k"]) (sc := defScope s__law_some) (by decide +kernel)) (fun _ _ _ _ _ => pg_name (i := 4) sc__law_some.nd rfl (Or.inl rfl)) (fun _ _ _ _ _ => pts_one (pt_cmpR op_eq (pe_op op_modN (pe_callTy call_int1 (by rfl) T.z_int (by decide +kernel) (pa_cons (pe_ix (show IxR _ (rIxL K) from ix_list) (pv 0) (pe_op op_add (pv 1) (pv 4)) (fun _ _ => rfl)) pa_nil)) (pv 3)) pe_int (nomark _))) (fun _ _ _ _ _ => (pe_ix (show IxR _ (rIxT K) from ix_tup) (pe_ix (show IxR _ (rIxL K) from ix_list) (pv 2) pe_int (fun _ _ => rfl)) (pv 4) (fun _ _ => rfl)))))), ?_⟩
    refine ⟨_, rfl, q, _, _, _, rfl, rfl, hq, atI_nat (j := 1) rfl, pl, _, rfl, .inr hp, _, rfl, by omega, by omega, fun D0 hD => lc_range (lo := 0) (n := (((ps.map V.str).length : Nat) : Int).toNat) (fun i H' => Ex H H' ∧ ∃ ss : List Str, H' D0 = some (.lst (ss.map V.str)) ∧ ss.Sublist (ps.take i)) ⟨Ex.new hD, [], upd_same, List.Sublist.refl _⟩ ?_ ?_⟩
    · rintro i H' hi ⟨e, ss, hg, hs⟩
      have hi' : i < ps.length := by omega
      have nx := take_one (getD_in hi').2
      have hl := hs.length_le
      rw [List.length_take] at hl
      obtain ⟨n, hn, hat, _⟩ := num_in (ks := ks) (i := (at_ : Int) + (0 + (i : Int))) (by omega) (by omega)
      refine ⟨rfl, _, rfl, _, rfl, _, rfl, _, _, rfl, rfl, p, _, _, _, rfl, rfl, (N.ex e).at_, hat, .inl ⟨_, rfl, _, rfl, _, _, rfl, rfl, by omega, rfl, _, rfl, ?_⟩⟩
      refine ite2 (fun _ => ?_) (fun _ => ⟨e, ss, hg, by rw [nx]; exact hs.trans (List.sublist_append_left _ _)⟩)
      refine ⟨_, rfl, q, _, _, _, rfl, rfl, ex_l e hq, atI_nat (j := 1) rfl, _, rfl, pl, _, _, .str (ps.getD i ""), rfl, rfl, ex_t e hp, ?_, _, hg, sz_lt (by rw [List.length_map]; omega), e.mut hD, ss ++ [ps.getD i ""], ?_, ?_⟩
      · rw [Int.zero_add]
        exact atI_nat (by rw [List.getElem?_map, (getD_in hi').2] <;> rfl)
      · rw [upd_same, List.map_append]; rfl
      · rw [nx]
        exact hs.append (List.Sublist.refl _)
    · rintro H' ⟨e, ss, hg, hs⟩
      exact k H' D0 ss e hD hg (hs.trans (List.take_sublist _ _))
end
end EV

set_option Elab.async false
set_option linter.all false
set_option maxRecDepth 100000
set_option maxHeartbeats 4000000
namespace EV
open PySem PySem.Spec PyProof.Rows L2 EvS Evl FD EnT
/-! ### numbers within their bounds; burning, keeps -/
def Within1 : Option (Int × Int) → Option Int → Prop
  | none, none => True
  | some b, some x => b.1 ≤ x ∧ x ≤ b.2
  | _, _ => False
structure Within (D : LandD) (nums : List (List (Option Int))) : Prop where
  len : nums.length = D.ls.length
  row : ∀ (j : Nat) k row, D.ls[j]? = some k → nums[j]? = some row → row.length = k.ts.length ∧ ∀ (i : Nat) b x, k.ts[i]? = some b → row[i]? = some x → Within1 b x
theorem Within.ok {D : LandD} (ok : LandOk D) {nums : List (List (Option Int))} (h : Within D nums) : NumsOk D nums where
  len := h.len
  row := fun row hr => by
    obtain ⟨j, hj⟩ := List.mem_iff_getElem?.mp hr
    have lt := (List.getElem?_eq_some_iff.mp hj).1
    obtain ⟨k, hk⟩ : ∃ k, D.ls[j]? = some k := ⟨_, List.getElem?_eq_getElem (by rw [← h.len]; exact lt)⟩
    obtain ⟨e, w⟩ := h.row j k row hk hj
    have lo := ok.lk k (List.mem_of_getElem? hk)
    refine ⟨by rw [e]; exact lo.len, fun x hx => ?_⟩
    obtain ⟨i, hi⟩ := List.mem_iff_getElem?.mp hx
    have lti := (List.getElem?_eq_some_iff.mp hi).1
    obtain ⟨b, hb⟩ : ∃ b, k.ts[i]? = some b := ⟨_, List.getElem?_eq_getElem (by rw [← e]; exact lti)⟩
    have q := w i b (some x) hb hi
    cases b with
    | none => exact q.elim
    | some b =>
      obtain ⟨h1, _, _⟩ := lo.ok _ (List.mem_of_getElem? hb)
      exact Int.le_trans h1 q.1
def sp__is_within (K : PySem.W.Frag) : Sp := fun vs H Q _ => ∃ (v : V) (bn : Option (Int × Int)) (x : Option Int), vs = [v, vInt x] ∧ Dp K H v (dTime bn) ∧ Within1 bn x ∧ Q (.bl true) H
def sp_check_numbers (K : PySem.W.Frag) (C : Addr) : Sp := fun vs H Q _ => ∃ (l nt : Addr) (D : LandD) (ns : List V) (nums : List (List (Option Int))), vs = [.ref l, .ref nt] ∧ IsLand K C H l D ∧ LandOk D ∧ SqT K H nt ns ∧ DpAll K H ns (nums.map dRow) ∧ Within D nums ∧ ∀ H', Ex H H' → Q .non H'
structure AskQ (K : PySem.W.Frag) (C : Addr) (H : Hp) (l w s b : Addr) (D : LandD) (ws : List (Int × Str)) (sts bs : List (Str × Int)) (us ss bb : List V) : Prop where
  ld : IsLand K C H l D
  ok : LandOk D
  hw : SqL K H w us
  dw : DpAll K H us (ws.map dWr)
  wok : WOk D ws
  hs : SqL K H s ss
  ds : DpAll K H ss (sts.map dPm)
  sok : StOk D sts
  ls : sts.length ≤ 500
  hb : SqL K H b bb
  db : DpAll K H bb (bs.map dPm)
  bok : PmIn D bs
  lb : bs.length ≤ 500
theorem AskQ.ex {K : PySem.W.Frag} {C : Addr} {H H' : Hp} {l w s b : Addr} {D : LandD} {ws : List (Int × Str)} {sts bs : List (Str × Int)} {us ss bb : List V} (e : Ex H H') (h : AskQ K C H l w s b D ws sts bs us ss bb) : AskQ K C H' l w s b D ws sts bs us ss bb :=
  ⟨h.ld.ex e, h.ok, ex_l e h.hw, dps_ex e h.dw, h.wok, ex_l e h.hs, dps_ex e h.ds, h.sok, h.ls, ex_l e h.hb, dps_ex e h.db, h.bok, h.lb⟩
theorem getD_vInt (o : Option Int) : (o.map V.int).getD .non = vInt o := by cases o <;> rfl
theorem StOk.pm {D : LandD} {rs : List (Str × Int)} (h : StOk D rs) : PmIn D rs := fun r hr => (h r hr).1
def dFi (f : Str → Option Int) (z : Str) : PyData := .tuple [.str z, dOpt (f z)]
def sp__rows_of (K : PySem.W.Frag) (C CQ : Addr) : Sp := fun vs H Q _ => ∃ (x nt : Addr) (D : LandD) (ws : List (Int × Str)) (sts bs : List (Str × Int)) (nums : List (List (Option Int))) (ns : List V), vs = [.ref x, .ref nt] ∧ IsQ K C CQ H x D ws sts bs ∧ LandOk D ∧ WOk D ws ∧ StOk D sts ∧ sts.length ≤ 800 ∧
  SqT K H nt ns ∧ DpAll K H ns (nums.map dRow) ∧ NumsOk D nums ∧ ∀ o H' us, Ex H H' → H o = none → H' o = some (.lst us) → DpAll K H' us (D.ps.map (dFi (FP.first (fireN D ws sts bs nums)))) → Q (.ref o) H'
def sp_burning (K : PySem.W.Frag) (C : Addr) : Sp := fun vs H Q _ => ∃ (l w s b nt : Addr) (D : LandD) (ws : List (Int × Str)) (sts bs : List (Str × Int)) (us ss bb : List V) (nums : List (List (Option Int))) (ns : List V), vs = [.ref l, .ref w, .ref s, .ref b, .ref nt] ∧ AskQ K C H l w s b D ws sts bs us ss bb ∧
  SqT K H nt ns ∧ DpAll K H ns (nums.map dRow) ∧ Within D nums ∧ ∀ o H' us, Ex H H' → H o = none → H' o = some (.lst us) → DpAll K H' us (D.ps.map (dFi (FP.first (fireN D ws sts bs nums)))) → Q (.ref o) H'
def keptB (f : Str → Option Int) (gs : List Str) : Bool := !((gs.map fun z => (f z).isSome).any id)
def sp_keeps (K : PySem.W.Frag) (C : Addr) : Sp := fun vs H Q _ => ∃ (l w s b g : Addr) (D : LandD) (ws : List (Int × Str)) (sts bs : List (Str × Int)) (us ss bb : List V) (gs : List Str), vs = [.ref l, .ref w, .ref s, .ref b, .ref g] ∧ AskQ K C H l w s b D ws sts bs us ss bb ∧ SqL K H g (gs.map V.str) ∧ (∀ z ∈ gs, z ∈ D.ps) ∧ gs.length ≤ 1000 ∧
  ∀ H', Ex H H' → Q (.bl (keptB (FP.first (fireOf D ws sts bs 0)) gs)) H'
def sp__law_told (K : PySem.W.Frag) : Sp := fun vs H Q _ => ∃ (p d wi pl li pa : Addr) (ps : List Str) (f : Str → Option Int), vs = [.ref p, .ref d] ∧ SqL K H p [.ref wi, .ref pl, .ref li, .ref pa] ∧ SqT K H pl (ps.map V.str) ∧ ps.length ≤ 1000 ∧ Tab H d f ∧ ∀ o H' us, Ex H H' → H o = none → H' o = some (.lst us) → DpAll K H' us (ps.map (dFi f)) → Q (.ref o) H'
def sp__law_kept (K : PySem.W.Frag) : Sp := fun vs H Q _ => ∃ (p w s b g : Addr) (D : LandD) (wi pl li pa : Addr) (rows prs us ss bb : List V) (ws : List (Int × Str)) (sts bs : List (Str × Int)) (gs : List Str), vs = [.ref p, .ref w, .ref s, .ref b, .ref g] ∧ Parts2 K H p D wi pl li pa rows prs ∧ LandOk D ∧
  SqL K H w us ∧ DpAll K H us (ws.map dWr) ∧ WOk D ws ∧ SqL K H s ss ∧ DpAll K H ss (sts.map dPm) ∧ SqL K H b bb ∧ DpAll K H bb (bs.map dPm) ∧ StOk D sts ∧ sts.length ≤ 1000 ∧ bs.length ≤ 1000 ∧ SqL K H g (gs.map V.str) ∧ gs.length ≤ 1000 ∧
  ∀ H', Ex H H' → Q (.bl (keptB (FP.first (fireOf D ws sts bs 0)) gs)) H'
theorem neq_ff {a b : Nat} (h : a = b) : ¬ (!decide (V.int (a : Int) = V.int (b : Int))) = true := by subst h; simp
section
variable {P : Program} {w : World} {K : PySem.W.Frag} {mg : Str → Option Value} {base : Heap} {a : Ad}
theorem G__rows_of (T : Txt K mg a) : FnOk P w K mg base CX0 4 a.f__rows_of a.d__rows_of ["question", "numbers"] (sp__rows_of K a.C a.C_Question) := by
  refine T.F__rows_of.ok sc__rows_of (fun vs H Q E h => ?_) (fun cdv A outer s H vs Q E hr h => ?_)
  · obtain ⟨x, nt, D, ws, sts, bs, nums, ns, rfl, _⟩ := h
    rfl
  · obtain ⟨x, nt, D, ws, sts, bs, nums, ns, rfl, hx, ok, wok, sok, ls, hn, dn, no, k⟩ := h
    obtain ⟨dx, l, w', s', b', sp, stp, lv, us', ss', bb', acc, kl, QA⟩ := id hx
    obtain ⟨dxl, wi, pl, li, pa, rows, prs, L⟩ := QA.ld
    have p24 := ok.p24
    have lpl : (D.ps.map V.str).length = D.ps.length := List.length_map ..
    refine ⟨_, (pss_cons (ps_set (i := 2) sc__rows_of.nd rfl (Or.inr rfl) (pe_meth (pv 0) T.cl_Question T.m_Question_first_minutes (G_Question_first_minutes T) (hr.mono (by decide)) T.B_Question_first_minutes .nil pass0 (pa_cons (pv 1) pa_nil)))
      (pss_one (ps_ret (pe_lc (own := [("place", 3)]) (g := gName 3) (tt := tYes) rfl sc__rows_of.nd (pi_tup (pe_fld (pe_fld (pv 0) rfl) rfl)) (blkOk_by (N := ["question", "numbers", "minutes", "place"]) (sc := defScope s__rows_of) (by decide +kernel)) (fun _ _ _ _ _ => pg_name (i := 3) sc__rows_of.nd rfl (Or.inl rfl)) (fun _ _ _ _ _ => pts_nil) (fun _ _ _ _ _ => (pe_tup (pa_cons (pv 3) (pa_cons (pe_dget1 (hu_of hr) (pv 2) (pv 3) ⟨by rfl, by rfl, by rfl, by rfl⟩) pa_nil)))))))), ?_⟩
    refine ⟨_, rfl, x, dx, _, rfl, QA.ob, q_first_minutes .., _, rfl, x, nt, D, ws, sts, bs, nums, ns, rfl, hx, ok, wok, sok, ls, hn, dn, no, fun d H1 e1 _ tb => ?_⟩
    refine ⟨_, rfl, x, a.C_Question, dx, _, _, rfl, e1 _ _ QA.ob, T.cl_Question, T.na_Question_land, q_land .., l, a.C, dxl, _, _, rfl, e1 _ _ L.ob, T.cl, T.nP, fs_places .., pl, rfl, ⟨_, ex_t e1 L.pl⟩, fun D0 hD => lcY_tup (K := K) (a := pl) (xs := D.ps.map V.str) (fun i H' => Ex H1 H' ∧ ∃ acc, H' D0 = some (.lst acc) ∧ acc.length = i ∧ DpAll K (del H' D0) acc (((D.ps.take i).map (dFi (FP.first (fireN D ws sts bs nums)))))) ⟨Ex.new hD, [], upd_same, rfl, .nil⟩ (fun i H' _ z => ex_t (e1.trans z.1) L.pl) (fun i y H' hy z => ?_) (fun H2 z => ?_)⟩
    · obtain ⟨e, acc, ha, la, da⟩ := z
      have hi := (List.getElem?_eq_some_iff.mp hy).1
      rw [lpl] at hi
      rw [List.getElem?_map] at hy
      cases hp : D.ps[i]? with
      | none => rw [hp] at hy; cases hy
      | some p =>
        rw [hp] at hy
        cases hy
        obtain ⟨k0, h0, _, tk0⟩ := tb.ex e
        have g0 : DGet H' d (.str p) (valV k0 (.inr p)) := DGet.k (k := Sum.inr p) h0
        rw [tk0 p] at g0
        refine ⟨rfl, _, rfl, _, rfl, d, rfl, .inl ⟨k0, .inl h0⟩, _, rfl, _, g0, by show 2 ≤ sizeLine; decide, fun u hu => ?_⟩
        rw [getD_vInt]
        have eT := Ex.new (o := .tup [.str p, vInt (FP.first (fireN D ws sts bs nums) p)]) hu
        have uD : u ≠ D0 := fun x => by rw [x, ha] at hu; cases hu
        refine ⟨acc, eT _ _ ha, sz_lt (by omega), (e.trans eT).mut hD, acc ++ [.ref u], upd_same, by rw [List.length_append, la] <;> rfl, ?_⟩
        rw [del_upd, take_one hp, List.map_append]
        exact dps_app (dps_ex (ex_del eT) da) (dps_one (.tup (st_of (del_at uD upd_same)) (.cons (.str _) (.cons (dp_opt _) .nil))))
    · obtain ⟨e, acc, ha, la, da⟩ := z
      rw [lpl, List.take_length] at da
      exact k D0 H2 acc (e1.trans e) (fresh_back e1 hD) ha (dps_ex del_ex da)
end
end EV

set_option Elab.async false
set_option linter.all false
set_option maxRecDepth 100000
set_option maxHeartbeats 4000000
namespace EV
open PySem PySem.Spec PyProof.Rows L2 EvS Evl
/-! ### what can be reached -/
inductive Rch (E : List (Str × Str)) (S B : List Str) : Str → Prop
  | start {s : Str} : s ∈ S → s ∉ B → Rch E S B s
  | step {o t : Str} : Rch E S B o → (o, t) ∈ E → t ∉ B → Rch E S B t
theorem rch_sub {E : List (Str × Str)} {S B : List Str} {X : Str → Prop} (h0 : ∀ s ∈ S, s ∉ B → X s) (h1 : ∀ o t, (o, t) ∈ E → X o → t ∉ B → X t) {x : Str} (h : Rch E S B x) : X x := by
  induction h with
  | start a b => exact h0 _ a b
  | step _ e n ih => exact h1 _ _ e ih n
/-- how many of ps are not in X -/
def missing (ps X : List Str) : Nat := (ps.filter fun p => decide (p ∉ X)).length
theorem missing_cons (p : Str) (ps X : List Str) : missing (p :: ps) X = (if p ∈ X then 0 else 1) + missing ps X := by
  unfold missing
  by_cases h : p ∈ X
  · rw [List.filter_cons_of_neg (by simpa using h), if_pos h, Nat.zero_add]
  · rw [List.filter_cons_of_pos (by simpa using h), if_neg h, List.length_cons, Nat.add_comm]
theorem missing_le {X Y : List Str} (h : ∀ z, z ∈ X → z ∈ Y) : ∀ ps, missing ps Y ≤ missing ps X
  | [] => Nat.le_refl _
  | p :: ps => by
    have ih := missing_le h ps
    rw [missing_cons, missing_cons]
    by_cases a : p ∈ X
    · rw [if_pos a, if_pos (h p a)]; omega
    · rw [if_neg a]
      split <;> omega
theorem missing_lt {X Y : List Str} {t : Str} (h : ∀ z, z ∈ X → z ∈ Y) (hn : t ∉ X) (hy : t ∈ Y) : ∀ {ps : List Str}, t ∈ ps → missing ps Y < missing ps X
  | p :: ps, ht => by
    rw [missing_cons, missing_cons]
    rcases List.mem_cons.mp ht with e | ht
    · subst e
      have := missing_le h ps
      rw [if_pos hy, if_neg hn]; omega
    · have ih := missing_lt h hn hy ht
      by_cases a : p ∈ X
      · rw [if_pos a, if_pos (h p a)]; omega
      · rw [if_neg a]
        split <;> omega
theorem missing_all (ps X : List Str) : missing ps X ≤ ps.length := List.length_filter_le _ _
theorem missing_zero {ps X : List Str} (h : missing ps X = 0) {p : Str} (hp : p ∈ ps) : p ∈ X := by
  unfold missing at h
  rw [List.length_eq_zero_iff, List.filter_eq_nil_iff] at h
  have := h p hp
  simpa using this
/-- the ways of a fire from place to place -/
def openL (k : Link) : Bool := k.ts.any (·.isSome)
def passes (ls : List Link) : List (Str × Str) := (ls.filter openL).map fun k => (k.o, k.t)
theorem passes_take {ls : List Link} {i : Nat} {k : Link} (h : ls[i]? = some k) : passes (ls.take (i + 1)) = passes (ls.take i) ++ (if openL k = true then [(k.o, k.t)] else []) := by
  unfold passes
  rw [take_one h, List.filter_append, List.map_append]
  congr 1
  by_cases o : openL k = true
  · rw [if_pos o, List.filter_cons_of_pos o]; rfl
  · rw [if_neg o, List.filter_cons_of_neg o]; rfl
theorem passes_len (ls : List Link) : (passes ls).length ≤ ls.length := by
  unfold passes
  rw [List.length_map]
  exact List.length_filter_le _ _
theorem passes_in {ls : List Link} {o t : Str} (h : (o, t) ∈ passes ls) : ∃ k ∈ ls, k.o = o ∧ k.t = t := by
  obtain ⟨k, hk, e⟩ := List.mem_map.mp h
  exact ⟨k, (List.mem_filter.mp hk).1, (Prod.mk.inj e).1, (Prod.mk.inj e).2⟩
theorem pair_in {K : PySem.W.Frag} {H : Hp} {v : V} {x y : Str} (h : Dp K H v (dPair x y)) : ∃ t, v = .ref t ∧ SqT K H t [.str x, .str y] := by
  unfold dPair at h
  cases h with
  | tup hs hr =>
    cases hr with
    | cons a1 hr =>
      cases a1
      cases hr with
      | cons a2 hr =>
        cases a2
        cases hr
        exact ⟨_, rfl, hs⟩
theorem frozen_pairs (es : List (Str × Str)) : frozenAll (es.map fun e => dPair e.1 e.2) = true := frozenAll_of fun d hd => by
  obtain ⟨b, _, rfl⟩ := List.mem_map.mp hd
  simp [dPair, frozen, frozenAll]
theorem frozen_app {ds es : List PyData} (h1 : frozenAll ds = true) (h2 : frozenAll es = true) : frozenAll (ds ++ es) = true := by
  induction ds with
  | nil => exact h2
  | cons d ds ih =>
    simp only [frozenAll, Bool.and_eq_true] at h1
    simp only [List.cons_append, frozenAll, Bool.and_eq_true]
    exact ⟨h1.1, ih h1.2⟩
theorem iteT' {b : Bool} {p q : Prop} (h : b = true) (hp : p) : if b = true then p else q := by rw [if_pos h]; exact hp
theorem iteF' {b : Bool} {p q : Prop} (h : ¬ b = true) (hq : q) : if b = true then p else q := by rw [if_neg h]; exact hq
/-- what stands as one of a link's times -/
theorem time_val {K : PySem.W.Frag} {H : Hp} {v : V} {b : Option (Int × Int)} (h : Dp K H v (dTime b)) : decide (v = .non) = !b.isSome := by
  cases b with
  | none =>
    cases h
    rfl
  | some b =>
    unfold dTime at h
    cases h
    rfl
theorem inV_str_not {z : Str} {ys : List Str} (h : z ∉ ys) : inV (.str z) (ys.map V.str) = false := by
  unfold inV
  rw [List.any_map, List.any_eq_false]
  intro x hx
  show ¬ (x == z) = true
  intro e
  exact h (eq_of_beq e ▸ hx)
theorem inV_str_dec (z : Str) (ys : List Str) : inV (.str z) (ys.map V.str) = decide (z ∈ ys) := by
  by_cases h : z ∈ ys
  · rw [inV_str h, decide_eq_true h]
  · rw [inV_str_not h, decide_eq_false h]
def sp__check_places (K : PySem.W.Frag) (C : Addr) : Sp := fun vs H Q _ => ∃ (x p : Addr) (zs : List Str) (D : LandD), vs = [.ref x, .ref p] ∧ IsLand K C H x D ∧ SqL K H p (zs.map V.str) ∧ (∀ z ∈ zs, z ∈ D.ps) ∧ Q .non H
def sp__passes (K : PySem.W.Frag) (C : Addr) : Sp := fun vs H Q _ => ∃ (x : Addr) (D : LandD), vs = [.ref x] ∧ IsLand K C H x D ∧ LandOk D ∧ ∀ H' q rows, Ex H H' → H q = none → H' q = some (.lst rows) → DpAll K H' rows ((passes D.ls).map fun e => dPair e.1 e.2) → Q (.ref q) H'
section
variable {P : Program} {w : World} {K : PySem.W.Frag} {mg : Str → Option Value} {base : Heap} {a : Ad}
theorem G__check_places (T : Txt K mg a) : FnOk P w K mg base CX0 2 a.f__check_places a.d__check_places ["land", "places"] (sp__check_places K a.C) := by
  refine T.F__check_places.ok sc__check_places (fun vs H Q E h => ?_) (fun cdv A outer s H vs Q E hr h => ?_)
  · obtain ⟨x, p, zs, D, rfl, _⟩ := h
    rfl
  · obtain ⟨x, p, zs, D, rfl, hx, hp, hz, k⟩ := h
    obtain ⟨dx, wi, pl, li, pa, rows, prs, L⟩ := hx
    refine ⟨_, (pss_one (ps_for PassesOwn.never rfl (pi_list (pv 1)) (pg_name (i := 2) sc__check_places.nd rfl (Or.inl rfl)) (pss_one (ps_expr (pe_meth (pv 0) T.cl T.m_check_place (G_check_place T) (hr.mono (by decide)) T.B_check_place .nil pass0 (pa_cons (pv 2) pa_nil)))))), ?_⟩
    refine ⟨_, rfl, p, rfl, ⟨_, hp⟩, for_list (K := K) (a := p) (xs := zs.map V.str) (fun i σ H' => ∃ v2, σ = [some (.ref x), some (.ref p), v2] ∧ H' = H) ⟨none, rfl, rfl⟩ (fun i σ H' _ z => by obtain ⟨_, _, rfl⟩ := z; exact hp) ?_ ?_⟩
    · rintro i y σ H' hy ⟨v2, rfl, hH⟩
      obtain ⟨z, hzm, rfl⟩ := List.mem_map.mp (List.mem_of_getElem? hy)
      rw [hH]
      refine ⟨_, rfl, x, dx, _, rfl, L.ob, fs_check_place .., _, rfl, x, D, z, rfl, ⟨dx, wi, pl, li, pa, rows, prs, L⟩, hz z hzm, ?_⟩
      exact ⟨_, rfl, rfl⟩
    · rintro σ H' ⟨v2, rfl, hH⟩
      rw [hH]
      exact k
theorem G__passes (T : Txt K mg a) : FnOk P w K mg base CX0 1 a.f__passes a.d__passes ["land"] (sp__passes K a.C) := by
  refine T.F__passes.ok sc__passes (fun vs H Q E h => ?_) (fun cdv A outer s H vs Q E hr h => ?_)
  · obtain ⟨x, D, rfl, _⟩ := h
    rfl
  · obtain ⟨x, D, rfl, ⟨dx, wi, pl, li, pa, rows, prs, L⟩, ok, k⟩ := h
    have rl : rows.length = D.ls.length := by rw [dps_len L.ls, List.length_map]
    have l60 := ok.l60
    refine ⟨_, (pss_one (ps_ret (pe_lc (own := [("_", 1), ("one", 2), ("other", 3), ("times", 4)]) (g := gTup K 4 (gCons (gName 1) (gCons (gName 2) (gCons (gName 3) (gCons (gName 4) gNil))))) rfl sc__passes.nd (pi_tup (pe_fld (pv 0) rfl)) (blkOk_by (N := ["land", "_", "one", "other", "times", "bounds"]) (sc := defScope s__passes) (by decide +kernel)) (fun _ _ _ _ _ => (pg_tup (by rfl) (pgs_cons (pg_name (i := 1) sc__passes.nd rfl (Or.inl rfl)) (pgs_cons (pg_name (i := 2) sc__passes.nd rfl (Or.inl rfl)) (pgs_cons (pg_name (i := 3) sc__passes.nd rfl (Or.inl rfl)) (pgs_cons (pg_name (i := 4) sc__passes.nd rfl (Or.inl rfl)) pgs_nil)))))) (fun _ _ _ _ _ => pts_one (pt_val (pe_callB (show CallR _ _ (rAny K) from cr_any rfl) (by rfl) T.z_any (by decide +kernel) (pa_cons (pe_lc (own := [("bounds", 5)]) (g := gName 5) (tt := tYes) rfl sc__passes.nd (show PI _ _ _ (iTup K (tVar 4)) from (pi_tup (pv 4))) (EvS.blkOk_nest (N := ["land", "_", "one", "other", "times", "bounds"]) (sc := defScope s__passes) rfl rfl (by decide +kernel)) (fun _ _ _ _ _ => pg_name (i := 5) sc__passes.nd rfl (Or.inl rfl)) (fun _ _ _ _ _ => pts_nil) (fun _ _ _ _ _ => (pe_cmpR op_notN (pv 5) pe_non (nomark _)))) pa_nil)))) (fun _ _ _ _ _ => (pe_tup (pa_cons (pv 2) (pa_cons (pv 3) pa_nil))))))), ?_⟩
    refine ⟨_, rfl, x, a.C, dx, _, _, rfl, L.ob, T.cl, T.nL, fs_links .., li, rfl, ⟨_, L.li⟩, fun D0 hD => lc_tup (K := K) (a := li) (xs := rows) (fun i H' => Ex H H' ∧ ∃ got, H' D0 = some (.lst got) ∧ DpAll K H' got ((passes (D.ls.take i)).map fun e => dPair e.1 e.2)) ⟨Ex.new hD, [], upd_same, .nil⟩ (fun i H' _ z => ex_t z.1 L.li) ?_ ?_⟩
    · rintro i y H' hy ⟨e, got, hg, hgd⟩
      have hi : i < rows.length := (List.getElem?_eq_some_iff.mp hy).1
      obtain ⟨b, hb⟩ : ∃ b, D.ls[i]? = some b := ⟨D.ls[i]'(by omega), List.getElem?_eq_getElem (by omega)⟩
      obtain ⟨dd, hd1, hd2⟩ := dps_at (dps_ex e L.ls) hy
      rw [List.getElem?_map, hb] at hd1
      obtain rfl : dLink b = dd := Option.some.inj hd1
      have gl : got.length ≤ i := by
        have := passes_len (D.ls.take i)
        rw [List.length_take] at this
        rw [dps_len hgd, List.length_map]
        omega
      obtain ⟨t, u, vs, rfl, hT, hU, hts⟩ := link_in hd2
      have vl : vs.length = b.ts.length := by rw [dps_len hts, List.length_map]
      have v4 : vs.length ≤ 4 := by have := (ok.lk b (List.mem_of_getElem? hb)).len; have := ok.w4; omega
      refine ⟨t, _, rfl, hT, rfl, _, _, rfl, _, _, rfl, _, _, rfl, _, _, rfl, rfl, rfl, ?_⟩
      refine ⟨_, rfl, u, rfl, ⟨_, hU⟩, fun D2 hD2 => lcY_tup (K := K) (a := u) (xs := vs) (fun j H2 => Ex H' H2 ∧ H2 D2 = some (.lst (((b.ts.take j).map (·.isSome)).map V.bl))) ⟨Ex.new hD2, upd_same⟩ (fun j H2 _ z => ex_t z.1 hU) ?_ ?_⟩
      · rintro j y H2 hy2 ⟨e2, hg2⟩
        have hj : j < vs.length := (List.getElem?_eq_some_iff.mp hy2).1
        obtain ⟨c, hc⟩ : ∃ c, b.ts[j]? = some c := ⟨b.ts[j]'(by omega), List.getElem?_eq_getElem (by omega)⟩
        obtain ⟨d2, hd3, hd4⟩ := dps_at hts hy2
        rw [List.getElem?_map, hc] at hd3
        obtain rfl : dTime c = d2 := Option.some.inj hd3
        refine ⟨rfl, _, rfl, rfl, _, hg2, sz_lt (by rw [List.length_map, List.length_map, List.length_take]; omega), e2.mut hD2, ?_⟩
        rw [upd_same, take_one hc, List.map_append, List.map_append, time_val hd4, Bool.not_not]
        rfl
      · rintro H2 ⟨e2, hg2⟩
        rw [vl, List.take_length] at hg2
        refine ⟨D2, _, rfl, SqL.of hg2, _, rfl, ?_⟩
        have eo : ((b.ts.map (·.isSome)).any id) = openL b := by unfold openL; rw [List.any_map]; rfl
        rw [eo]
        have hg' := e2 _ _ hg
        have hgd' := dps_ex e2 hgd
        by_cases o : openL b = true
        · refine iteT' o ?_
          refine ⟨_, rfl, _, rfl, by show 2 ≤ sizeLine; decide, fun t2 ht2 => ?_⟩
          have e3 : Ex H2 (upd H2 t2 (.tup [.str b.o, .str b.t])) := Ex.new ht2
          refine ⟨got, e3 _ _ hg', sz_lt (by omega), (e.trans (e2.trans e3)).mut hD, got ++ [.ref t2], upd_same, ?_⟩
          rw [passes_take hb, if_pos o, List.map_append]
          refine dps_exT (exT_mut (e3 _ _ hg')) (dps_app (dps_ex e3 hgd') (dps_one (.tup (st_of upd_same) (.cons (.str _) (.cons (.str _) .nil))))) ?_
          exact frozen_app (frozen_pairs _) (frozen_pairs [(b.o, b.t)])
        · refine iteF' o ⟨e.trans e2, got, hg', ?_⟩
          rw [passes_take hb, if_neg o, List.append_nil]
          exact hgd'
    · rintro H' ⟨e, got, hg, hgd⟩
      rw [rl, List.take_length] at hgd
      exact k H' D0 got e hD hg hgd
end
end EV

set_option Elab.async false
set_option linter.all false
set_option maxRecDepth 100000
set_option maxHeartbeats 4000000
namespace EV
open PySem PySem.Spec PyProof.Rows L2 EvS Evl
def keyd (rs : List Str) : List (L2.Key × V) := rs.map fun z => ((Sum.inr z : L2.Key), V.bl true)
theorem keyd_val (z : Str) : ∀ rs : List Str, valV (keyd rs) (Sum.inr z) = if z ∈ rs then some (V.bl true) else none
  | [] => rfl
  | r :: rs => by
    have ih := keyd_val z rs
    show valV ((Sum.inr r, V.bl true) :: keyd rs) (Sum.inr z) = _
    by_cases e : r = z
    · rw [valV_pos (by rw [e]), if_pos (by rw [e]; exact List.mem_cons_self)]
    · rw [valV_neg (fun q => e (Sum.inr.inj q)), ih]
      by_cases h : z ∈ rs
      · rw [if_pos h, if_pos (List.mem_cons_of_mem _ h)]
      · rw [if_neg h, if_neg (fun q => (List.mem_cons.mp q).elim (fun y => e y.symm) h)]
theorem keyd_some (z : Str) (rs : List Str) : (valV (keyd rs) (Sum.inr z)).isSome = decide (z ∈ rs) := by
  rw [keyd_val]
  by_cases h : z ∈ rs
  · rw [if_pos h, decide_eq_true h]; rfl
  · rw [if_neg h, decide_eq_false h]; rfl
theorem keyd_put {z : Str} {rs : List Str} (h : z ∉ rs) : putK (keyd rs) (Sum.inr z) (V.bl true) = keyd (rs ++ [z]) := by
  rw [putK_new _ (by rw [keyd_val, if_neg h])]
  unfold keyd
  rw [List.map_append]
  rfl
def nexts (E : List (Str × Str)) (z : Str) : List Str := (E.filter fun e => decide (V.str e.1 = V.str z)).map (·.2)
theorem nexts_take {E : List (Str × Str)} {i : Nat} {e : Str × Str} (z : Str) (h : E[i]? = some e) : nexts (E.take (i + 1)) z = nexts (E.take i) z ++ (if decide (V.str e.1 = V.str z) = true then [e.2] else []) := by
  unfold nexts
  rw [take_one h, List.filter_append, List.map_append]
  congr 1
  by_cases o : decide (V.str e.1 = V.str z) = true
  · rw [if_pos o, List.filter_cons, if_pos o]; rfl
  · rw [if_neg o, List.filter_cons, if_neg o]; rfl
theorem nexts_len (E : List (Str × Str)) (z : Str) : (nexts E z).length ≤ E.length := by
  unfold nexts
  rw [List.length_map]
  exact List.length_filter_le _ _
theorem mem_nexts {E : List (Str × Str)} {z t : Str} : t ∈ nexts E z ↔ (z, t) ∈ E := by
  unfold nexts
  constructor
  · intro h
    obtain ⟨e, he, rfl⟩ := List.mem_map.mp h
    obtain ⟨h1, h2⟩ := List.mem_filter.mp he
    obtain rfl := V.str.inj (of_decide_eq_true h2)
    exact h1
  · intro h
    exact List.mem_map.mpr ⟨(z, t), List.mem_filter.mpr ⟨h, decide_eq_true rfl⟩, rfl⟩
structure Work (ps : List Str) (E : List (Str × Str)) (S B rs ws : List Str) : Prop where
  wps : ∀ z ∈ ws, z ∈ ps
  wok : ∀ z ∈ ws, z ∉ B → Rch E S B z
  rok : ∀ z ∈ rs, Rch E S B z
  st : ∀ s ∈ S, s ∉ B → s ∈ rs ∨ s ∈ ws
  cl : ∀ o t, (o, t) ∈ E → o ∈ rs → t ∉ B → t ∈ rs ∨ t ∈ ws
  few : missing ps rs * 61 + ws.length ≤ 3000
  rln : rs.length + missing ps rs ≤ ps.length
theorem Work.start {ps : List Str} {E : List (Str × Str)} {S B : List Str} (h : ∀ z ∈ S, z ∈ ps) (p24 : ps.length ≤ 24) (l : S.length ≤ 1000) : Work ps E S B [] S := by
  have m := missing_all ps []
  exact ⟨h, fun z hz hn => .start hz hn, (fun z hz => by cases hz), fun s hs _ => .inr hs, (fun o t _ ho => by cases ho), by omega, by show 0 + _ ≤ _; omega⟩
theorem Work.skip {ps : List Str} {E : List (Str × Str)} {S B rs ws : List Str} {z : Str} (h : Work ps E S B rs (ws ++ [z])) (hz : z ∈ rs ∨ z ∈ B) : Work ps E S B rs ws := by
  have mem : ∀ {y}, y ∉ B → y ∈ rs ∨ y ∈ ws ++ [z] → y ∈ rs ∨ y ∈ ws := fun {y} nb q => by
    rcases q with q | q
    · exact .inl q
    · rcases List.mem_append.mp q with q | q
      · exact .inr q
      · obtain rfl := List.mem_singleton.mp q
        exact hz.elim .inl (fun x => absurd x nb)
  have f := h.few
  rw [List.length_append, List.length_singleton] at f
  exact ⟨fun y hy => h.wps y (List.mem_append_left _ hy), fun y hy => h.wok y (List.mem_append_left _ hy), h.rok, fun s hs hn => mem hn (h.st s hs hn), fun o t he ho hn => mem hn (h.cl o t he ho hn), by omega, h.rln⟩
theorem Work.take {ps : List Str} {E : List (Str × Str)} {S B rs ws : List Str} {z : Str} (h : Work ps E S B rs (ws ++ [z])) (hr : z ∉ rs) (hb : z ∉ B) (hE : ∀ o t, (o, t) ∈ E → t ∈ ps) (l60 : E.length ≤ 60) :
    Work ps E S B (rs ++ [z]) (ws ++ nexts E z) ∧ missing ps (rs ++ [z]) * 61 + (ws ++ nexts E z).length < missing ps rs * 61 + (ws ++ [z]).length := by
  have hz := h.wps z (List.mem_append_right _ List.mem_cons_self)
  have ml := missing_lt (X := rs) (Y := rs ++ [z]) (t := z) (fun y hy => List.mem_append_left _ hy) hr (List.mem_append_right _ List.mem_cons_self) hz
  have nl := nexts_len E z
  have f := h.few
  have r := h.rln
  have mem : ∀ {y}, y ∈ rs ∨ y ∈ ws ++ [z] → y ∈ rs ++ [z] ∨ y ∈ ws ++ nexts E z := fun {y} q => by
    rcases q with q | q
    · exact .inl (List.mem_append_left _ q)
    · rcases List.mem_append.mp q with q | q
      · exact .inr (List.mem_append_left _ q)
      · exact .inl (List.mem_append_right _ q)
  have rz : Rch E S B z := h.wok z (List.mem_append_right _ List.mem_cons_self) hb
  rw [List.length_append, List.length_singleton] at f
  have dec : missing ps (rs ++ [z]) * 61 + (ws ++ nexts E z).length < missing ps rs * 61 + (ws ++ [z]).length := by
    rw [List.length_append, List.length_append, List.length_singleton]
    omega
  refine ⟨⟨fun y hy => ?_, fun y hy hn => ?_, fun y hy => ?_, fun s hs hn => mem (h.st s hs hn), fun o t he ho hn => ?_, ?_, ?_⟩, dec⟩
  · rcases List.mem_append.mp hy with q | q
    · exact h.wps y (List.mem_append_left _ q)
    · exact hE z y (mem_nexts.mp q)
  · rcases List.mem_append.mp hy with q | q
    · exact h.wok y (List.mem_append_left _ q) hn
    · exact .step rz (mem_nexts.mp q) hn
  · rcases List.mem_append.mp hy with q | q
    · exact h.rok y q
    · rw [List.mem_singleton.mp q]; exact rz
  · rcases List.mem_append.mp ho with q | q
    · exact mem (h.cl o t he q hn)
    · obtain rfl := List.mem_singleton.mp q
      exact .inr (List.mem_append_right _ (mem_nexts.mpr he))
  · have f' := f
    rw [List.length_append, List.length_append, List.length_singleton] at dec
    rw [List.length_append]
    omega
  · rw [List.length_append, List.length_singleton]; omega
theorem Work.done {ps : List Str} {E : List (Str × Str)} {S B rs : List Str} (h : Work ps E S B rs []) {z : Str} : z ∈ rs ↔ Rch E S B z := by
  refine ⟨h.rok z, fun q => rch_sub (X := fun z => z ∈ rs) (fun s hs hn => ?_) (fun o t he ho hn => ?_) q⟩
  · exact (h.st s hs hn).elim id (fun y => by cases y)
  · exact (h.cl o t he ho hn).elim id (fun y => by cases y)
def sp__keeps_all (K : PySem.W.Frag) (C : Addr) : Sp := fun vs H Q _ => ∃ (x s g b : Addr) (D : LandD) (S G B : List Str), vs = [.ref x, .ref s, .ref g, .ref b] ∧ IsLand K C H x D ∧ LandOk D ∧ SqL K H s (S.map V.str) ∧ SqL K H g (G.map V.str) ∧ SqL K H b (B.map V.str) ∧ (∀ z ∈ S, z ∈ D.ps) ∧ S.length ≤ 1000 ∧ G.length ≤ 1000 ∧
  ∀ H' r, Ex H H' → (r = true ↔ ∀ z ∈ G, ¬ Rch (passes D.ls) S B z) → Q (.bl r) H'
section
variable {P : Program} {w : World} {K : PySem.W.Frag} {mg : Str → Option Value} {base : Heap} {a : Ad}
theorem G__keeps_all (T : Txt K mg a) : FnOk P w K mg base CX0 2 a.f__keeps_all a.d__keeps_all ["land", "starts", "goals", "broken"] (sp__keeps_all K a.C) := by
  refine T.F__keeps_all.ok sc__keeps_all (fun vs H Q E h => ?_) (fun cdv A outer s H vs Q E hr h => ?_)
  · obtain ⟨x, s, g, b, D, S, G, B, rfl, _⟩ := h
    rfl
  · obtain ⟨x, s, g, b, D, S, G, B, rfl, hx, ok, hS, hG, hB, sps, s1000, g1000, k⟩ := h
    have p24 := ok.p24
    have l60 := ok.l60
    have pE : (passes D.ls).length ≤ 60 := Nat.le_trans (passes_len _) l60
    have hE : ∀ o t, (o, t) ∈ passes D.ls → t ∈ D.ps := fun o t h => by
      obtain ⟨k0, hk, _, rfl⟩ := passes_in h
      exact (ok.lk k0 hk).t
    refine ⟨_, (pss_cons (ps_set (i := 4) sc__keeps_all.nd rfl (Or.inl rfl) (pe_call (G__passes T) (hr.mono (by decide)) (by rfl) T.g__passes T.k__passes T.B__passes .nil pass0 (pa_cons (pv 0) pa_nil)))
      (pss_cons (ps_set (i := 5) sc__keeps_all.nd rfl (Or.inr rfl) pe_dnewK)
      (pss_cons (ps_set (i := 6) sc__keeps_all.nd rfl (Or.inl rfl) (pe_callTy call_lstK (by rfl) T.z_list (by decide +kernel) (pa_cons (pv 1) pa_nil)))
      (pss_cons (ps_while PassesOwn.never (pt_cmpR op_gt (pe_callB call_len_seq (by rfl) T.z_len PySem.boot_len (pa_cons (pv 6) pa_nil)) pe_int (nomark _)) (pss_cons (ps_set (i := 7) sc__keeps_all.nd rfl (Or.inr rfl) (pe_bm0 PySem.F.plainAttrs_list PySem.F.slot_list_pop PySem.F.type_list_pop mt_pop (pv 6)))
        (pss_one (ps_if (PW.pt (pw_and (pt_cmp (pc_dnotin (hu_of hr) (pv 7) (pv 5))) (pw_and1 (pt_cmpR op_notIn_seq (pv 7) (pv 3) (by rfl))))) (pss_cons (ps_dput (hu_of hr) (pv 5) (pv 7) pe_bl rfl)
          (pss_one (ps_expr (pe_bm PySem.F.plainAttrs_list PySem.F.slot_list_extend PySem.F.type_list_extend mt_extend (pv 6) (pa_cons (pe_lc (own := [("one", 8), ("other", 9)]) (g := gTup K 2 (gCons (gName 8) (gCons (gName 9) gNil))) rfl sc__keeps_all.nd (pi_list (pv 4)) (blkOk_by (N := ["land", "starts", "goals", "broken", "passes", "reached", "waiting", "place", "one", "other", "goal"]) (sc := defScope s__keeps_all) (by decide +kernel)) (fun _ _ _ _ _ => (pg_tup (by rfl) (pgs_cons (pg_name (i := 8) sc__keeps_all.nd rfl (Or.inl rfl)) (pgs_cons (pg_name (i := 9) sc__keeps_all.nd rfl (Or.inl rfl)) pgs_nil)))) (fun _ _ _ _ _ => pts_one (pt_cmpR op_eq (pv 8) (pv 7) (nomark _))) (fun _ _ _ _ _ => (pv 9))) pa_nil))))) pss_nil))))
      (pss_one (ps_ret (pe_not (pe_callB (cr_any rfl) (by rfl) T.z_any (by decide +kernel) (pa_cons (pe_lc (own := [("goal", 10)]) (g := gName 10) (tt := tYes) rfl sc__keeps_all.nd (pi_list (pv 2)) (blkOk_by (N := ["land", "starts", "goals", "broken", "passes", "reached", "waiting", "place", "one", "other", "goal"]) (sc := defScope s__keeps_all) (by decide +kernel)) (fun _ _ _ _ _ => pg_name (i := 10) sc__keeps_all.nd rfl (Or.inl rfl)) (fun _ _ _ _ _ => pts_nil) (fun _ _ _ _ _ => (pe_cmp (pc_din (hu_of hr) (pv 10) (pv 5))))) pa_nil))))))))), ?_⟩
    refine ⟨_, rfl, x, D, rfl, hx, ok, fun H1 q1 rows e1 f1 h1 hd1 => ?_⟩
    have rlen : rows.length = (passes D.ls).length := by rw [dps_len hd1, List.length_map]
    refine fun d hd => ?_
    have e2 : Ex H1 (upd H1 d (.dK [])) := Ex.new hd
    have b2 : (upd H1 d (.dK [])) d = some (.dK (keyd [])) := upd_same
    refine ⟨_, rfl, s, _, rfl, .inl (ex_l (e1.trans e2) hS), fun wl hw => ?_⟩
    have hwH : H1 wl = none := fresh_back e2 hw
    have e3 : Ex H1 (upd (upd H1 d (.dK [])) wl (.lst (S.map V.str))) := e2.trans (Ex.new hw)
    have b3 : (upd (upd H1 d (.dK [])) wl (.lst (S.map V.str))) d = some (.dK (keyd [])) := Ex.new hw _ _ b2
    have w3 : (upd (upd H1 d (.dK [])) wl (.lst (S.map V.str))) wl = some (.lst (S.map V.str)) := upd_same
    generalize upd (upd H1 d (.dK [])) wl (.lst (S.map V.str)) = H3 at e3 b3 w3
    clear b2 hw e2
    refine ⟨fun j σ H' => ∃ (rs ws : List Str) (v7 v8 v9 v10 : Option V), j = missing D.ps rs * 61 + ws.length ∧ σ = [some (.ref x), some (.ref s), some (.ref g), some (.ref b), some (.ref q1), some (.ref d), some (.ref wl), v7, v8, v9, v10] ∧ Ex H1 H' ∧ H' d = some (.dK (keyd rs)) ∧ H' wl = some (.lst (ws.map V.str)) ∧ Work D.ps (passes D.ls) S B rs ws,
      ⟨_, [], S, none, none, none, none, rfl, rfl, e3, b3, w3, Work.start sps p24 s1000⟩, ?_⟩
    rintro j σ H' ⟨rs, ws, v7, v8, v9, v10, rfl, rfl, e, hD, hW, wk⟩
    have few := wk.few
    have rln := wk.rln
    refine ⟨_, rfl, wl, _, rfl, .inl (SqL.of hW), _, _, rfl, rfl, _, rfl, ?_⟩
    refine ite2 (fun pos => ?_) (fun npos => ?_)
    · refine ⟨_, fun σ' H' z => z, ?_⟩
      have hne : ws ≠ [] := fun z => by subst z; exact absurd (of_decide_eq_true pos) (by decide)
      obtain ⟨ws0, z, rfl⟩ : ∃ ws0 z, ws = ws0 ++ [z] := ⟨ws.dropLast, ws.getLast hne, (List.dropLast_concat_getLast hne).symm⟩
      have hl : ((ws0 ++ [z]).map V.str)[((ws0 ++ [z]).map V.str).length - 1]? = some (.str z) := by
        rw [List.map_append, List.length_append, List.map_singleton, List.length_singleton, Nat.add_sub_cancel, List.getElem?_append_right (Nat.le_refl _), Nat.sub_self]
        rfl
      refine ⟨_, rfl, .inl ⟨rfl, _, SqL.of hW⟩, wl, _, _, rfl, rfl, hW, hl, ?_⟩
      have hdl : ((ws0 ++ [z]).map V.str).dropLast = ws0.map V.str := by rw [List.map_append, List.map_singleton, List.dropLast_concat]
      rw [hdl]
      have ndw : d ≠ wl := ne_of hD hW (by intro z; cases z)
      have hD4 : (upd H' wl (.lst (ws0.map V.str))) d = some (.dK (keyd rs)) := by rw [upd_ne ndw]; exact hD
      have hW4 : (upd H' wl (.lst (ws0.map V.str))) wl = some (.lst (ws0.map V.str)) := upd_same
      have e4 : Ex H1 (upd H' wl (.lst (ws0.map V.str))) := e.mut hwH
      generalize upd H' wl (.lst (ws0.map V.str)) = H4 at hD4 hW4 e4
      clear hD hW e hl
      have lw : missing D.ps rs * 61 + ws0.length < missing D.ps rs * 61 + (ws0 ++ [z]).length := by rw [List.length_append, List.length_singleton]; omega
      refine ⟨_, rfl, _, rfl, d, _, rfl, DGet.k (k := Sum.inr z) hD4, _, rfl, ?_⟩
      rw [keyd_some]
      refine ite2 (fun nr => ?_) (fun nr => ?_)
      · have nr' : z ∉ rs := fun y => by rw [decide_eq_true y] at nr; exact absurd nr (by decide)
        refine ⟨_, rfl, _, rfl, b, _, rfl, .inl (ex_l (e1.trans e4) hB), rfl, flat_str _, _, rfl, ?_⟩
        rw [inV_str_dec]
        refine ite2 (fun nb => ?_) (fun nb => ?_)
        · have nb' : z ∉ B := fun y => by rw [decide_eq_true y] at nb; exact absurd nb (by decide)
          obtain ⟨wk2, dec⟩ := wk.take nr' nb' hE pE
          refine ⟨_, rfl, _, rfl, d, _, rfl, DPut.k (k := Sum.inr z) hD4 (sz_lt ?_), ?_⟩
          · unfold keyd
            rw [List.length_map]
            omega
          rw [keyd_put nr']
          have hD5 : (upd H4 d (.dK (keyd (rs ++ [z])))) d = some (.dK (keyd (rs ++ [z]))) := upd_same
          have hW5 : (upd H4 d (.dK (keyd (rs ++ [z])))) wl = some (.lst (ws0.map V.str)) := by rw [upd_ne ndw.symm]; exact hW4
          have e5 : Ex H1 (upd H4 d (.dK (keyd (rs ++ [z])))) := e4.mut hd
          generalize upd H4 d (.dK (keyd (rs ++ [z]))) = H5 at hD5 hW5 e5
          clear hD4 hW4 e4
          refine ⟨_, rfl, .inl ⟨rfl, _, SqL.of hW5⟩, _, rfl, q1, rfl, ⟨_, SqL.of (e5 _ _ h1)⟩, fun D2 hD2 => lc_list (K := K) (a := q1) (xs := rows) (fun i H' => Ex H5 H' ∧ H' D2 = some (.lst ((nexts ((passes D.ls).take i) z).map V.str))) ⟨Ex.new hD2, upd_same⟩ (fun i H' _ y => ex_l y.1 (SqL.of (e5 _ _ h1))) ?_ ?_⟩
          · rintro i y H6 hy ⟨e6, hg⟩
            have hi : i < rows.length := (List.getElem?_eq_some_iff.mp hy).1
            obtain ⟨p, hp⟩ : ∃ p, (passes D.ls)[i]? = some p := ⟨(passes D.ls)[i]'(by omega), List.getElem?_eq_getElem (by omega)⟩
            obtain ⟨dd, hd2, hd3⟩ := dps_at (dps_ex (e5.trans e6) hd1) hy
            rw [List.getElem?_map, hp] at hd2
            obtain rfl : dPair p.1 p.2 = dd := Option.some.inj hd2
            obtain ⟨t, rfl, hT⟩ := pair_in hd3
            have nl := nexts_len ((passes D.ls).take i) z
            rw [List.length_take] at nl
            refine ⟨t, _, rfl, hT, rfl, _, _, rfl, _, _, rfl, rfl, rfl, ?_⟩
            refine ⟨_, rfl, _, rfl, rfl, _, rfl, ?_⟩
            refine ite2 (fun c => ?_) (fun c => ?_)
            · refine ⟨_, rfl, _, hg, sz_lt (by rw [List.length_map]; omega), e6.mut hD2, ?_⟩
              rw [upd_same, nexts_take z hp, if_pos c, List.map_append]
              rfl
            · refine ⟨e6, ?_⟩
              rw [nexts_take z hp, if_neg c, List.append_nil]
              exact hg
          rintro H6 ⟨e6, hg⟩
          rw [rlen, List.take_length] at hg
          have nl := nexts_len (passes D.ls) z
          rw [List.length_append, List.length_singleton] at few
          refine ⟨wl, D2, _, _, rfl, rfl, e6 _ _ hW5, hg, sz_of (by rw [List.length_map, List.length_map]; omega), ?_⟩
          refine ⟨_, dec, rs ++ [z], ws0 ++ nexts (passes D.ls) z, _, _, _, _, rfl, rfl, (e5.trans e6).mut hwH, ?_, ?_, wk2⟩
          · rw [upd_ne ndw]; exact e6 _ _ hD5
          · rw [upd_same, List.map_append]
        · have nb' : z ∈ B := Classical.byContradiction fun y => nb (by rw [decide_eq_false y]; rfl)
          exact ⟨_, lw, rs, ws0, _, _, _, _, rfl, rfl, e4, hD4, hW4, wk.skip (.inr nb')⟩
      · have nr' : z ∈ rs := Classical.byContradiction fun y => nr (by rw [decide_eq_false y]; rfl)
        exact ⟨_, lw, rs, ws0, _, _, _, _, rfl, rfl, e4, hD4, hW4, wk.skip (.inl nr')⟩
    · have hw0 : ws = [] := by
        cases ws with
        | nil => rfl
        | cons y r => exact absurd (decide_eq_true (by show ((((y :: r).map V.str).length : Nat) : Int) > 0; rw [List.length_map, List.length_cons]; omega)) npos
      subst hw0
      refine ⟨_, rfl, g, rfl, ⟨_, ex_l (e1.trans e) hG⟩, fun D2 hD2 => lcY_list (K := K) (a := g) (xs := G.map V.str) (fun i H2 => Ex H' H2 ∧ H2 D2 = some (.lst (((G.take i).map fun z => decide (z ∈ rs)).map V.bl))) ⟨Ex.new hD2, upd_same⟩ (fun i H2 _ y => ex_l ((e1.trans e).trans y.1) hG) ?_ ?_⟩
      · rintro i y H2 hy ⟨e2, hg⟩
        have hi : i < G.length := by have := (List.getElem?_eq_some_iff.mp hy).1; rwa [List.length_map] at this
        obtain ⟨z, hz⟩ : ∃ z, G[i]? = some z := ⟨G[i], List.getElem?_eq_getElem hi⟩
        rw [List.getElem?_map, hz] at hy
        obtain rfl : V.str z = y := Option.some.inj hy
        refine ⟨rfl, _, rfl, _, rfl, d, _, rfl, DGet.k (k := Sum.inr z) (e2 _ _ hD), _, hg, sz_lt (by rw [List.length_map, List.length_map, List.length_take]; omega), e2.mut hD2, ?_⟩
        rw [upd_same, take_one hz, List.map_append, List.map_append, keyd_some]
        rfl
      · rintro H2 ⟨e2, hg⟩
        rw [List.length_map, List.take_length] at hg
        refine ⟨D2, _, rfl, SqL.of hg, _, rfl, ?_⟩
        refine k _ _ (e1.trans (e.trans e2)) ?_
        rw [Bool.not_eq_true', List.any_eq_false]
        constructor
        · intro h z hz q
          exact h _ (List.mem_map.mpr ⟨z, hz, rfl⟩) (decide_eq_true (wk.done.mpr q))
        · intro h y hy
          obtain ⟨z, hz, rfl⟩ := List.mem_map.mp hy
          intro q
          exact h z hz (wk.done.mp (of_decide_eq_true q))
end
end EV

set_option Elab.async false
set_option linter.all false
set_option maxRecDepth 100000
set_option maxHeartbeats 4000000
namespace EV
open PySem PySem.Spec PyProof.Rows L2 EvS Evl StX
def sp_is_kept (K : PySem.W.Frag) (C : Addr) : Sp := fun vs H Q _ => ∃ (x s g b : Addr) (D : LandD) (S G B : List Str), vs = [.ref x, .ref s, .ref g, .ref b] ∧ IsLand K C H x D ∧ LandOk D ∧ SqL K H s (S.map V.str) ∧ SqL K H g (G.map V.str) ∧ SqL K H b (B.map V.str) ∧ (∀ z ∈ S, z ∈ D.ps) ∧ (∀ z ∈ G, z ∈ D.ps) ∧ (∀ z ∈ B, z ∈ D.ps) ∧ S.length ≤ 1000 ∧ G.length ≤ 1000 ∧ B.length ≤ 1000 ∧
  ∀ H' r, Ex H H' → (r = true ↔ ∀ z ∈ G, ¬ Rch (passes D.ls) S B z) → Q (.bl r) H'
def sp__law_open (K : PySem.W.Frag) : Sp := fun vs H Q _ => ∃ (p : Addr) (D : LandD) (wi pl li pa : Addr) (rows prs : List V), vs = [.ref p] ∧ Parts2 K H p D wi pl li pa rows prs ∧ LandOk D ∧ ∀ H' q rs, Ex H H' → H q = none → H' q = some (.lst rs) → DpAll K H' rs ((passes D.ls).map fun e => dPair e.1 e.2) → Q (.ref q) H'
def sp__law_reached (K : PySem.W.Frag) : Sp := fun vs H Q _ => ∃ (p s b : Addr) (D : LandD) (wi pl li pa : Addr) (rows prs : List V) (S B : List Str), vs = [.ref p, .ref s, .ref b] ∧ Parts2 K H p D wi pl li pa rows prs ∧ LandOk D ∧ SqL K H s (S.map V.str) ∧ SqL K H b (B.map V.str) ∧ (∀ z ∈ S, z ∈ D.ps) ∧ S.length ≤ 1000 ∧
  ∀ H' q (zs : List Str), Ex H H' → H q = none → H' q = some (.lst (zs.map V.str)) → (∀ z, z ∈ zs ↔ Rch (passes D.ls) S B z) → Q (.ref q) H'
def sp__law_passes (K : PySem.W.Frag) : Sp := fun vs H Q _ => ∃ (p s g b : Addr) (D : LandD) (wi pl li pa : Addr) (rows prs : List V) (S G B : List Str), vs = [.ref p, .ref s, .ref g, .ref b] ∧ Parts2 K H p D wi pl li pa rows prs ∧ LandOk D ∧ SqL K H s (S.map V.str) ∧ SqL K H g (G.map V.str) ∧ SqL K H b (B.map V.str) ∧ (∀ z ∈ S, z ∈ D.ps) ∧ S.length ≤ 1000 ∧ G.length ≤ 1000 ∧
  ∀ H' r, Ex H H' → (r = true ↔ ∃ z ∈ G, Rch (passes D.ls) S B z) → Q (.bl r) H'
section
variable {P : Program} {w : World} {K : PySem.W.Frag} {mg : Str → Option Value} {base : Heap} {a : Ad}
theorem G_is_kept (T : Txt K mg a) : FnOk P w K mg base CX0 3 a.f_is_kept a.d_is_kept ["land", "starts", "goals", "places"] (sp_is_kept K a.C) := by
  refine T.F_is_kept.ok sc_is_kept (fun vs H Q E h => ?_) (fun cdv A outer s H vs Q E hr h => ?_)
  · obtain ⟨x, s, g, b, D, S, G, B, rfl, _⟩ := h
    rfl
  · obtain ⟨x, s, g, b, D, S, G, B, rfl, hx, ok, hS, hG, hB, sS, sG, sB, lS, lG, lB, k⟩ := h
    refine ⟨_, (pss_cons (ps_expr (pe_call (G__check_places T) (hr.mono (by decide)) (by rfl) T.g__check_places T.k__check_places T.B__check_places .nil pass0 (pa_cons (pv 0) (pa_cons (pe_lst (StX.pa_star (pv 1) (StX.pa_star (pv 2) (StX.pa_star (pv 3) pa_nil)))) pa_nil))))
      (pss_one (ps_ret (pe_call (G__keeps_all T) (hr.mono (by decide)) (by rfl) T.g__keeps_all T.k__keeps_all T.B__keeps_all .nil pass0 (pa_cons (pv 0) (pa_cons (pv 1) (pa_cons (pv 2) (pa_cons (pv 3) pa_nil)))))))), ?_⟩
    refine ⟨_, rfl, _, rfl, s, _, rfl, .inr hS, _, rfl, g, _, rfl, .inr hG, _, rfl, b, _, rfl, .inr hB, sz_of ?_, fun l hl => ?_⟩
    · simp only [List.length_append, List.length_map, List.length_nil]; omega
    have e1 : Ex H (upd H l (.lst (S.map V.str ++ (G.map V.str ++ (B.map V.str ++ []))))) := Ex.new hl
    have hL : (upd H l (.lst (S.map V.str ++ (G.map V.str ++ (B.map V.str ++ []))))) l = some (.lst ((S ++ (G ++ B)).map V.str)) := by
      rw [upd_same, List.map_append, List.map_append, List.append_nil]
    generalize upd H l (.lst (S.map V.str ++ (G.map V.str ++ (B.map V.str ++ [])))) = H1 at e1 hL
    refine ⟨x, l, S ++ (G ++ B), D, rfl, hx.ex e1, SqL.of hL, fun z hz => ?_, ?_⟩
    · rcases List.mem_append.mp hz with y | y
      · exact sS z y
      · rcases List.mem_append.mp y with y | y
        · exact sG z y
        · exact sB z y
    refine ⟨_, rfl, _, rfl, _, rfl, _, rfl, x, s, g, b, D, S, G, B, rfl, hx.ex e1, ok, ex_l e1 hS, ex_l e1 hG, ex_l e1 hB, sS, lS, lG, fun H' r e hq => k H' r (e1.trans e) hq⟩
theorem G__law_open (T : Txt K mg a) : FnOk P w K mg base CX0 1 a.f__law_open a.d__law_open ["parts"] (sp__law_open K) := by
  refine T.F__law_open.ok sc__law_open (fun vs H Q E h => ?_) (fun cdv A outer s H vs Q E hr h => ?_)
  · obtain ⟨p, D, wi, pl, li, pa, rows, prs, rfl, _⟩ := h
    rfl
  · obtain ⟨p, D, wi, pl, li, pa, rows, prs, rfl, S, ok, k⟩ := h
    have rl : rows.length = D.ls.length := by rw [dps_len S.ls, List.length_map]
    have l60 := ok.l60
    refine ⟨_, (pss_cons (ps_set (i := 1) sc__law_open.nd rfl (Or.inl rfl) (pe_lst pa_nil))
      (pss_cons (ps_for PassesOwn.never rfl (pi_tup (pe_ix ix_list (pv 0) pe_int (fun _ _ => rfl))) (pg_tup (by rfl) (pgs_cons (pg_name (i := 2) sc__law_open.nd rfl (Or.inl rfl)) (pgs_cons (pg_name (i := 3) sc__law_open.nd rfl (Or.inl rfl)) (pgs_cons (pg_name (i := 4) sc__law_open.nd rfl (Or.inl rfl)) (pgs_cons (pg_name (i := 5) sc__law_open.nd rfl (Or.inl rfl)) pgs_nil))))) (pss_one (ps_if (pt_val (pe_callB (cr_any rfl) (by rfl) T.z_any (by decide +kernel) (pa_cons (pe_lc (own := [("pair", 6)]) (g := gName 6) (tt := tYes) rfl sc__law_open.nd (pi_tup (pv 5)) (blkOk_by (N := ["parts", "found", "name", "one", "other", "times", "pair"]) (sc := defScope s__law_open) (by decide +kernel)) (fun _ _ _ _ _ => pg_name (i := 6) sc__law_open.nd rfl (Or.inl rfl)) (fun _ _ _ _ _ => pts_nil) (fun _ _ _ _ _ => (pe_cmpR op_notN (pv 6) pe_non (nomark _)))) pa_nil))) (pss_one (ps_expr (pe_bm PySem.F.plainAttrs_list PySem.F.slot_list_append PySem.F.type_list_append mt_append (pv 1) (pa_cons (pe_tup (pa_cons (pv 3) (pa_cons (pv 4) pa_nil))) pa_nil)))) pss_nil)))
      (pss_one (ps_ret (pv 1))))), ?_⟩
    refine ⟨Nat.zero_le _, fun q hq => ?_⟩
    have e0 : Ex H (upd H q (.lst [])) := Ex.new hq
    refine ⟨_, rfl, p, _, _, _, rfl, rfl, ex_l e0 S.ob, atI_nat (j := 2) rfl, li, rfl, ⟨_, ex_t e0 S.li⟩, for_tup (K := K) (a := li) (xs := rows) (fun i σ H' => ∃ (got : List V) (v2 v3 v4 v5 : Option V), σ = [some (.ref p), some (.ref q), v2, v3, v4, v5, none] ∧ Ex H H' ∧ H' q = some (.lst got) ∧ DpAll K H' got ((passes (D.ls.take i)).map fun e => dPair e.1 e.2)) ⟨[], none, none, none, none, rfl, e0, upd_same, .nil⟩ (fun i σ H' _ z => by obtain ⟨_, _, _, _, _, _, z, _⟩ := z; exact ex_t z S.li) ?_ ?_⟩
    · rintro i y σ H' hy ⟨got, v2, v3, v4, v5, rfl, e, hg, hgd⟩
      have hi : i < rows.length := (List.getElem?_eq_some_iff.mp hy).1
      obtain ⟨b, hb⟩ : ∃ b, D.ls[i]? = some b := ⟨D.ls[i]'(by omega), List.getElem?_eq_getElem (by omega)⟩
      obtain ⟨dd, hd1, hd2⟩ := dps_at (dps_ex e S.ls) hy
      rw [List.getElem?_map, hb] at hd1
      obtain rfl : dLink b = dd := Option.some.inj hd1
      have gl : got.length ≤ i := by
        have := passes_len (D.ls.take i)
        rw [List.length_take] at this
        rw [dps_len hgd, List.length_map]
        omega
      obtain ⟨t, u, vs, rfl, hT, hU, hts⟩ := link_in hd2
      have vl : vs.length = b.ts.length := by rw [dps_len hts, List.length_map]
      have v4 : vs.length ≤ 4 := by have := (ok.lk b (List.mem_of_getElem? hb)).len; have := ok.w4; omega
      refine ⟨t, _, rfl, hT, rfl, _, _, rfl, _, _, rfl, _, _, rfl, _, _, rfl, rfl, ?_⟩
      refine ⟨_, rfl, u, rfl, ⟨_, hU⟩, fun D2 hD2 => lcY_tup (K := K) (a := u) (xs := vs) (fun j H2 => Ex H' H2 ∧ H2 D2 = some (.lst (((b.ts.take j).map (·.isSome)).map V.bl))) ⟨Ex.new hD2, upd_same⟩ (fun j H2 _ z => ex_t z.1 hU) ?_ ?_⟩
      · rintro j y H2 hy2 ⟨e2, hg2⟩
        have hj : j < vs.length := (List.getElem?_eq_some_iff.mp hy2).1
        obtain ⟨c, hc⟩ : ∃ c, b.ts[j]? = some c := ⟨b.ts[j]'(by omega), List.getElem?_eq_getElem (by omega)⟩
        obtain ⟨d2, hd3, hd4⟩ := dps_at hts hy2
        rw [List.getElem?_map, hc] at hd3
        obtain rfl : dTime c = d2 := Option.some.inj hd3
        refine ⟨rfl, _, rfl, rfl, _, hg2, sz_lt (by rw [List.length_map, List.length_map, List.length_take]; omega), e2.mut hD2, ?_⟩
        rw [upd_same, take_one hc, List.map_append, List.map_append, time_val hd4, Bool.not_not]
        rfl
      · rintro H2 ⟨e2, hg2⟩
        rw [vl, List.take_length] at hg2
        refine ⟨D2, _, rfl, SqL.of hg2, _, rfl, ?_⟩
        have eo : ((b.ts.map (·.isSome)).any id) = openL b := by unfold openL; rw [List.any_map]; rfl
        rw [eo]
        have hg' := e2 _ _ hg
        have hgd' := dps_ex e2 hgd
        by_cases o : openL b = true
        · refine iteT' o ?_
          refine ⟨_, rfl, .inl ⟨rfl, _, SqL.of hg'⟩, _, rfl, _, rfl, by show 2 ≤ sizeLine; decide, fun t2 ht2 => ?_⟩
          have e3 : Ex H2 (upd H2 t2 (.tup [.str b.o, .str b.t])) := Ex.new ht2
          refine ⟨q, got, _, rfl, rfl, e3 _ _ hg', sz_lt (by omega), got ++ [.ref t2], _, _, _, _, rfl, (e.trans (e2.trans e3)).mut hq, upd_same, ?_⟩
          rw [passes_take hb, if_pos o, List.map_append]
          refine dps_exT (exT_mut (e3 _ _ hg')) (dps_app (dps_ex e3 hgd') (dps_one (.tup (st_of upd_same) (.cons (.str _) (.cons (.str _) .nil))))) ?_
          exact frozen_app (frozen_pairs _) (frozen_pairs [(b.o, b.t)])
        · refine iteF' o ⟨got, _, _, _, _, rfl, e.trans e2, hg', ?_⟩
          rw [passes_take hb, if_neg o, List.append_nil]
          exact hgd'
    · rintro σ H' ⟨got, v2, v3, v4, v5, rfl, e, hg, hgd⟩
      rw [rl, List.take_length] at hgd
      exact ⟨_, rfl, k H' q got e hq hg hgd⟩
end
end EV

set_option Elab.async false
set_option linter.all false
set_option maxRecDepth 100000
set_option maxHeartbeats 4000000
namespace EV
open PySem PySem.Spec PyProof.Rows L2 EvS Evl StX
structure Seen (ps : List Str) (E : List (Str × Str)) (S B zs : List Str) : Prop where
  ok : ∀ z ∈ zs, Rch E S B z
  st : ∀ s ∈ S, s ∉ B → s ∈ zs
  few : zs.length + missing ps zs ≤ S.length + ps.length
def Clo (E : List (Str × Str)) (B zs : List Str) : Prop := ∀ o t, (o, t) ∈ E → o ∈ zs → t ∉ B → t ∈ zs
theorem Seen.done {ps : List Str} {E : List (Str × Str)} {S B zs : List Str} (h : Seen ps E S B zs) (c : Clo E B zs) (z : Str) : z ∈ zs ↔ Rch E S B z :=
  ⟨h.ok z, fun q => rch_sub (X := fun z => z ∈ zs) (fun s hs hn => h.st s hs hn) (fun o t he ho hn => c o t he ho hn) q⟩
theorem Seen.more {ps : List Str} {E : List (Str × Str)} {S B zs : List Str} {o t : Str} (h : Seen ps E S B zs) (he : (o, t) ∈ E) (ho : o ∈ zs) (ht : t ∉ zs) (hb : t ∉ B) (tp : t ∈ ps) : Seen ps E S B (zs ++ [t]) ∧ missing ps (zs ++ [t]) + 1 ≤ missing ps zs := by
  have m := missing_lt (X := zs) (Y := zs ++ [t]) (t := t) (fun y hy => List.mem_append_left _ hy) ht (List.mem_append_right _ List.mem_cons_self) tp
  have f := h.few
  refine ⟨⟨fun z hz => ?_, fun s hs hn => List.mem_append_left _ (h.st s hs hn), by rw [List.length_append, List.length_singleton]; omega⟩, by omega⟩
  rcases List.mem_append.mp hz with y | y
  · exact h.ok z y
  · rw [List.mem_singleton.mp y]
    exact .step (h.ok o ho) he hb
theorem clo_zero {ps : List Str} {E : List (Str × Str)} {B zs : List Str} (hE : ∀ o t, (o, t) ∈ E → t ∈ ps) (h : missing ps zs = 0) : Clo E B zs := fun o t he _ _ => missing_zero h (hE o t he)
section
variable {P : Program} {w : World} {K : PySem.W.Frag} {mg : Str → Option Value} {base : Heap} {a : Ad}
end
end EV

set_option Elab.async false
set_option linter.all false
set_option maxRecDepth 100000
set_option maxHeartbeats 4000000
namespace EV
open PySem PySem.Spec PyProof.Rows L2 EvS Evl FD EnT
def rowKvs (ps : List Str) (f : Str → Option Int) : List (Key × V) := ps.map fun z => (Sum.inr z, vInt (f z))
theorem merge_rows {f : Str → Option Int} (z : Str) : ∀ (ps : List Str) (kvs : List (Key × V)), valV (mergeK kvs (rowKvs ps f)) (.inr z) = if z ∈ ps then some (vInt (f z)) else valV kvs (.inr z)
  | [], kvs => by rw [if_neg List.not_mem_nil]; rfl
  | p :: ps, kvs => by
    show valV (mergeK (putK kvs (.inr p) (vInt (f p))) (rowKvs ps f)) (.inr z) = _
    rw [merge_rows z ps]
    by_cases h : z ∈ ps
    · rw [if_pos h, if_pos (List.mem_cons_of_mem _ h)]
    · rw [if_neg h, valV_put]
      by_cases e : z = p
      · subst e
        rw [if_pos rfl, if_pos List.mem_cons_self]
      · rw [if_neg (fun q => e (Sum.inr.inj q)), if_neg (fun q => (List.mem_cons.mp q).elim e h)]
theorem rows_pair {K : PySem.W.Frag} {H : Hp} {f : Str → Option Int} : ∀ {ps : List Str} {us : List V}, DpAll K H us (ps.map (dFi f)) → ∃ as : List Addr, us = as.map V.ref ∧ Paired (fun p (kv : Key × V) => SqT K H p [kV kv.1, kv.2]) as (rowKvs ps f)
  | [], _, .nil => ⟨[], rfl, .nil⟩
  | p :: ps, _, .cons h r => by
    obtain ⟨as, rfl, pr⟩ := rows_pair r
    unfold dFi at h
    cases h with
    | @tup t _ _ st al =>
      cases al with
      | cons d1 al =>
        cases al with
        | cons d2 al =>
          cases al
          cases d1
          rw [opt_dp d2] at st
          exact ⟨t :: as, rfl, .cons st pr⟩
theorem fi_in {K : PySem.W.Frag} {H : Hp} {v : V} {f : Str → Option Int} {z : Str} (h : Dp K H v (dFi f z)) : ∃ t, v = .ref t ∧ SqT K H t [.str z, vInt (f z)] := by
  unfold dFi at h
  cases h with
  | @tup t _ _ st al =>
    cases al with
    | cons d1 al =>
      cases al with
      | cons d2 al =>
        cases al
        cases d1
        rw [opt_dp d2] at st
        exact ⟨t, rfl, st⟩
def spRows (s : Nat) (K : PySem.W.Frag) (C : Addr) : Sp := fun vs H Q _ => ∃ (l w s' b : Addr) (D : LandD) (ws : List (Int × Str)) (sts bs : List (Str × Int)) (us ss bb : List V), vs = [.ref l, .ref w, .ref s', .ref b] ∧ AskQ K C H l w s' b D ws sts bs us ss bb ∧
  ∀ o H' us, Ex H H' → H o = none → H' o = some (.lst us) → DpAll K H' us (D.ps.map (dFi (FP.first (fireOf D ws sts bs s)))) → Q (.ref o) H'
section
variable {P : Program} {w : World} {K : PySem.W.Frag} {mg : Str → Option Value} {base : Heap} {a : Ad}
theorem G_fastest (T : Txt K mg a) : FnOk P w K mg base CX0 6 a.f_fastest a.d_fastest ["land", "weather", "starts", "breaks"] (spRows 0 K a.C) := by
  refine T.F_fastest.ok sc_fastest (fun vs H Q E h => ?_) (fun cdv A outer s H vs Q E hr h => ?_)
  · obtain ⟨l, w, s, b, D, ws, sts, bs, us, ss, bb, rfl, _⟩ := h
    rfl
  · obtain ⟨l, w, s, b, D, ws, sts, bs, us, ss, bb, rfl, A, k⟩ := h
    refine ⟨_, (pss_one (ps_ret (pe_call (G__rows_of T) (hr.mono (by decide)) (by rfl) T.g__rows_of T.k__rows_of T.B__rows_of .nil pass0 (pa_cons (pe_call (G_ask T) (hr.mono (by decide)) (by rfl) T.g_ask T.k_ask T.B1_ask (.cons (show L2.RelV (V.ref a.te_ask) (Value.ref a.te_ask) from rfl) .nil) pass0 (pa_cons (pv 0) (pa_cons (pv 1) (pa_cons (pv 2) (pa_cons (pv 3) pa_nil))))) (pa_cons (pe_call (G_least_numbers T) (hr.mono (by decide)) (by rfl) T.g_least_numbers T.k_least_numbers T.B_least_numbers .nil pass0 (pa_cons (pv 0) pa_nil)) pa_nil))))), ?_⟩
    refine ⟨_, rfl, _, rfl, _, rfl, _, rfl, l, w, s, b, a.te_ask, D, ws, us, sts, bs, ss, bb, [], rfl, A.ld, A.ok, A.hw, A.dw, A.wok, A.hs, A.ds, Nat.le_trans A.ls (by decide), A.sok.pm, A.hb, A.db, Nat.le_trans A.lb (by decide), A.bok, .inr (T.teT_ask H), (fun q hq => by cases hq), fun H2 x e2 hx => ?_⟩
    refine ⟨_, rfl, l, D, rfl, A.ld.ex e2, A.ok, fun H3 nt ns e3 _ hnt dnt => ?_⟩
    have e23 := e2.trans e3
    exact ⟨x, nt, D, ws, sts, bs, numsS 0 D, ns, rfl, hx.ex e3, A.ok, A.wok, A.sok, Nat.le_trans A.ls (by decide), hnt, dnt, numsS_ok A.ok 0, fun o H' us e ho h d => k o H' us (e23.trans e) (fresh_back e23 ho) h (by rw [fireN_S] at d; exact d)⟩
theorem G_slowest (T : Txt K mg a) : FnOk P w K mg base CX0 6 a.f_slowest a.d_slowest ["land", "weather", "starts", "breaks"] (spRows 1 K a.C) := by
  refine T.F_slowest.ok sc_slowest (fun vs H Q E h => ?_) (fun cdv A outer s H vs Q E hr h => ?_)
  · obtain ⟨l, w, s, b, D, ws, sts, bs, us, ss, bb, rfl, _⟩ := h
    rfl
  · obtain ⟨l, w, s, b, D, ws, sts, bs, us, ss, bb, rfl, A, k⟩ := h
    refine ⟨_, (pss_one (ps_ret (pe_call (G__rows_of T) (hr.mono (by decide)) (by rfl) T.g__rows_of T.k__rows_of T.B__rows_of .nil pass0 (pa_cons (pe_call (G_ask T) (hr.mono (by decide)) (by rfl) T.g_ask T.k_ask T.B1_ask (.cons (show L2.RelV (V.ref a.te_ask) (Value.ref a.te_ask) from rfl) .nil) pass0 (pa_cons (pv 0) (pa_cons (pv 1) (pa_cons (pv 2) (pa_cons (pv 3) pa_nil))))) (pa_cons (pe_call (G_most_numbers T) (hr.mono (by decide)) (by rfl) T.g_most_numbers T.k_most_numbers T.B_most_numbers .nil pass0 (pa_cons (pv 0) pa_nil)) pa_nil))))), ?_⟩
    refine ⟨_, rfl, _, rfl, _, rfl, _, rfl, l, w, s, b, a.te_ask, D, ws, us, sts, bs, ss, bb, [], rfl, A.ld, A.ok, A.hw, A.dw, A.wok, A.hs, A.ds, Nat.le_trans A.ls (by decide), A.sok.pm, A.hb, A.db, Nat.le_trans A.lb (by decide), A.bok, .inr (T.teT_ask H), (fun q hq => by cases hq), fun H2 x e2 hx => ?_⟩
    refine ⟨_, rfl, l, D, rfl, A.ld.ex e2, A.ok, fun H3 nt ns e3 _ hnt dnt => ?_⟩
    have e23 := e2.trans e3
    exact ⟨x, nt, D, ws, sts, bs, numsS 1 D, ns, rfl, hx.ex e3, A.ok, A.wok, A.sok, Nat.le_trans A.ls (by decide), hnt, dnt, numsS_ok A.ok 1, fun o H' us e ho h d => k o H' us (e23.trans e) (fresh_back e23 ho) h (by rw [fireN_S] at d; exact d)⟩
end
end EV

set_option Elab.async false
set_option linter.all false
set_option maxRecDepth 100000
set_option maxHeartbeats 8000000
namespace EV
open PySem PySem.Spec PyProof.Rows L2 EvS Evl FD EnT
open WT (lastW layer stepW stepE)
def WaysAt (K : PySem.W.Frag) (H : Hp) (acc : List V) (ws : List (List Str)) : Prop := acc.length = ws.length ∧ ∀ (i : Nat) (v : V), acc[i]? = some v → ∃ (a : Addr) (w : List Str), v = .ref a ∧ ws[i]? = some w ∧ H a = some (.lst (w.map V.str))
theorem WaysAt.ex {K : PySem.W.Frag} {H H' : Hp} {acc : List V} {ws : List (List Str)} (e : Ex H H') (h : WaysAt K H acc ws) : WaysAt K H' acc ws := ⟨h.1, fun i v hv => by
  obtain ⟨a, w, h1, h2, h3⟩ := h.2 i v hv
  exact ⟨a, w, h1, h2, e _ _ h3⟩⟩
theorem WaysAt.nil {K : PySem.W.Frag} {H : Hp} : WaysAt K H [] [] := ⟨rfl, fun i v h => by cases h⟩
theorem WaysAt.app {K : PySem.W.Frag} {H : Hp} {acc bcc : List V} {ws vs : List (List Str)} (h : WaysAt K H acc ws) (g : WaysAt K H bcc vs) : WaysAt K H (acc ++ bcc) (ws ++ vs) := by
  have hl := h.1
  refine ⟨by rw [List.length_append, List.length_append, h.1, g.1], fun i v hv => ?_⟩
  by_cases c : i < acc.length
  · rw [List.getElem?_append_left c] at hv
    obtain ⟨a, w, h1, h2, h3⟩ := h.2 i v hv
    exact ⟨a, w, h1, by rw [List.getElem?_append_left (by omega)]; exact h2, h3⟩
  · rw [List.getElem?_append_right (by omega)] at hv
    obtain ⟨a, w, h1, h2, h3⟩ := g.2 _ v hv
    exact ⟨a, w, h1, by rw [List.getElem?_append_right (by omega), ← hl]; exact h2, h3⟩
theorem WaysAt.one {K : PySem.W.Frag} {H : Hp} {a : Addr} {w : List Str} (h : H a = some (.lst (w.map V.str))) : WaysAt K H [.ref a] [w] := ⟨rfl, fun i v hv => by
  cases i with
  | zero => cases hv; exact ⟨a, w, rfl, rfl, h⟩
  | succ i => cases hv⟩
/-- a way: of what length, how come to, along which edges -/
def IsWay (n : Nat) (E : List (Str × Str)) (S B : List Str) (w : List Str) : Prop := ∃ r, w.length = r + 1 ∧ r < n ∧ (∀ j p, w[j]? = some p → WT.DR E S B j p) ∧ ∀ j p q, w[j]? = some p → w[j + 1]? = some q → (p, q) ∈ E
theorem last_val {w : List Str} {r : Nat} (h : w.length = r + 1) : atI (w.map V.str) (((w.map V.str).length : Int) - 1) = some (.str (lastW w)) := by
  have := WT.last_at h
  rw [List.length_map, h, show (((r + 1 : Nat) : Int)) - 1 = (r : Int) by omega]
  exact atI_nat (by rw [List.getElem?_map, this] <;> rfl)
def sp__law_one_way (K : PySem.W.Frag) : Sp := fun vs H Q _ => ∃ (p s g b : Addr) (D : LandD) (wi pl li pa : Addr) (rows prs : List V) (S G B : List Str), vs = [.ref p, .ref s, .ref g, .ref b] ∧ Parts2 K H p D wi pl li pa rows prs ∧ LandOk D ∧ SqL K H s (S.map V.str) ∧ SqL K H g (G.map V.str) ∧ SqL K H b (B.map V.str) ∧ (∀ z ∈ S, z ∈ D.ps) ∧ S.Nodup ∧
  (∀ H' a w, Ex H H' → SqL K H' a (w.map V.str) → IsWay D.ps.length (passes D.ls) S B w → lastW w ∈ G → Q (.ref a) H') ∧ ((∀ n z, z ∈ G → ¬ WT.DR (passes D.ls) S B n z) → ∀ H', Ex H H' → Q .non H')
section
variable {P : Program} {w : World} {K : PySem.W.Frag} {mg : Str → Option Value} {base : Heap} {a : Ad}
theorem G__law_one_way (T : Txt K mg a) : FnOk P w K mg base CX0 2 a.f__law_one_way a.d__law_one_way ["parts", "starts", "goals", "places"] (sp__law_one_way K) := by
  refine T.F__law_one_way.ok sc__law_one_way (fun vs H Q E h => ?_) (fun cdv A outer s H vs Q E hr h => ?_)
  · obtain ⟨p, s, g, b, D, wi, pl, li, pa, rows, prs, S, G, B, rfl, _⟩ := h
    rfl
  · obtain ⟨p, s, g, b, D, wi, pl, li, pa, rows, prs, S, G, B, rfl, PT, ok, hs, hg, hb, sin, snd, k1, k0⟩ := h
    have p24 := ok.p24
    have lpl : (D.ps.map V.str).length = D.ps.length := List.length_map ..
    have lsv : (S.map V.str).length = S.length := List.length_map ..
    have lS : S.length ≤ D.ps.length := DB.pigeon snd sin
    have eps : ∀ e ∈ passes D.ls, e.2 ∈ D.ps := fun e he => by
      obtain ⟨kk, hk, _, ht⟩ := passes_in (o := e.1) (t := e.2) he
      rw [← ht]
      exact (ok.lk kk hk).t
    let f0 (l : List Str) : List (List Str) := (l.filter fun s => decide (s ∉ B)).map fun s => [s]
    refine ⟨_, (pss_cons (ps_setLc (i := 4) (own := [("place", 11)]) (g := gName 11) rfl sc__law_one_way.nd rfl rfl (sw_true rfl rfl rfl (by decide +kernel)) (pi_list (pv 1)) (blkOk_by (N := ["parts", "starts", "goals", "places", "ways", "turn", "way", "longer", "one", "other", "ends", "place", "row"]) (sc := defScope s__law_one_way) (by decide +kernel)) (fun _ _ _ _ _ => pg_name (i := 11) sc__law_one_way.nd rfl (Or.inl rfl)) (fun _ _ _ _ _ => pts_one (pt_cmpR (show OpR _ _ (rIn K true) from op_notIn_seq) (pv 11) (pv 3) (by rfl))) (fun _ _ _ _ _ => (pe_lst (pa_cons (pv 11) pa_nil))))
      (pss_cons (ps_for PassesOwn.never rfl (pi_range1 (by rfl) T.z_range (pa_cons (pe_callB call_len_seq (by rfl) T.z_len PySem.boot_len (pa_cons (pe_ix ix_list (pv 0) pe_int (fun _ _ => rfl)) pa_nil)) pa_nil)) (pg_name (i := 5) sc__law_one_way.nd rfl (Or.inl rfl)) (pss_cons (ps_for PassesOwn.never rfl (pi_list (pv 4)) (pg_name (i := 6) sc__law_one_way.nd rfl (Or.inl rfl)) (pss_one (ps_if (pt_cmpR op_in_seq (pe_ix ix_list (pv 6) (pe_op op_sub (pe_callB call_len_seq (by rfl) T.z_len PySem.boot_len (pa_cons (pv 6) pa_nil)) pe_int) (fun _ _ => rfl)) (pv 2) (by rfl)) (pss_one (ps_ret (pv 6))) pss_nil)))
        (pss_cons (ps_set (i := 7) sc__law_one_way.nd rfl (Or.inl rfl) (pe_lst pa_nil))
        (pss_cons (ps_for PassesOwn.never rfl (pi_list (pv 4)) (pg_name (i := 6) sc__law_one_way.nd rfl (Or.inl rfl)) (pss_one (ps_for PassesOwn.never rfl (pi_list (pe_call (G__law_open T) (hr.mono (by decide)) (by rfl) T.g__law_open T.k__law_open T.B__law_open .nil pass0 (pa_cons (pv 0) pa_nil))) (pg_tup (by rfl) (pgs_cons (pg_name (i := 8) sc__law_one_way.nd rfl (Or.inl rfl)) (pgs_cons (pg_name (i := 9) sc__law_one_way.nd rfl (Or.inl rfl)) pgs_nil))) (pss_cons (ps_setLc (i := 10) (own := [("row", 12)]) (g := gName 12) (tt := tYes) rfl sc__law_one_way.nd rfl rfl (sw_true rfl rfl rfl (by decide +kernel)) (pi_list (pe_op op_cat (pv 4) (pv 7))) (blkOk_by (N := ["parts", "starts", "goals", "places", "ways", "turn", "way", "longer", "one", "other", "ends", "place", "row"]) (sc := defScope s__law_one_way) (by decide +kernel)) (fun _ _ _ _ _ => pg_name (i := 12) sc__law_one_way.nd rfl (Or.inl rfl)) (fun _ _ _ _ _ => pts_nil) (fun _ _ _ _ _ => (pe_ix (show IxR _ (rIxL K) from ix_list) (pv 12) (pe_op op_sub (pe_callB (show CallR _ _ (rLenK K) from call_len_seq) (by rfl) T.z_len PySem.boot_len (pa_cons (pv 12) pa_nil)) pe_int) (fun _ _ => rfl))))
            (pss_one (ps_if (PW.pt (pw_and (pt_cmpR op_eq (pv 8) (pe_ix ix_list (pv 6) (pe_op op_sub (pe_callB call_len_seq (by rfl) T.z_len PySem.boot_len (pa_cons (pv 6) pa_nil)) pe_int) (fun _ _ => rfl)) (nomark _)) (pw_and (pt_cmpR op_notIn_seq (pv 9) (pv 3) (by rfl)) (pw_and (pt_cmpR op_notIn_seq (pv 9) (pv 10) (by rfl)) (pw_and1 (pt_cmpR op_notIn_seq (pv 9) (pv 6) (by rfl))))))) (pss_one (ps_expr (pe_bm PySem.F.plainAttrs_list PySem.F.slot_list_append PySem.F.type_list_append mt_append (pv 7) (pa_cons (pe_op op_cat (pv 6) (pe_lst (pa_cons (pv 9) pa_nil))) pa_nil)))) pss_nil))))))
        (pss_one (ps_set (i := 4) sc__law_one_way.nd rfl (Or.inl rfl) (pv 7)))))))
      (pss_one (ps_ret pe_non)))), ?_⟩
    refine ⟨_, rfl, s, rfl, ⟨_, hs⟩, fun W0 hW0 => lc_list (K := K) (a := s) (xs := S.map V.str) (fun i H' => Ex H H' ∧ ∃ acc, H' W0 = some (.lst acc) ∧ WaysAt K (del H' W0) acc (f0 (S.take i)) ∧ acc.length ≤ i) ⟨Ex.new hW0, [], upd_same, WaysAt.nil, Nat.le_refl _⟩ (fun i H' _ z => ex_l z.1 hs) (fun i y H' hy z => ?_) (fun H1 z => ?_)⟩
    · obtain ⟨e, acc, ha, wa, la⟩ := z
      have hi := (List.getElem?_eq_some_iff.mp hy).1
      rw [lsv] at hi
      rw [List.getElem?_map] at hy
      obtain ⟨z, hz, rfl⟩ := Option.map_eq_some_iff.mp hy
      have nx : f0 (S.take (i + 1)) = f0 (S.take i) ++ if z ∉ B then [[z]] else [] := by
        show List.map _ (List.filter _ _) = _
        rw [take_one hz, List.filter_append, List.map_append, List.filter_cons]
        by_cases c : z ∉ B
        · rw [if_pos (decide_eq_true c), if_pos c]; rfl
        · rw [if_neg (by rw [decide_eq_true_iff]; exact c), if_neg c]; rfl
      refine ⟨rfl, _, rfl, _, rfl, b, _, rfl, .inl (ex_l e hb), rfl, flat_strs _, _, rfl, ite2 (fun c => ?_) (fun c => ?_)⟩
      · have c : z ∉ B := fun q => by
          have c : (!inV (V.str z) (B.map V.str)) = true := c
          rw [inV_str_dec, decide_eq_true q] at c
          cases c
        rw [if_pos c] at nx
        refine ⟨_, rfl, by show 1 ≤ sizeLine; decide, fun l hl => ?_⟩
        have eN := Ex.new (o := .lst [.str z]) hl
        have lD : l ≠ W0 := fun q => by rw [q, ha] at hl; cases hl
        refine ⟨acc, eN _ _ ha, sz_lt (by omega), (e.trans eN).mut hW0, acc ++ [.ref l], upd_same, ?_, by rw [List.length_append, List.length_singleton]; omega⟩
        rw [del_upd, nx]
        exact (wa.ex (ex_del eN)).app (WaysAt.one (w := [z]) (del_at lD upd_same))
      · have c : ¬ z ∉ B := fun q => c (by
          show (!inV (V.str z) (B.map V.str)) = true
          rw [inV_str_dec, decide_eq_false q]
          rfl)
        rw [if_neg c, List.append_nil] at nx
        exact ⟨e, acc, ha, by rw [nx]; exact wa, by omega⟩
    obtain ⟨e1, acc0, ha0, wa0, la0⟩ := z
    rw [lsv, List.take_length] at wa0
    have wa0 := wa0.ex del_ex
    have i0 : WT.Inv (passes D.ls) S B 0 (f0 S) := WT.Inv.zero
    have n0 : WT.Ends D.ps (f0 S) := by
      have e : (f0 S).map lastW = S.filter fun s => decide (s ∉ B) := by
        show (List.map _ (S.filter _)).map lastW = _
        rw [List.map_map]
        exact List.map_id _
      refine ⟨by rw [e]; exact snd.sublist List.filter_sublist, fun v hv => ?_⟩
      obtain ⟨z, hz, rfl⟩ := List.mem_map.mp hv
      exact sin z (List.mem_filter.mp hz).1
    have P1 := PT.ex e1
    refine ⟨_, rfl, p, _, _, _, rfl, rfl, P1.ob, atI_nat (j := 1) rfl, pl, _, rfl, .inr P1.pl, _, rfl, by omega, by omega, for_range (n := (((D.ps.map V.str).length : Nat) : Int).toNat) (fun i σ H' => ∃ (W : Addr) (v5 v6 v7 v8 v9 v10 : Option V) (acc : List V) (ws : List (List Str)), σ = [some (.ref p), some (.ref s), some (.ref g), some (.ref b), some (.ref W), v5, v6, v7, v8, v9, v10, none, none] ∧ Ex H H' ∧ H' W = some (.lst acc) ∧ WaysAt K H' acc ws ∧ WT.Inv (passes D.ls) S B i ws ∧ WT.Ends D.ps ws ∧ ∀ n, n < i → ∀ z ∈ G, ¬ WT.Min (passes D.ls) S B n z) ⟨W0, none, none, none, none, none, none, acc0, f0 S, rfl, e1, ha0, wa0, i0, n0, fun n h => absurd h (Nat.not_lt_zero n)⟩ (fun i σ H' hi z => ?_) (fun σ H' z => ?_)⟩
    · obtain ⟨W, v5, v6, v7, v8, v9, v10, acc, ws, rfl, e, hW, wa, iv, en, no⟩ := z
      have lws := wa.1
      have l24 := en.le
      -- is a goal come to
      refine ⟨_, rfl, W, rfl, ⟨_, SqL.of hW⟩, for_list (K := K) (a := W) (xs := acc) (fun j σ H2 => ∃ v6, σ = [some (.ref p), some (.ref s), some (.ref g), some (.ref b), some (.ref W), some (.int (0 + (i : Int))), v6, v7, v8, v9, v10, none, none] ∧ H2 = H' ∧ ∀ k, k < j → ∀ w, ws[k]? = some w → lastW w ∉ G) ⟨_, rfl, rfl, fun k h => absurd h (Nat.not_lt_zero k)⟩ (fun j σ H2 _ z => by obtain ⟨_, _, q, _⟩ := z; rw [q]; exact SqL.of hW) (fun j y σ H2 hy z => ?_) (fun σ H2 z => ?_)⟩
      · obtain ⟨v6, rfl, q, nog⟩ := z
        rw [q]
        clear q H2
        obtain ⟨a0, w0, rfl, hw0, sq⟩ := wa.2 j y hy
        have hwm := List.mem_of_getElem? hw0
        obtain ⟨l0, d0, c0⟩ := iv.way w0 hwm
        refine ⟨_, rfl, _, rfl, a0, _, rfl, .inl (SqL.of sq), _, _, rfl, rfl, a0, _, _, _, rfl, rfl, SqL.of sq, last_val l0, _, rfl, g, _, rfl, .inl (ex_l e hg), rfl, flat_strs _, _, rfl, ite2 (fun c => ?_) (fun c => ?_)⟩
        · have c : lastW w0 ∈ G := by
            have c : inV (V.str (lastW w0)) (G.map V.str) = true := c
            rw [inV_str_dec] at c
            exact of_decide_eq_true c
          exact ⟨_, rfl, k1 H' a0 w0 e (SqL.of sq) ⟨i, l0, by omega, d0, c0⟩ c⟩
        · have c : lastW w0 ∉ G := fun q => c (by
            show inV (V.str (lastW w0)) (G.map V.str) = true
            rw [inV_str_dec]
            exact decide_eq_true q)
          refine ⟨_, rfl, rfl, fun k hk w hw => ?_⟩
          by_cases q : k < j
          · exact nog k q w hw
          · obtain rfl : k = j := by omega
            rw [hw0] at hw
            cases hw
            exact c
      obtain ⟨v6, rfl, q, nog⟩ := z
      rw [q]
      clear q H2
      have noi : ∀ z ∈ G, ¬ WT.Min (passes D.ls) S B i z := fun z hz m => by
        obtain ⟨w, hw, hl⟩ := iv.all z m
        obtain ⟨k, hk⟩ := List.mem_iff_getElem?.mp hw
        have := (List.getElem?_eq_some_iff.mp hk).1
        exact nog k (by omega) w hk (by rw [hl]; exact hz)
      -- longer
      refine ⟨by show 0 ≤ sizeLine; decide, fun LG hLG => ?_⟩
      have nL := Ex.new (o := .lst []) hLG
      have mL : (upd H' LG (.lst [])) LG = some (.lst []) := upd_same
      generalize upd H' LG (.lst []) = H3 at nL mL
      have WL : W ≠ LG := ne_of_none hW hLG
      refine ⟨_, rfl, W, rfl, ⟨_, SqL.of (nL _ _ hW)⟩, for_list (K := K) (a := W) (xs := acc) (fun j σ H2 => ∃ v6 v8 v9 v10, σ = [some (.ref p), some (.ref s), some (.ref g), some (.ref b), some (.ref W), some (.int (0 + (i : Int))), v6, some (.ref LG), v8, v9, v10, none, none] ∧ Ex H' H2 ∧ ∃ ac2, H2 LG = some (.lst ac2) ∧ WaysAt K (del H2 LG) ac2 ((ws.take j).foldl (stepW (passes D.ls) B ws) [])) ⟨_, _, _, _, rfl, nL, [], mL, WaysAt.nil⟩ (fun j σ H2 _ z => by obtain ⟨_, _, _, _, _, e2, _⟩ := z; exact SqL.of (e2 _ _ hW)) (fun j y σ H2 hy z => ?_) (fun σ H2 z => ?_)⟩
      · obtain ⟨u6, u8, u9, u10, rfl, e2, ac2, ha2, wa2⟩ := z
        obtain ⟨a0, w0, rfl, hw0, sq⟩ := wa.2 j y hy
        have hwm := List.mem_of_getElem? hw0
        obtain ⟨l0, d0, c0⟩ := iv.way w0 hwm
        have gd := WT.layer_good iv (ws.take j) [] (fun x hx => List.mem_of_mem_take hx) fun w hw => absurd hw List.not_mem_nil
        have ed := WT.layer_ends (B := B) (ws := ws) eps (ws.take j) [] ⟨List.nodup_nil, fun v hv => absurd hv List.not_mem_nil⟩
        have nx : (ws.take (j + 1)).foldl (stepW (passes D.ls) B ws) [] = stepW (passes D.ls) B ws ((ws.take j).foldl (stepW (passes D.ls) B ws) []) w0 := by
          rw [take_one hw0, List.foldl_append]
          rfl
        rw [nx]
        generalize (ws.take j).foldl (stepW (passes D.ls) B ws) [] = A at wa2 gd ed
        have P2 := (PT.ex e).ex e2
        refine ⟨_, rfl, p, D, wi, pl, li, pa, rows, prs, rfl, P2, ok, fun H4 q rs e4 q0 hq dq => ?_⟩
        have hL4 := e4 _ _ ha2
        have toH : ∀ {H5 : Hp}, Ex (del H4 LG) H5 → Ex H' H5 := fun {H5} e5 a o h => e5 a o (del_at (ne_of_none h hLG) ((e2.trans e4) a o h))
        have qL : q ≠ LG := fun z => by rw [z, ha2] at q0; cases q0
        have hq' : (del H4 LG) q = some (.lst rs) := del_at qL hq
        have dq' : DpAll K (del H4 LG) rs ((passes D.ls).map fun e => dPair e.1 e.2) := dps_exT (exT_delT hL4 ⟨(fun xs z => by cases z), (fun q xs z => by cases z)⟩) dq (frozen_pairs _)
        have lrs := dps_len dq'
        rw [List.length_map] at lrs
        refine ⟨q, rfl, ⟨_, SqL.of hq⟩, for_list (K := K) (a := q) (xs := rs) (fun m σ H5 => ∃ v8 v9 v10, σ = [some (.ref p), some (.ref s), some (.ref g), some (.ref b), some (.ref W), some (.int (0 + (i : Int))), some (.ref a0), some (.ref LG), v8, v9, v10, none, none] ∧ Ex (del H4 LG) H5 ∧ ∃ ac3, H5 LG = some (.lst ac3) ∧ WaysAt K (del H5 LG) ac3 (((passes D.ls).take m).foldl (stepE B ws w0) A)) ⟨_, _, _, rfl, del_ex, ac2, hL4, wa2.ex (ex_del e4)⟩ (fun m σ H5 _ z => by obtain ⟨_, _, _, _, e5, _⟩ := z; exact SqL.of (e5 _ _ hq')) (fun m y σ H5 hy z => ?_) (fun σ H5 z => ?_)⟩
        · obtain ⟨v8, v9, v10, rfl, e5, ac3, ha3, wa3⟩ := z
          obtain ⟨ed0, hed, hme, dp⟩ := pick (f := fun e : Str × Str => dPair e.1 e.2) (dps_ex e5 dq') hy
          obtain ⟨t, rfl, st⟩ := pair_in dp
          have nx3 : ((passes D.ls).take (m + 1)).foldl (stepE B ws w0) A = stepE B ws w0 (((passes D.ls).take m).foldl (stepE B ws w0) A) ed0 := by
            rw [take_one hed, List.foldl_append]
            rfl
          have gd3 := WT.stepW_good iv hwm ((passes D.ls).take m) A (fun x hx => List.mem_of_mem_take hx) gd
          have ed3 := WT.stepW_ends (B := B) (ws := ws) (w := w0) ((passes D.ls).take m) A (fun x hx => eps x (List.mem_of_mem_take hx)) ed
          rw [nx3]
          generalize ((passes D.ls).take m).foldl (stepE B ws w0) A = A3 at wa3 gd3 ed3
          have la3 := wa3.1
          have l324 := ed3.le
          have e05 := toH e5
          have hW5 := e05 _ _ hW
          refine ⟨t, _, rfl, st, rfl, _, _, rfl, _, _, rfl, rfl, ?_⟩
          refine ⟨_, rfl, _, rfl, W, LG, _, _, rfl, rfl, hW5, ha3, sz_of (by omega), fun p0 hp0 => ?_⟩
          have f1 := Ex.new (o := .lst (acc ++ ac3)) hp0
          have m1 : (upd H5 p0 (.lst (acc ++ ac3))) p0 = some (.lst (acc ++ ac3)) := upd_same
          generalize upd H5 p0 (.lst (acc ++ ac3)) = H6 at f1 m1
          have wall : WaysAt K H6 (acc ++ ac3) (ws ++ A3) := (wa.ex (e05.trans f1)).app (wa3.ex (Ex.trans del_ex f1))
          refine ⟨p0, rfl, ⟨_, SqL.of m1⟩, fun D1 hD1 => lc_list (K := K) (a := p0) (xs := acc ++ ac3) (fun k H7 => Ex H6 H7 ∧ H7 D1 = some (.lst ((((ws ++ A3).take k).map lastW).map V.str))) ⟨Ex.new hD1, upd_same⟩ (fun k H7 _ z => SqL.of (z.1 _ _ m1)) (fun k y H7 hy z => ?_) (fun H7 z => ?_)⟩
          · obtain ⟨e7, hm7⟩ := z
            have hk := (List.getElem?_eq_some_iff.mp hy).1
            rw [List.length_append] at hk
            obtain ⟨ar, wr, rfl, hwr, sqr⟩ := wall.2 k y hy
            obtain ⟨r', lr⟩ : ∃ r', wr.length = r' + 1 := by
              rcases List.mem_append.mp (List.mem_of_getElem? hwr) with h | h
              · exact ⟨_, (iv.way wr h).1⟩
              · exact ⟨_, (gd3 wr h).1⟩
            have sq7 := e7 _ _ sqr
            refine ⟨rfl, _, rfl, _, rfl, ar, _, rfl, .inl (SqL.of sq7), _, _, rfl, rfl, ar, _, _, _, rfl, rfl, SqL.of sq7, last_val lr, _, hm7, sz_lt (by rw [List.length_map, List.length_map, List.length_take]; omega), e7.mut hD1, ?_⟩
            rw [upd_same, take_one hwr, List.map_append, List.map_append]
            rfl
          obtain ⟨e7, hm7⟩ := z
          rw [wall.1, List.take_length] at hm7
          have f57 := f1.trans e7
          have e07 := e05.trans f57
          have sq7 := e07 _ _ sq
          have hL7 := f57 _ _ ha3
          have hb7 := ex_l (e.trans e07) hb
          have keep : stepE B ws w0 A3 ed0 = A3 → ∃ v8 v9 v10, [some (V.ref p), some (.ref s), some (.ref g), some (.ref b), some (.ref W), some (.int (0 + (i : Int))), some (.ref a0), some (.ref LG), some (.str ed0.1), some (.str ed0.2), some (.ref D1), none, none] = [some (.ref p), some (.ref s), some (.ref g), some (.ref b), some (.ref W), some (.int (0 + (i : Int))), some (.ref a0), some (.ref LG), v8, v9, v10, none, none] ∧ Ex (del H4 LG) H7 ∧ ∃ ac3, H7 LG = some (.lst ac3) ∧ WaysAt K (del H7 LG) ac3 (stepE B ws w0 A3 ed0) := fun h => ⟨_, _, _, rfl, e5.trans f57, ac3, hL7, by rw [h]; exact wa3.ex (ex_del f57)⟩
          have notin : ∀ {z : Str} {zs : List Str}, (!inV (V.str z) (zs.map V.str)) = true ↔ z ∉ zs := fun {z zs} => by
            rw [inV_str_dec]
            by_cases c : z ∈ zs <;> simp [c]
          refine ⟨_, rfl, _, rfl, _, rfl, a0, _, rfl, .inl (SqL.of sq7), _, _, rfl, rfl, a0, _, _, _, rfl, rfl, SqL.of sq7, last_val l0, rfl, _, rfl, ite2 (fun c1 => ?_) (fun c1 => keep (if_neg fun h => c1 (decide_eq_true (by rw [h.1])))) ⟩
          have c1 : ed0.1 = lastW w0 := V.str.inj (of_decide_eq_true c1)
          refine ⟨_, rfl, _, rfl, b, _, rfl, .inl hb7, rfl, flat_strs _, _, rfl, ite2 (fun c2 => ?_) (fun c2 => keep (if_neg fun h => c2 (notin.mpr h.2.1)))⟩
          refine ⟨_, rfl, _, rfl, D1, _, rfl, .inl (SqL.of hm7), rfl, flat_strs _, _, rfl, ite2 (fun c3 => ?_) (fun c3 => keep (if_neg fun h => c3 (notin.mpr h.2.2.1)))⟩
          refine ⟨_, rfl, _, rfl, a0, _, rfl, .inl (SqL.of sq7), rfl, flat_strs _, _, rfl, ite2 (fun c4 => ?_) (fun c4 => keep (if_neg fun h => c4 (notin.mpr h.2.2.2)))⟩
          have st3 : stepE B ws w0 A3 ed0 = A3 ++ [w0 ++ [ed0.2]] := if_pos ⟨c1, notin.mp c2, notin.mp c3, notin.mp c4⟩
          refine ⟨_, rfl, .inl ⟨rfl, _, SqL.of hL7⟩, _, rfl, _, rfl, by show 1 ≤ sizeLine; decide, fun l1 hl1 => ?_⟩
          have g1 := Ex.new (o := .lst [.str ed0.2]) hl1
          have ml1 : (upd H7 l1 (.lst [.str ed0.2])) l1 = some (.lst [.str ed0.2]) := upd_same
          generalize upd H7 l1 (.lst [.str ed0.2]) = H8 at g1 ml1
          refine ⟨a0, l1, _, _, rfl, rfl, g1 _ _ sq7, ml1, sz_of (by rw [List.length_map, List.length_singleton, l0]; omega), fun l2 hl2 => ?_⟩
          have g2 := Ex.new (o := .lst (w0.map V.str ++ [.str ed0.2])) hl2
          have ml2 : (upd H8 l2 (.lst (w0.map V.str ++ [.str ed0.2]))) l2 = some (.lst ((w0 ++ [ed0.2]).map V.str)) := by rw [upd_same, List.map_append] <;> rfl
          generalize upd H8 l2 (.lst (w0.map V.str ++ [.str ed0.2])) = H9 at g2 ml2
          have g12 := g1.trans g2
          have l2L : l2 ≠ LG := fun z => by rw [z, g1 _ _ hL7] at hl2; cases hl2
          have nLd : (del H4 LG) LG = none := by unfold del; rw [if_pos rfl]
          refine ⟨LG, ac3, _, rfl, rfl, g12 _ _ hL7, sz_lt (by omega), _, _, _, rfl, (e5.trans (f57.trans g12)).mut nLd, ac3 ++ [.ref l2], upd_same, ?_⟩
          rw [del_upd, st3]
          exact (wa3.ex (ex_del (f57.trans g12))).app (WaysAt.one (del_at l2L ml2))
        · obtain ⟨v8, v9, v10, rfl, e5, ac3, ha3, wa3⟩ := z
          rw [lrs, List.take_length] at wa3
          exact ⟨_, _, _, _, rfl, toH e5, ac3, ha3, wa3⟩
      · obtain ⟨u6, u8, u9, u10, rfl, e2, ac2, ha2, wa2⟩ := z
        rw [lws, List.take_length] at wa2
        refine ⟨_, rfl, LG, _, _, _, _, _, _, ac2, layer (passes D.ls) B ws, rfl, e.trans e2, ha2, wa2.ex del_ex, iv.next, WT.layer_ends eps ws [] ⟨List.nodup_nil, fun v hv => absurd hv List.not_mem_nil⟩, fun n hn z hz m => ?_⟩
        by_cases c : n < i
        · exact no n c z hz m
        · obtain rfl : n = i := by omega
          exact noi z hz m
    · obtain ⟨W, v5, v6, v7, v8, v9, v10, acc, ws, rfl, e, hW, wa, iv, en, no⟩ := z
      refine k0 (fun n z hz d => ?_) H' e
      obtain ⟨m, _, mm⟩ := WT.reach_min n d
      have lt := WT.min_lt sin (fun o t h => eps _ h) mm
      exact no m (by omega) z hz mm
end
end EV

set_option Elab.async false
set_option linter.all false
set_option maxRecDepth 100000
set_option maxHeartbeats 8000000
namespace EV
open PySem PySem.Spec PyProof.Rows L2 EvS Evl FD EnT
open WT (lastW)
/-! ### the weather of a way -/
inductive Made (D : LandD) (way : List Str) : Nat → List (Int × Str) → Int → Prop
  | zero : Made D way 0 [] 0
  | succ {i j : Nat} {rows : List (Int × Str)} {m : Int} {k : Link} {b : Int × Int} {z : Str} : Made D way i rows m → way[i]? = some k.o → way[i + 1]? = some k.t → k ∈ D.ls → k.ts[j]? = some (some b) → D.ws[j]? = some z → Made D way (i + 1) (rows ++ [(m, z)]) (m + b.2)
structure MadeP (D : LandD) (i : Nat) (rows : List (Int × Str)) (m : Int) : Prop where
  len : rows.length = i
  nn : 0 ≤ m
  top : m ≤ 1000 * (i : Int)
  row : ∀ r ∈ rows, r.2 ∈ D.ws ∧ 0 ≤ r.1 ∧ r.1 < m
  asc : rows.Pairwise fun a b => a.1 < b.1
  h0 : ∀ r ∈ rows.head?, r.1 = 0
  z0 : rows = [] → m = 0
theorem Made.props {D : LandD} (ok : LandOk D) {way : List Str} {i : Nat} {rows : List (Int × Str)} {m : Int} (h : Made D way i rows m) : MadeP D i rows m := by
  induction h with
  | zero => exact ⟨rfl, Int.le_refl _, Int.le_refl _, (fun r hr => absurd hr List.not_mem_nil), List.Pairwise.nil, (fun r hr => by cases hr), fun _ => rfl⟩
  | @succ i j rows m k b z _ _ _ hk hb hz ih =>
    obtain ⟨t1, t2, t3⟩ := (ok.lk k hk).ok _ (List.mem_of_getElem? hb)
    have nn := ih.nn
    have top := ih.top
    refine ⟨by rw [List.length_append, ih.len] <;> rfl, by omega, by push_cast; omega, fun r hr => ?_, ?_, fun r hr => ?_, fun e => by simp at e⟩
    · rcases List.mem_append.mp hr with h | h
      · obtain ⟨a1, a2, a3⟩ := ih.row r h
        exact ⟨a1, a2, by omega⟩
      · rw [List.mem_singleton.mp h]
        exact ⟨List.mem_of_getElem? hz, nn, by show m < m + b.2; omega⟩
    · rw [List.pairwise_append]
      refine ⟨ih.asc, List.pairwise_singleton _ _, fun x hx y hy => ?_⟩
      rw [List.mem_singleton.mp hy]
      exact (ih.row x hx).2.2
    · cases rows with
      | nil => cases hr; exact ih.z0 rfl
      | cons q rest => exact ih.h0 r hr
theorem Made.wok {D : LandD} (ok : LandOk D) {way : List Str} {i : Nat} {rows : List (Int × Str)} {m : Int} (h : Made D way i rows m) (i1 : 1 ≤ i) (i40 : i ≤ 40) : WOk D rows := by
  have p := h.props ok
  have l := p.len
  exact ⟨by omega, by omega, fun r hr => (p.row r hr).1, p.h0, p.asc, fun r hr => ⟨(p.row r hr).2.1, by have := (p.row r hr).2.2; have := p.top; omega⟩⟩
theorem wok_first {D : LandD} {z : Str} (h : z ∈ D.ws) : WOk D [(0, z)] := ⟨by show 1 ≤ 1; decide, by show 1 ≤ 40; decide, (fun r hr => by rw [List.mem_singleton.mp hr]; exact h), (fun r hr => by cases hr; rfl), List.pairwise_singleton _ _, fun r hr => by rw [List.mem_singleton.mp hr]; exact ⟨Int.le_refl 0, by show (0 : Int) ≤ 100000; decide⟩⟩
theorem idx_of {zs : List Str} (nd : zs.Nodup) {j : Nat} {z : Str} (h : zs[j]? = some z) : zs.idxOf z = j := by
  obtain ⟨hj, e⟩ := List.getElem?_eq_some_iff.mp h
  rw [← e]
  exact List.Nodup.idxOf_getElem nd j hj
/-- each place of the way burns by its minute, whatever the numbers -/
theorem made_reach {D : LandD} (ok : LandOk D) {ws : List (Int × Str)} (wok : WOk D ws) {sts bs : List (Str × Int)} {s : Nat} {way : List Str} {p0 : Str} (h0 : way[0]? = some p0) (hst : (p0, 0) ∈ sts) (no : ∀ (j : Nat) (p : Str), way[j]? = some p → FP.minOf bs p = none) {i : Nat} {rows : List (Int × Str)} {m : Int} (h : Made D way i rows m) : ∀ rest, ws = rows ++ rest → ∀ p, way[i]? = some p → ∃ t, t ≤ m ∧ FP.Reach (fireOf D ws sts bs s) p t := by
  induction h with
  | zero =>
    intro rest _ p hp
    rw [h0] at hp
    cases hp
    exact ⟨0, Int.le_refl _, FP.Reach.start hst (by show FP.ahead (FP.minOf bs p0) 0 = true; rw [no 0 _ h0]; rfl)⟩
  | @succ i j rows m k b z hm ho ht hk hb hz ih =>
    intro rest e p hp
    rw [ht] at hp
    cases hp
    obtain ⟨t, le, r⟩ := ih ((m, z) :: rest) (by rw [e, List.append_assoc]; rfl) _ ho
    obtain ⟨b1, b2, b3⟩ := (ok.lk k hk).ok _ (List.mem_of_getElem? hb)
    have asc : FP.Asc (wt D ws) := wt_asc wok
    have ew : wt D ws = wt D rows ++ (m, j) :: wt D rest := by
      rw [e]
      unfold wt
      rw [List.append_assoc, List.map_append]
      show _ ++ ((m, D.ws.idxOf z) :: _) = _
      rw [idx_of ok.gw.2 hz]
      rfl
    have hw : FP.windAt (wt D ws) m = j := by
      rw [ew] at asc ⊢
      exact FP.wind_at asc
    obtain ⟨x, hx, lx⟩ : ∃ x, FP.num (k.ts.map (sideN s)) j = some x ∧ x ≤ b.2 := by
      refine ⟨if s = 0 then b.1 else b.2, ?_, by split <;> omega⟩
      unfold FP.num
      rw [List.getD_eq_getElem?_getD, List.getElem?_map, hb]
      rfl
    obtain ⟨t1, e1, l1⟩ := FP.thr_le (ws := wt D ws) (row := k.ts.map (sideN s)) (m := m) (s := m) (x := m + x) List.mem_cons_self (by unfold FP.cand; rw [hw, hx]; rfl)
    obtain ⟨t2, e2, l2⟩ := FP.thr_mono le e1
    exact ⟨t2, by omega, FP.Reach.step (l := lkS s k) r (List.mem_map.mpr ⟨k, hk, rfl⟩) e2 (by show FP.ahead (FP.minOf bs k.t) t2 = true; rw [no _ _ ht]; rfl)⟩
theorem dr_rch {E : List (Str × Str)} {S B : List Str} {n : Nat} {p : Str} (h : WT.DR E S B n p) : Rch E S B p ∧ p ∉ B := by
  induction h with
  | zero a b => exact ⟨.start a b, b⟩
  | succ _ e nb ih => exact ⟨.step ih.1 e nb, nb⟩
theorem rch_dr {E : List (Str × Str)} {S B : List Str} {p : Str} (h : Rch E S B p) : ∃ n, WT.DR E S B n p := by
  induction h with
  | start a b => exact ⟨0, .zero a b⟩
  | step _ e nb ih =>
    obtain ⟨n, d⟩ := ih
    exact ⟨n + 1, .succ d e nb⟩
theorem minOf_off {p : Str} : ∀ (B : List Str), p ∉ B → FP.minOf (B.map fun z => (z, (0 : Int))) p = none := fun B h => by
  unfold FP.minOf
  suffices ∀ (l : List Str), p ∉ l → (l.map fun z => (z, (0 : Int))).foldl (fun c r => if r.1 = p then FP.least c (some r.2) else c) none = none from this B h
  intro l
  induction l with
  | nil => exact fun _ => rfl
  | cons x l ih =>
    intro h
    rw [List.map_cons, List.foldl_cons, if_neg (show ¬ x = p from fun q => h (by rw [q]; exact List.mem_cons_self))]
    exact ih fun q => h (List.mem_cons_of_mem _ q)
theorem minOf_on {p : Str} {B : List Str} (h : p ∈ B) : FP.minOf (B.map fun z => (z, (0 : Int))) p = some 0 := by
  have keep : ∀ (l : List Str), (l.map fun z => (z, (0 : Int))).foldl (fun c r => if r.1 = p then FP.least c (some r.2) else c) (some 0) = some 0 := fun l => by
    induction l with
    | nil => rfl
    | cons x l ih =>
      rw [List.map_cons, List.foldl_cons]
      have e : (if ((x, (0 : Int)) : Str × Int).1 = p then FP.least (some 0) (some ((x, (0 : Int)) : Str × Int).2) else some (0 : Int)) = some 0 := by split <;> rfl
      rw [e]
      exact ih
  have go : ∀ (l : List Str), p ∈ l → (l.map fun z => (z, (0 : Int))).foldl (fun c r => if r.1 = p then FP.least c (some r.2) else c) none = some 0 := fun l => by
    induction l with
    | nil => exact fun h => absurd h List.not_mem_nil
    | cons x l ih =>
      intro h
      rw [List.map_cons, List.foldl_cons]
      by_cases q : x = p
      · rw [if_pos (show ((x, (0 : Int)) : Str × Int).1 = p from q)]
        exact keep l
      · rw [if_neg (show ¬ ((x, (0 : Int)) : Str × Int).1 = p from q)]
        rcases List.mem_cons.mp h with e | e
        · exact absurd e.symm q
        · exact ih e
  exact go B h
theorem open_pass {ls : List Link} {k : Link} (hk : k ∈ ls) {j : Nat} {b : Int × Int} (hb : k.ts[j]? = some (some b)) : (k.o, k.t) ∈ passes ls := by
  unfold passes
  refine List.mem_map.mpr ⟨k, List.mem_filter.mpr ⟨hk, ?_⟩, rfl⟩
  unfold openL
  rw [List.any_eq_true]
  exact ⟨_, List.mem_of_getElem? hb, rfl⟩
theorem pass_open {ls : List Link} {o t : Str} (h : (o, t) ∈ passes ls) : ∃ k ∈ ls, k.o = o ∧ k.t = t ∧ ∃ (j : Nat) (b : Int × Int), k.ts[j]? = some (some b) := by
  unfold passes at h
  obtain ⟨k, hk, e⟩ := List.mem_map.mp h
  obtain ⟨h1, h2⟩ := List.mem_filter.mp hk
  unfold openL at h2
  rw [List.any_eq_true] at h2
  obtain ⟨x, hx, ex⟩ := h2
  obtain ⟨j, hj⟩ := List.mem_iff_getElem?.mp hx
  cases x with
  | none => cases ex
  | some b => exact ⟨k, h1, congrArg Prod.fst e, congrArg Prod.snd e, j, b, hj⟩
/-- what a fire comes to is come to by links that pass in some wind, off the places that are broken from minute 0 on -/
theorem reach_rch {D : LandD} (ok : LandOk D) {ws : List (Int × Str)} {sts : List (Str × Int)} (sok : StOk D sts) {S B : List Str} (hs : ∀ r ∈ sts, r.1 ∈ S) {s : Nat} {p : Str} {t : Int} (h : FP.Reach (fireOf D ws sts (B.map fun z => (z, 0)) s) p t) : Rch (passes D.ls) S B p := by
  have off : ∀ {z : Str} {u : Int}, 0 ≤ u → FP.ahead (FP.minOf (B.map fun z => (z, (0 : Int))) z) u = true → z ∉ B := fun {z u} u0 a hz => by
    rw [minOf_on hz] at a
    have := of_decide_eq_true a
    omega
  have okF := fire_ok ok (ws := ws) (bs := B.map fun z => (z, 0)) sok s
  induction h with
  | start h a => exact .start (hs _ h) (off (sok _ h).2 a)
  | @step l t t' r hl ht a ih =>
    obtain ⟨k, hk, rfl⟩ := List.mem_map.mp hl
    have nn := (r.nn okF).1
    have gt := FP.thr_gt (okF.rows _ hl) ht
    obtain ⟨u, _, e⟩ := FP.thr_mem ht
    unfold FP.cand at e
    obtain ⟨n, hn, _⟩ := Option.map_eq_some_iff.mp e
    have hm := FP.num_in hn
    obtain ⟨bb, hb, eb⟩ := List.mem_map.mp hm
    cases bb with
    | none => cases eb
    | some b =>
      obtain ⟨j, hj⟩ := List.mem_iff_getElem?.mp hb
      exact .step ih (open_pass hk hj) (off (by omega) a)
end EV

set_option Elab.async false
set_option linter.all false
set_option maxRecDepth 100000
set_option maxHeartbeats 8000000
namespace EV
open PySem PySem.Spec PyProof.Rows L2 EvS Evl FD EnT
open WT (lastW)
def sp__law_weather_for (K : PySem.W.Frag) : Sp := fun vs H Q _ => ∃ (p wv : Addr) (D : LandD) (wi pl li pa : Addr) (rows prs : List V) (way S B : List Str) (r : Nat), vs = [.ref p, .ref wv] ∧ Parts2 K H p D wi pl li pa rows prs ∧ LandOk D ∧ SqL K H wv (way.map V.str) ∧ way.length = r + 1 ∧ r < D.ps.length ∧ (∀ j p q, way[j]? = some p → way[j + 1]? = some q → (p, q) ∈ passes D.ls) ∧
  ∀ H' l us ws m rs rest, Ex H H' → H l = none → H' l = some (.lst us) → DpAll K H' us (ws.map dWr) → WOk D ws → Made D way r rs m → ws = rs ++ rest → Q (.ref l) H'
def Hit (o t : Str) (k : Link) (n : Nat) : Prop := k.o = o ∧ k.t = t ∧ ∃ b : Int × Int, k.ts[n]? = some (some b)
/-- what is chosen so far -/
def Cho (K : PySem.W.Frag) (D : LandD) (o t : Str) (H : Hp) (c : V) (seen : Link → Nat → Prop) : Prop := (c = .non ∧ ∀ k n, seen k n → ¬ Hit o t k n) ∨ ∃ (a : Addr) (k : Link) (j : Nat) (b : Int × Int) (z : Str), c = .ref a ∧ H a = some (.tup [.str z, .int b.2]) ∧ k ∈ D.ls ∧ k.o = o ∧ k.t = t ∧ k.ts[j]? = some (some b) ∧ D.ws[j]? = some z
theorem Cho.ex {K : PySem.W.Frag} {D : LandD} {o t : Str} {H H' : Hp} {c : V} {seen : Link → Nat → Prop} (e : Ex H H') (h : Cho K D o t H c seen) : Cho K D o t H' c seen := by
  rcases h with h | ⟨a, k, j, b, z, h1, h2, h3⟩
  · exact .inl h
  · exact .inr ⟨a, k, j, b, z, h1, e _ _ h2, h3⟩
theorem Cho.more {K : PySem.W.Frag} {D : LandD} {o t : Str} {H : Hp} {c : V} {seen seen' : Link → Nat → Prop} (h : Cho K D o t H c seen) (f : c = .non → ∀ k n, seen' k n → seen k n ∨ ¬ Hit o t k n) : Cho K D o t H c seen' := by
  rcases h with ⟨h1, h2⟩ | h
  · exact .inl ⟨h1, fun k n s => (f h1 k n s).elim (h2 k n) id⟩
  · exact .inr h
section
variable {P : Program} {w : World} {K : PySem.W.Frag} {mg : Str → Option Value} {base : Heap} {a : Ad}
theorem G__law_weather_for (T : Txt K mg a) : FnOk P w K mg base CX0 1 a.f__law_weather_for a.d__law_weather_for ["parts", "way"] (sp__law_weather_for K) := by
  refine T.F__law_weather_for.ok sc__law_weather_for (fun vs H Q E h => ?_) (fun cdv A outer s H vs Q E hr h => ?_)
  · obtain ⟨p, wv, D, wi, pl, li, pa, rows, prs, way, S, B, r, rfl, _⟩ := h
    rfl
  · obtain ⟨p, wv, D, wi, pl, li, pa, rows, prs, way, S, B, r, rfl, PT, ok, hw, lw, rD, edge, k⟩ := h
    have p24 := ok.p24
    have w4 := ok.w4
    have w1 := ok.w1
    have l60 := ok.l60
    have lwv : (way.map V.str).length = r + 1 := by rw [List.length_map, lw]
    have lws : (D.ws.map V.str).length = D.ws.length := List.length_map ..
    have lrw : rows.length = D.ls.length := by rw [dps_len PT.ls, List.length_map]
    refine ⟨_, (pss_cons (ps_set (i := 2) sc__law_weather_for.nd rfl (Or.inl rfl) (pe_lst pa_nil))
      (pss_cons (ps_set (i := 3) sc__law_weather_for.nd rfl (Or.inl rfl) pe_int)
      (pss_cons (ps_for PassesOwn.never rfl (pi_range1 (by rfl) T.z_range (pa_cons (pe_op op_sub (pe_callB call_len_seq (by rfl) T.z_len PySem.boot_len (pa_cons (pv 1) pa_nil)) pe_int) pa_nil)) (pg_name (i := 4) sc__law_weather_for.nd rfl (Or.inl rfl)) (pss_cons (ps_set (i := 5) sc__law_weather_for.nd rfl (Or.inl rfl) pe_non)
        (pss_cons (ps_for PassesOwn.never rfl (pi_tup (pe_ix ix_list (pv 0) pe_int (fun _ _ => rfl))) (pg_name (i := 6) sc__law_weather_for.nd rfl (Or.inl rfl)) (pss_one (ps_for PassesOwn.never rfl (pi_range1 (by rfl) T.z_range (pa_cons (pe_callB call_len_seq (by rfl) T.z_len PySem.boot_len (pa_cons (pe_ix ix_list (pv 0) pe_int (fun _ _ => rfl)) pa_nil)) pa_nil)) (pg_name (i := 7) sc__law_weather_for.nd rfl (Or.inl rfl)) (pss_one (ps_if (PW.pt (pw_and (pt_cmpR (op_eqD hr.units) (pe_slice sl_tup (pv 6) (po_some pe_int) (po_some pe_int)) (pe_tup (pa_cons (pe_ix ix_list (pv 1) (pv 4) (fun _ _ => rfl)) (pa_cons (pe_ix ix_list (pv 1) (pe_op op_add (pv 4) pe_int) (fun _ _ => rfl)) pa_nil))) (nomark _)) (pw_and (pt_cmpR op_notN (pe_ix ix_tup (pe_ix ix_tup (pv 6) pe_int (fun _ _ => rfl)) (pv 7) (fun _ _ => rfl)) pe_non (nomark _)) (pw_and1 (pt_cmpR op_isN (pv 5) pe_non (nomark _)))))) (pss_one (ps_set (i := 5) sc__law_weather_for.nd rfl (Or.inl rfl) (pe_tup (pa_cons (pe_ix ix_tup (pe_ix ix_list (pv 0) pe_int (fun _ _ => rfl)) (pv 7) (fun _ _ => rfl)) (pa_cons (pe_ix ix_tup (pe_ix ix_tup (pe_ix ix_tup (pv 6) pe_int (fun _ _ => rfl)) (pv 7) (fun _ _ => rfl)) pe_int (fun _ _ => rfl)) pa_nil))))) pss_nil)))))
        (pss_cons (ps_expr (pe_bm PySem.F.plainAttrs_list PySem.F.slot_list_append PySem.F.type_list_append mt_append (pv 2) (pa_cons (pe_tup (pa_cons (pv 3) (pa_cons (pe_ix ix_seq (pv 5) pe_int (fun _ _ => rfl)) pa_nil))) pa_nil)))
        (pss_one (ps_set (i := 3) sc__law_weather_for.nd rfl (Or.inl rfl) (pe_op op_add (pv 3) (pe_ix ix_seq (pv 5) pe_int (fun _ _ => rfl)))))))))
      (pss_cons (ps_if (pt_cmpR op_eq (pe_callB call_len_seq (by rfl) T.z_len PySem.boot_len (pa_cons (pv 2) pa_nil)) pe_int (nomark _)) (pss_one (ps_set (i := 2) sc__law_weather_for.nd rfl (Or.inl rfl) (pe_lst (pa_cons (pe_tup (pa_cons pe_int (pa_cons (pe_ix ix_tup (pe_ix ix_list (pv 0) pe_int (fun _ _ => rfl)) pe_int (fun _ _ => rfl)) pa_nil))) pa_nil)))) pss_nil)
      (pss_one (ps_ret (pv 2))))))), ?_⟩
    refine ⟨by show 0 ≤ sizeLine; decide, fun L hL => ?_⟩
    have nL := Ex.new (o := .lst []) hL
    have mL : (upd H L (.lst [])) L = some (.lst []) := upd_same
    generalize upd H L (.lst []) = H1 at nL mL
    refine ⟨_, rfl, wv, _, rfl, .inl (ex_l nL hw), _, _, rfl, rfl, _, rfl, by omega, by omega, for_range (n := (((way.map V.str).length : Int) - 1).toNat) (fun i σ H' => ∃ (v4 v5 v6 v7 : Option V) (acc : List V) (rs : List (Int × Str)) (m : Int), σ = [some (.ref p), some (.ref wv), some (.ref L), some (.int m), v4, v5, v6, v7] ∧ Ex H H' ∧ H' L = some (.lst acc) ∧ DpAll K (del H' L) acc (rs.map dWr) ∧ Made D way i rs m) ⟨none, none, none, none, [], [], 0, rfl, nL, mL, .nil, .zero⟩ (fun i σ H' hi z => ?_) (fun σ H' z => ?_)⟩
    · obtain ⟨v4, v5, v6, v7, acc, rs, m, rfl, e, hacc, dacc, md⟩ := z
      have e0 := e
      have P1 := PT.ex e0
      have hi : i < r := by omega
      obtain ⟨o, ho⟩ : ∃ o, way[i]? = some o := ⟨way[i], List.getElem?_eq_getElem (by omega)⟩
      obtain ⟨t, ht⟩ : ∃ t, way[i + 1]? = some t := ⟨way[i + 1], List.getElem?_eq_getElem (by omega)⟩
      have ed := edge i o t ho ht
      refine ⟨_, rfl, p, _, _, _, rfl, rfl, P1.ob, atI_nat (j := 2) rfl, li, rfl, ⟨_, P1.li⟩, for_tup (K := K) (a := li) (xs := rows) (fun g σ H2 => ∃ (c : V) (v6 v7 : Option V), σ = [some (.ref p), some (.ref wv), some (.ref L), some (.int m), some (.int (0 + (i : Int))), some c, v6, v7] ∧ Ex H' H2 ∧ Cho K D o t H2 c (fun k _ => ∃ g', g' < g ∧ D.ls[g']? = some k)) ⟨.non, _, _, rfl, Ex.refl _, .inl ⟨rfl, fun k n z => by obtain ⟨g', h, _⟩ := z; exact absurd h (Nat.not_lt_zero _)⟩⟩ (fun g σ H2 _ z => by obtain ⟨_, _, _, _, e2, _⟩ := z; exact ex_t e2 P1.li) (fun g y σ H2 hy z => ?_) (fun σ H2 z => ?_)⟩
      · obtain ⟨c, v6, v7, rfl, e2, ch⟩ := z
        have e02 := e0.trans e2
        have P2 := PT.ex e02
        obtain ⟨lk, hlk, hkm, dk⟩ := pick P2.ls hy
        obtain ⟨tl, u, vs, rfl, sT, sU, dU⟩ := link_in dk
        have lvs : vs.length = D.ws.length := by rw [dps_len dU, List.length_map]; exact (ok.lk lk hkm).len
        refine ⟨_, rfl, p, _, _, _, rfl, rfl, P2.ob, atI_nat (j := 0) rfl, wi, _, rfl, .inr P2.wi.sq, _, rfl, by omega, by omega, for_range (n := (((D.ws.map V.str).length : Nat) : Int).toNat) (fun n σ H3 => ∃ (c : V) (v7 : Option V), σ = [some (.ref p), some (.ref wv), some (.ref L), some (.int m), some (.int (0 + (i : Int))), some c, some (.ref tl), v7] ∧ Ex H2 H3 ∧ Cho K D o t H3 c (fun k n' => (∃ g', g' < g ∧ D.ls[g']? = some k) ∨ (k = lk ∧ n' < n))) ⟨c, _, rfl, Ex.refl _, ch.more fun _ k n z => .inl (z.elim id fun z => absurd z.2 (Nat.not_lt_zero _))⟩ (fun n σ H3 hn z => ?_) (fun σ H3 z => ?_)⟩
        · obtain ⟨c, v7, rfl, e3, ch3⟩ := z
          have hn : n < D.ws.length := by omega
          have P3 := P2.ex e3
          have sT3 := ex_t e3 sT
          have hw3 := ex_l (e02.trans e3) hw
          refine ⟨_, rfl, _, rfl, _, rfl, tl, _, rfl, sT3, (by show ¬ (HT.sIx 4 0 (some 1) = 0 ∧ HT.sIx 4 4 (some 3) = 4); decide), fun sl hsl => ?_⟩
          have eS := Ex.new (o := .tup (cutV [V.str lk.n, .str lk.o, .str lk.t, .ref u] (some 1) (some 3))) hsl
          have mS : (upd H3 sl (.tup (cutV [V.str lk.n, .str lk.o, .str lk.t, .ref u] (some 1) (some 3)))) sl = some (.tup [.str lk.o, .str lk.t]) := upd_same
          generalize upd H3 sl (.tup (cutV [V.str lk.n, .str lk.o, .str lk.t, .ref u] (some 1) (some 3))) = H4 at eS mS
          have a1 : atI (way.map V.str) (0 + (i : Int)) = some (.str o) := by rw [Int.zero_add]; exact atI_nat (by rw [List.getElem?_map, ho] <;> rfl)
          have a2 : atI (way.map V.str) (0 + (i : Int) + 1) = some (.str t) := by rw [show (0 : Int) + (i : Int) + 1 = ((i + 1 : Nat) : Int) by omega]; exact atI_nat (by rw [List.getElem?_map, ht] <;> rfl)
          have on := ok.gp.1 _ (ok.lk lk hkm).o
          have tn := ok.gp.1 _ (ok.lk lk hkm).t
          have on2 : isName o = true := by obtain ⟨k', hk', e1, e2, _⟩ := pass_open ed; rw [← e1]; exact ok.gp.1 _ (ok.lk k' hk').o
          have tn2 : isName t = true := by obtain ⟨k', hk', e1, e2, _⟩ := pass_open ed; rw [← e2]; exact ok.gp.1 _ (ok.lk k' hk').t
          refine ⟨_, rfl, _, rfl, wv, _, _, _, rfl, rfl, ex_l eS hw3, a1, _, rfl, _, rfl, _, _, rfl, rfl, wv, _, _, _, rfl, rfl, ex_l eS hw3, a2, by show 2 ≤ sizeLine; decide, fun tp htp => ?_⟩
          have eT := Ex.new (o := .tup [V.str o, .str t]) htp
          have mT : (upd H4 tp (.tup [V.str o, .str t])) tp = some (.tup [.str o, .str t]) := upd_same
          generalize upd H4 tp (.tup [V.str o, .str t]) = H5 at eT mT
          have e35 := eS.trans eT
          refine ⟨dPair lk.o lk.t, dPair o t, .tup (st_of (eT _ _ mS)) (.cons (.str _) (.cons (.str _) .nil)), .tup (st_of mT) (.cons (.str _) (.cons (.str _) .nil)), sh_shaped (sh_pair on tn) (by decide), sh_shaped (sh_pair on2 tn2) (by decide), ?_⟩
          have P5 := P3.ex e35
          have sT5 := ex_t e35 sT3
          have sU5 := ex_t (e3.trans e35) sU
          have dU5 := dps_ex (e3.trans e35) dU
          have hn2 : n < vs.length := by omega
          have hvn : vs[n]? = some vs[n] := List.getElem?_eq_getElem hn2
          obtain ⟨tb, htb, _, dv⟩ := pick (f := dTime) dU5 hvn
          generalize vs[n] = vn at hvn dv
          have avn : atI vs (0 + (n : Int)) = some vn := by rw [Int.zero_add]; exact atI_nat hvn
          have eqq : PyData.eqv (dPair lk.o lk.t) (dPair o t) = true ↔ lk.o = o ∧ lk.t = t := by rw [eqv_pair]; simp
          have keep : ∀ {H6 : Hp}, Ex H3 H6 → (c = .non → ¬ Hit o t lk n) → ∃ (c' : V) (v7 : Option V), [some (V.ref p), some (.ref wv), some (.ref L), some (.int m), some (.int (0 + (i : Int))), some c, some (.ref tl), some (.int (0 + (n : Int)))] = [some (V.ref p), some (.ref wv), some (.ref L), some (.int m), some (.int (0 + (i : Int))), some c', some (.ref tl), v7] ∧ Ex H2 H6 ∧ Cho K D o t H6 c' (fun k n' => (∃ g', g' < g ∧ D.ls[g']? = some k) ∨ (k = lk ∧ n' < n + 1)) := fun {H6} e6 nh => ⟨c, _, rfl, e3.trans e6, (ch3.ex e6).more fun cn k n' z => by
            rcases z with z | ⟨rfl, z⟩
            · exact .inl (.inl z)
            · by_cases q : n' < n
              · exact .inl (.inr ⟨rfl, q⟩)
              · obtain rfl : n' = n := by omega
                exact .inr (nh cn)⟩
          refine ⟨_, rfl, ite2 (fun c1 => ?_) (fun c1 => keep e35 fun _ h => c1 (eqq.mpr ⟨h.1, h.2.1⟩))⟩
          obtain ⟨q1, q2⟩ := eqq.mp c1
          refine ⟨_, rfl, tl, _, _, _, rfl, rfl, sT5, atI_nat (j := 3) rfl, _, rfl, u, _, _, _, rfl, rfl, sU5, avn, rfl, _, rfl, ite2 (fun c2 => ?_) (fun c2 => keep e35 fun _ h => c2 ?_)⟩
          · refine ⟨_, rfl, rfl, _, rfl, ite2 (fun c3 => ?_) (fun c3 => keep e35 fun cn => absurd (decide_eq_true cn) c3)⟩
            obtain ⟨b, rfl⟩ : ∃ b, tb = some b := by
              cases tb with
              | none => rw [time_val dv] at c2; exact absurd c2 (by decide)
              | some b => exact ⟨b, rfl⟩
            obtain ⟨z, hz⟩ : ∃ z, D.ws[n]? = some z := ⟨D.ws[n], List.getElem?_eq_getElem hn⟩
            have az : atI (D.ws.map V.str) (0 + (n : Int)) = some (.str z) := by rw [Int.zero_add]; exact atI_nat (by rw [List.getElem?_map, hz] <;> rfl)
            obtain ⟨bt, rfl, sb⟩ : ∃ bt, vn = .ref bt ∧ SqT K H5 bt [.int b.1, .int b.2] := by
              unfold dTime at dv
              cases dv with
              | tup st al =>
                cases al with
                | cons d1 al =>
                  cases al with
                  | cons d2 al =>
                    cases al
                    cases d1
                    cases d2
                    exact ⟨_, rfl, st⟩
            refine ⟨_, rfl, p, _, _, _, rfl, rfl, P5.ob, atI_nat (j := 0) rfl, _, rfl, wi, _, _, _, rfl, rfl, P5.wi.sq, az, _, rfl, tl, _, _, _, rfl, rfl, sT5, atI_nat (j := 3) rfl, _, rfl, u, _, _, _, rfl, rfl, sU5, avn, bt, _, _, _, rfl, rfl, sb, atI_nat (j := 1) rfl, by show 2 ≤ sizeLine; decide, fun ch hch => ?_⟩
            have eC := Ex.new (o := .tup [V.str z, .int b.2]) hch
            exact ⟨_, _, rfl, e3.trans (e35.trans eC), .inr ⟨ch, lk, n, b, z, rfl, upd_same, hkm, q1, q2, htb, hz⟩⟩
          · obtain ⟨_, _, bb, hb⟩ := h
            rw [htb] at hb
            rw [time_val dv, Option.some.inj hb]
            rfl
        · obtain ⟨c, v7, rfl, e3, ch3⟩ := z
          refine ⟨c, _, _, rfl, e2.trans e3, ch3.more fun _ k n z => ?_⟩
          obtain ⟨g', hg', hk'⟩ := z
          by_cases q : g' < g
          · exact .inl (.inl ⟨g', q, hk'⟩)
          · obtain rfl : g' = g := by omega
            rw [hlk] at hk'
            cases hk'
            by_cases q2 : n < D.ws.length
            · exact .inl (.inr ⟨rfl, by omega⟩)
            · refine .inr fun h => ?_
              obtain ⟨_, _, b, hb⟩ := h
              have := (List.getElem?_eq_some_iff.mp hb).1
              have := (ok.lk lk hkm).len
              omega
      · obtain ⟨c, v6, v7, rfl, e2, ch⟩ := z
        have e02 := e0.trans e2
        obtain ⟨k0, hk0, ek1, ek2, j0, b0, hb0⟩ := pass_open ed
        rcases ch with ⟨rfl, no⟩ | ⟨ch, lk, j, b, z, rfl, sc, hkm, q1, q2, htb, hz⟩
        · obtain ⟨g', hg'⟩ := List.mem_iff_getElem?.mp hk0
          have lg := (List.getElem?_eq_some_iff.mp hg').1
          exact absurd ⟨ek1, ek2, b0, hb0⟩ (no k0 j0 ⟨g', by omega, hg'⟩)
        · have hacc2 := e2 _ _ hacc
          have lrs := (md.props ok).len
          have lac : acc.length = i := by rw [dps_len dacc, List.length_map, lrs]
          refine ⟨_, rfl, .inl ⟨rfl, _, SqL.of hacc2⟩, _, rfl, _, rfl, .inr (.inl ⟨ch, _, _, _, rfl, rfl, SqT.of sc, atI_nat (j := 0) rfl, by show 2 ≤ sizeLine; decide, fun t2 ht2 => ?_⟩)⟩
          have e3 := Ex.new (o := .tup [V.int m, .str z]) ht2
          have m3 : (upd H2 t2 (.tup [V.int m, .str z])) t2 = some (.tup [.int m, .str z]) := upd_same
          generalize upd H2 t2 (.tup [V.int m, .str z]) = H3 at e3 m3
          have hacc3 := e3 _ _ hacc2
          have tL : t2 ≠ L := fun q => by rw [q, hacc2] at ht2; cases ht2
          have cL : ch ≠ L := fun q => by rw [q, hacc2] at sc; cases sc
          refine ⟨L, acc, _, rfl, rfl, hacc3, sz_lt (by omega), ?_⟩
          refine ⟨_, rfl, _, rfl, .inr (.inl ⟨ch, [.str z, .int b.2], _, _, rfl, rfl, SqT.of (by rw [upd_ne cL]; exact e3 _ _ sc), atI_nat (j := 1) rfl, ?_⟩)⟩
          refine ⟨_, _, rfl, rfl, _, _, _, _, _, _, _, rfl, (e.trans (e2.trans e3)).mut hL, upd_same, ?_, md.succ (by rw [q1]; exact ho) (by rw [q2]; exact ht) hkm htb hz⟩
          rw [del_upd, List.map_append]
          exact dps_app (dps_ex (ex_del (e2.trans e3)) dacc) (dps_one (.tup (st_of (del_at tL m3)) (.cons (.int _) (.cons (.str _) .nil))))
    · obtain ⟨v4, v5, v6, v7, acc, rs, m, rfl, e, hacc, dacc, md⟩ := z
      have e0 := e
      have P1 := PT.ex e0
      have er : ((((way.map V.str).length : Nat) : Int) - 1).toNat = r := by omega
      rw [er] at md
      have lrs := (md.props ok).len
      have lac : acc.length = r := by rw [dps_len dacc, List.length_map, lrs]
      refine ⟨_, rfl, L, _, rfl, .inl (SqL.of hacc), rfl, _, rfl, ite2 (fun c => ?_) (fun c => ?_)⟩
      · have r0 : r = 0 := by
          have c : decide (V.int ((acc.length : Nat) : Int) = V.int 0) = true := c
          have := V.int.inj (of_decide_eq_true c)
          omega
        subst r0
        obtain rfl : rs = [] := List.eq_nil_of_length_eq_zero lrs
        obtain ⟨z, hz⟩ : ∃ z, D.ws[0]? = some z := ⟨D.ws[0], List.getElem?_eq_getElem (by omega)⟩
        have az : atI (D.ws.map V.str) 0 = some (.str z) := atI_nat (j := 0) (by rw [List.getElem?_map, hz] <;> rfl)
        refine ⟨_, rfl, p, _, _, _, rfl, rfl, P1.ob, atI_nat (j := 0) rfl, wi, _, _, _, rfl, rfl, P1.wi.sq, az, by show 2 ≤ sizeLine; decide, fun t1 ht1 => ?_⟩
        have e1 := Ex.new (o := .tup [V.int 0, .str z]) ht1
        have m1 : (upd H' t1 (.tup [V.int 0, .str z])) t1 = some (.tup [.int 0, .str z]) := upd_same
        generalize upd H' t1 (.tup [V.int 0, .str z]) = H2 at e1 m1
        refine ⟨by show 1 ≤ sizeLine; decide, fun l1 hl1 => ?_⟩
        have e2 := Ex.new (o := .lst [V.ref t1]) hl1
        have e02 := e0.trans (e1.trans e2)
        exact ⟨_, rfl, k _ l1 [.ref t1] [(0, z)] m [] [(0, z)] e02 (fresh_back (e0.trans e1) hl1) upd_same (dps_one (.tup (st_of (e2 _ _ m1)) (.cons (.int _) (.cons (.str _) .nil)))) (wok_first (List.mem_of_getElem? hz)) md rfl⟩
      · have r1 : 1 ≤ r := by
          have c : ¬ decide (V.int ((acc.length : Nat) : Int) = V.int 0) = true := c
          by_cases q : r = 0
          · exact absurd (decide_eq_true (by rw [show acc.length = 0 by omega]; rfl)) c
          · omega
        exact ⟨_, rfl, k H' L acc rs m rs [] e0 hL hacc (dps_ex del_ex dacc) (md.wok ok r1 (by omega)) md (List.append_nil _).symm⟩
end
end EV

set_option Elab.async false
set_option linter.all false
set_option maxRecDepth 100000
set_option maxHeartbeats 8000000
namespace EV
open PySem PySem.Spec PyProof.Rows L2 EvS Evl FD EnT
def sp__law_fourth (K : PySem.W.Frag) : Sp := fun vs H Q _ => ∃ (p q : Addr) (D : LandD) (wi pl li pa : Addr) (rows prs : List V) (ks : List Int), vs = [.ref p, .ref q, .int 161] ∧ Parts2 K H p D wi pl li pa rows prs ∧ LandOk D ∧ Nums K H q ks ∧ D.ws.length = 3 ∧ (∀ z ∈ D.ws, 2 ≤ z.length) ∧
  ∀ H' o D' wi' li' rows', Ex H H' → Parts2 K H' o D' wi' pl li' pa rows' prs → LandOk D' → D'.ps = D.ps → Q (.ref o) H'
section
variable {P : Program} {w : World} {K : PySem.W.Frag} {mg : Str → Option Value} {base : Heap} {a : Ad}
theorem G__law_fourth (T : Txt K mg a) : FnOk P w K mg base CX0 1 a.f__law_fourth a.d__law_fourth ["parts", "numbers", "at"] (sp__law_fourth K) := by
  refine T.F__law_fourth.ok sc__law_fourth (fun vs H Q E h => ?_) (fun cdv A outer s H vs Q E hr h => ?_)
  · obtain ⟨p, q, D, wi, pl, li, pa, rows, prs, ks, rfl, _⟩ := h
    rfl
  · obtain ⟨p, q, D, wi, pl, li, pa, rows, prs, ks, rfl, PT, ok, N, w3, w2, k⟩ := h
    have l60 := ok.l60
    have lrw : rows.length = D.ls.length := by rw [dps_len PT.ls, List.length_map]
    refine ⟨_, (pss_cons (ps_set (i := 3) sc__law_fourth.nd rfl (Or.inl rfl) (pe_lst pa_nil))
      (pss_cons (ps_for PassesOwn.never rfl (pi_range1 (by rfl) T.z_range (pa_cons (pe_callB call_len_seq (by rfl) T.z_len PySem.boot_len (pa_cons (pe_ix ix_list (pv 0) pe_int (fun _ _ => rfl)) pa_nil)) pa_nil)) (pg_name (i := 4) sc__law_fourth.nd rfl (Or.inl rfl)) (pss_cons (ps_asg (pe_ix ix_tup (pe_ix ix_list (pv 0) pe_int (fun _ _ => rfl)) (pv 4) (fun _ _ => rfl)) (pg_tup (by rfl) (pgs_cons (pg_name (i := 5) sc__law_fourth.nd rfl (Or.inl rfl)) (pgs_cons (pg_name (i := 6) sc__law_fourth.nd rfl (Or.inl rfl)) (pgs_cons (pg_name (i := 7) sc__law_fourth.nd rfl (Or.inl rfl)) (pgs_cons (pg_name (i := 8) sc__law_fourth.nd rfl (Or.inl rfl)) pgs_nil))))))
        (pss_cons (ps_set (i := 9) sc__law_fourth.nd rfl (Or.inl rfl) pe_non)
        (Evl.pss_cut (ps_if (pt_cmpR op_eq (pv 4) (pe_op op_modN (pe_callTy call_int1 (by rfl) T.z_int (by decide +kernel) (pa_cons (pe_ix ix_list (pv 1) (pv 2) (fun _ _ => rfl)) pa_nil)) (pe_callB call_len_seq (by rfl) T.z_len PySem.boot_len (pa_cons (pe_ix ix_list (pv 0) pe_int (fun _ _ => rfl)) pa_nil))) (nomark _)) (pss_cons (ps_set (i := 10) sc__law_fourth.nd rfl (Or.inl rfl) (pe_op op_add pe_int (pe_op op_mod (pe_callTy call_int1 (by rfl) T.z_int (by decide +kernel) (pa_cons (pe_ix ix_list (pv 1) (pe_op op_add (pv 2) pe_int) (fun _ _ => rfl)) pa_nil)) pe_int)))
          (pss_cons (ps_set (i := 8) sc__law_fourth.nd rfl (Or.inl rfl) (pe_tup (pa_cons pe_non (pa_cons pe_non (pa_cons pe_non pa_nil)))))
          (pss_one (ps_set (i := 9) sc__law_fourth.nd rfl (Or.inl rfl) (pe_tup (pa_cons (pv 10) (pa_cons (pe_op op_add (pv 10) (pe_op op_mod (pe_callTy call_int1 (by rfl) T.z_int (by decide +kernel) (pa_cons (pe_ix ix_list (pv 1) (pe_op op_add (pv 2) pe_int) (fun _ _ => rfl)) pa_nil)) pe_int)) pa_nil))))))) pss_nil)
        (pss_one (ps_expr (pe_bm PySem.F.plainAttrs_list PySem.F.slot_list_append PySem.F.type_list_append mt_append (pv 3) (pa_cons (pe_tup (pa_cons (pv 5) (pa_cons (pv 6) (pa_cons (pv 7) (pa_cons (pe_op TupX.op_catF (pv 8) (pe_tup (pa_cons (pv 9) pa_nil))) pa_nil))))) pa_nil))))))))
      (pss_one (ps_ret (pe_lst (pa_cons (pe_op TupX.op_catF (pe_ix ix_list (pv 0) pe_int (fun _ _ => rfl)) (pe_tup (pa_cons pe_str pa_nil))) (pa_cons (pe_ix ix_list (pv 0) pe_int (fun _ _ => rfl)) (pa_cons (pe_callTy call_tupK (by rfl) T.z_tuple (by decide +kernel) (pa_cons (pv 3) pa_nil)) (pa_cons (pe_ix ix_list (pv 0) pe_int (fun _ _ => rfl)) pa_nil))))))))), ?_⟩
    refine ⟨by show 0 ≤ sizeLine; decide, fun L hL => ?_⟩
    have nL := Ex.new (o := .lst []) hL
    have mL : (upd H L (.lst [])) L = some (.lst []) := upd_same
    generalize upd H L (.lst []) = H1 at nL mL
    refine ⟨_, rfl, p, _, _, _, rfl, rfl, ex_l nL PT.ob, atI_nat (j := 2) rfl, li, _, rfl, .inr (ex_t nL PT.li), _, rfl, by omega, by omega, for_range (n := ((rows.length : Nat) : Int).toNat) (fun i σ H' => ∃ (v4 v5 v6 v7 v8 v9 v10 : Option V) (acc : List V) (ls : List Link), σ = [some (.ref p), some (.ref q), some (.int 161), some (.ref L), v4, v5, v6, v7, v8, v9, v10] ∧ Ex H H' ∧ H' L = some (.lst acc) ∧ DpAll K (del H' L) acc (ls.map dLink) ∧ ls.map (·.n) = (D.ls.take i).map (·.n) ∧ ∀ k ∈ ls, LinkOk (D.ws ++ [("w" : Str)]) D.ps k) ⟨none, none, none, none, none, none, none, [], [], rfl, nL, mL, .nil, rfl, fun k hk => absurd hk List.not_mem_nil⟩ (fun i σ H' hi z => ?_) (fun σ H' z => ?_)⟩
    · obtain ⟨v4, v5, v6, v7, v8, v9, v10, acc, ls, rfl, e, hacc, dacc, en, lk⟩ := z
      have P1 := PT.ex e
      have N1 := N.ex e
      have hi2 : i < rows.length := by omega
      have hyr : rows[i]? = some rows[i] := List.getElem?_eq_getElem hi2
      obtain ⟨k0, hk0, hkm, dk⟩ := pick P1.ls hyr
      obtain ⟨tl, u, vs, ey, sT, sU, dU⟩ := link_in dk
      have lvs : vs.length = 3 := by rw [dps_len dU, List.length_map]; exact (ok.lk k0 hkm).len.trans w3
      have ayr : atI rows (0 + (i : Int)) = some (.ref tl) := by rw [Int.zero_add]; exact atI_nat (by rw [hyr, ey])
      refine ⟨_, rfl, p, _, _, _, rfl, rfl, P1.ob, atI_nat (j := 2) rfl, _, rfl, li, _, _, _, rfl, rfl, P1.li, ayr, tl, _, rfl, sT, rfl, _, _, rfl, _, _, rfl, _, _, rfl, _, _, rfl, rfl, ?_⟩
      obtain ⟨x1, l1, u1, g1⟩ := N1.get (i := 161) (by decide) (by decide)
      obtain ⟨x2, l2, u2, g2⟩ := N1.get (i := 161 + 1) (by decide) (by decide)
      obtain ⟨x3, l3, u3, g3⟩ := N1.get (i := 161 + 2) (by decide) (by decide)
      refine ⟨fun σ H2 => ∃ (tt : Addr) (vs2 : List V) (ts2 : List (Option (Int × Int))) (pv : V) (tb : Option (Int × Int)) (v10 : Option V), σ = [some (.ref p), some (.ref q), some (.int 161), some (.ref L), some (.int (0 + (i : Int))), some (.str k0.n), some (.str k0.o), some (.str k0.t), some (.ref tt), some pv, v10] ∧ Ex H' H2 ∧ SqT K H2 tt vs2 ∧ DpAll K H2 vs2 (ts2.map dTime) ∧ ts2.length = 3 ∧ (∀ b ∈ ts2, TimeOk b) ∧ Dp K H2 pv (dTime tb) ∧ TimeOk tb, ?_, ?_⟩
      · refine ⟨_, rfl, _, rfl, _, rfl, q, _, _, _, rfl, rfl, N1.at_, g1, .inl ⟨_, rfl, _, rfl, p, _, _, _, rfl, rfl, P1.ob, atI_nat (j := 2) rfl, li, _, rfl, .inr P1.li, _, _, rfl, rfl, by omega, rfl, _, rfl, ite2 (fun c => ?_) (fun c => ?_)⟩⟩
        · refine ⟨_, rfl, _, rfl, _, _, rfl, rfl, q, _, _, _, rfl, rfl, N1.at_, g2, .inl ⟨_, rfl, _, _, rfl, rfl, (by show (0 : Int) < 9; decide), _, _, rfl, rfl, ?_⟩⟩
          refine ⟨by show 3 ≤ sizeLine; decide, fun t1 ht1 => ?_⟩
          have e1 := Ex.new (o := .tup [V.non, .non, .non]) ht1
          have m1 : (upd H' t1 (.tup [V.non, .non, .non])) t1 = some (.tup [.non, .non, .non]) := upd_same
          generalize upd H' t1 (.tup [V.non, .non, .non]) = H2 at e1 m1
          refine ⟨_, rfl, _, rfl, _, rfl, _, rfl, _, _, rfl, rfl, q, _, _, _, rfl, rfl, (N1.ex e1).at_, g3, .inl ⟨_, rfl, _, _, rfl, rfl, (by show (0 : Int) < 7; decide), _, _, rfl, rfl, by show 2 ≤ sizeLine; decide, fun t2 ht2 => ?_⟩⟩
          have e2 := Ex.new (o := .tup [V.int (1 + x2 % 9), .int (1 + x2 % 9 + x3 % 7)]) ht2
          exact ⟨t1, _, [none, none, none], .ref t2, some (1 + x2 % 9, 1 + x2 % 9 + x3 % 7), _, rfl, e1.trans e2, SqT.of (e2 _ _ m1), .cons .non (.cons .non (.cons .non .nil)), rfl, (fun b hb => by simp at hb; rw [hb]; trivial), .tup (st_of upd_same) (.cons (.int _) (.cons (.int _) .nil)), by show 1 ≤ 1 + x2 % 9; omega, by show 1 + x2 % 9 ≤ 1 + x2 % 9 + x3 % 7; omega, by show 1 + x2 % 9 + x3 % 7 ≤ 1000; omega⟩
        · exact ⟨u, vs, k0.ts, .non, none, v10, rfl, Ex.refl _, sU, dU, (ok.lk k0 hkm).len.trans w3, (ok.lk k0 hkm).ok, .non, trivial⟩
      · rintro σ H2 ⟨tt, vs2, ts2, pv, tb, v10, rfl, e2, st, dt, l3, tok, dp, tbo⟩
        have hacc2 := e2 _ _ hacc
        have e02 := e.trans e2
        have lv2 : vs2.length = 3 := by rw [dps_len dt, List.length_map, l3]
        have lac : acc.length = i := by
          have h1 := congrArg List.length en
          rw [List.length_map, List.length_map, List.length_take] at h1
          rw [dps_len dacc, List.length_map, h1]
          omega
        refine ⟨_, rfl, .inl ⟨rfl, _, SqL.of hacc2⟩, _, rfl, _, rfl, _, rfl, _, rfl, _, rfl, by show 1 ≤ sizeLine; decide, fun t1 ht1 => ?_⟩
        have e3 := Ex.new (o := .tup [pv]) ht1
        have m3 : (upd H2 t1 (.tup [pv])) t1 = some (.tup [pv]) := upd_same
        generalize upd H2 t1 (.tup [pv]) = H3 at e3 m3
        refine ⟨tt, t1, vs2, [pv], rfl, rfl, ex_t e3 st, SqT.of m3, (fun q => by rw [q] at lv2; cases lv2), (fun q => by cases q), by rw [lv2]; show 4 ≤ sizeLine; decide, fun t4 H4 ht4 e4 b4 => ⟨by show 4 ≤ sizeLine; decide, fun t5 ht5 => ?_⟩⟩
        have e5 := Ex.new (o := .tup [V.str k0.n, .str k0.o, .str k0.t, .ref t4]) ht5
        have m5 : (upd H4 t5 (.tup [V.str k0.n, .str k0.o, .str k0.t, .ref t4])) t5 = some (.tup [.str k0.n, .str k0.o, .str k0.t, .ref t4]) := upd_same
        generalize upd H4 t5 (.tup [V.str k0.n, .str k0.o, .str k0.t, .ref t4]) = H5 at e5 m5
        have e35 := e3.trans (e4.trans e5)
        have hacc5 := e35 _ _ hacc2
        have e25 := e2.trans e35
        refine ⟨L, acc, _, rfl, rfl, hacc5, sz_lt (by omega), _, _, _, _, _, _, _, _, ls ++ [⟨k0.n, k0.o, k0.t, ts2 ++ [tb]⟩], rfl, (e.trans e25).mut hL, upd_same, ?_, ?_, fun kk hk => ?_⟩
        · rw [del_upd, List.map_append]
          have b5 := b4.ex e5
          have row : DpAll K H5 [.ref t5] ([(⟨k0.n, k0.o, k0.t, ts2 ++ [tb]⟩ : Link)].map dLink) := dps_one (.tup (st_of m5) (.cons (.str _) (.cons (.str _) (.cons (.str _) (.cons (.tup b5.sq (by rw [List.map_append]; exact dps_app (dps_ex e35 dt) (dps_one (dp_ex e35 dp)))) .nil)))))
          exact dps_app (dps_ex (ex_del e25) dacc) (dps_exT (exT_delT hacc5 ⟨(fun xs z => by cases z), (fun q xs z => by cases z)⟩) row (frozen_links _))
        · rw [take_one hk0, List.map_append, List.map_append, en]
          rfl
        · rcases List.mem_append.mp hk with h | h
          · exact lk kk h
          · rw [List.mem_singleton.mp h]
            have o0 := ok.lk k0 hkm
            refine ⟨o0.o, o0.t, o0.ne, by show (ts2 ++ [tb]).length = (D.ws ++ [("w" : Str)]).length; rw [List.length_append, List.length_append, l3, w3] <;> rfl, fun b hb => ?_⟩
            rcases List.mem_append.mp hb with h | h
            · exact tok b h
            · rw [List.mem_singleton.mp h]; exact tbo
    · obtain ⟨v4, v5, v6, v7, v8, v9, v10, acc, ls, rfl, e, hacc, dacc, en, lk⟩ := z
      have P1 := PT.ex e
      have P1 := PT.ex e
      have er : ((rows.length : Nat) : Int).toNat = D.ls.length := by omega
      rw [er, List.take_length] at en
      have ll : ls.length = D.ls.length := by
        have h1 := congrArg List.length en
        rw [List.length_map, List.length_map] at h1
        exact h1
      have lws : (D.ws.map V.str).length = 3 := by rw [List.length_map, w3]
      refine ⟨_, rfl, p, _, _, _, rfl, rfl, P1.ob, atI_nat (j := 0) rfl, by show 1 ≤ sizeLine; decide, fun t1 ht1 => ?_⟩
      have e1 := Ex.new (o := .tup [V.str "w"]) ht1
      have m1 : (upd H' t1 (.tup [V.str "w"])) t1 = some (.tup [.str "w"]) := upd_same
      generalize upd H' t1 (.tup [V.str "w"]) = H2 at e1 m1
      refine ⟨wi, t1, _, [.str "w"], rfl, rfl, (P1.ex e1).wi.sq, SqT.of m1, (fun q => by rw [q] at lws; cases lws), (fun q => by cases q), by rw [lws]; show 4 ≤ sizeLine; decide, fun w5 H3 hw5 e3 b5 => ?_⟩
      have e13 := e1.trans e3
      have P3 := P1.ex e13
      refine ⟨_, rfl, p, _, _, _, rfl, rfl, P3.ob, atI_nat (j := 1) rfl, _, rfl, L, _, rfl, .inl ⟨SqL.of (e13 _ _ hacc), fun l5 hl5 => ?_⟩⟩
      have e4 := Ex.new (o := .tup acc) hl5
      have m4 : (upd H3 l5 (.tup acc)) l5 = some (.tup acc) := upd_same
      generalize upd H3 l5 (.tup acc) = H4 at e4 m4
      refine ⟨_, rfl, p, _, _, _, rfl, rfl, (P3.ex e4).ob, atI_nat (j := 3) rfl, by show 4 ≤ sizeLine; decide, fun o ho => ?_⟩
      have e5 := Ex.new (o := .lst [V.ref w5, .ref pl, .ref l5, .ref pa]) ho
      have e15 := e13.trans (e4.trans e5)
      have P5 := P1.ex e15
      have nm : ("w" : Str) ∉ D.ws := fun h => absurd (w2 _ h) (by decide +kernel)
      refine k _ o ⟨D.ws ++ [("w" : Str)], D.ps, ls, D.pa⟩ w5 l5 acc (e.trans e15) ⟨SqL.of upd_same, ?_, P5.pl, st_of (e5 _ _ m4), dps_ex (Ex.trans del_ex e15) dacc, P5.pa, P5.ps⟩ ?_ rfl
      · have := b5.ex (e4.trans e5)
        rw [show ((⟨D.ws ++ [("w" : Str)], D.ps, ls, D.pa⟩ : LandD).ws.map V.str) = D.ws.map V.str ++ [.str "w"] from List.map_append ..]
        exact this
      · refine ⟨by show 1 ≤ (D.ws ++ [("w" : Str)]).length; rw [List.length_append, w3]; decide, by show (D.ws ++ [("w" : Str)]).length ≤ 4; rw [List.length_append, w3]; decide, ok.p1, ok.p24, by show ls.length ≤ 60; omega, ok.a60, ⟨fun z hz => ?_, ?_⟩, ok.gp, by show Good (ls.map (·.n)); rw [en]; exact ok.gl, lk, ok.pt, ok.ap⟩
        · rcases List.mem_append.mp hz with h | h
          · exact ok.gw.1 z h
          · rw [List.mem_singleton.mp h]; decide +kernel
        · show (D.ws ++ [("w" : Str)]).Nodup
          rw [List.nodup_append]
          exact ⟨ok.gw.2, (by simp), fun x hx y hy q => nm (by rw [← List.mem_singleton.mp hy, ← q]; exact hx)⟩
end
end EV

set_option Elab.async false
set_option linter.all false
set_option maxRecDepth 100000
set_option maxHeartbeats 8000000
namespace EV
open PySem PySem.Spec PyProof.Rows L2 EvS Evl FD EnT
open WT (lastW)
def spLaw (K : PySem.W.Frag) : Sp := fun vs H Q _ => ∃ (p : Addr) (ns : List Int), vs = [.ref p] ∧ SqL K H p (ns.map V.int) ∧ ∀ H', Q (.bl true) H'
section
variable {P : Program} {w : World} {K : PySem.W.Frag} {mg : Str → Option Value} {base : Heap} {a : Ad}
theorem G_law (T : Txt K mg a) : FnOk P w K mg base CX0 8 a.f_law a.d_law ["script"] (spLaw K) := by
  refine T.F_law.ok sc_law (fun vs H Q E h => ?_) (fun cdv A outer s H vs Q E hr h => ?_)
  · obtain ⟨p, ns, rfl, _⟩ := h
    rfl
  · obtain ⟨sc, ns, rfl, hS, k⟩ := h
    refine ⟨_, (pss_cons (ps_set (i := 1) sc_law.nd rfl (Or.inr rfl) (pe_call (G__law_numbers T) (hr.mono (by decide)) (by rfl) T.g__law_numbers T.k__law_numbers T.B__law_numbers .nil pass0 (pa_cons (pv 0) (pa_cons pe_int pa_nil))))
      (pss_cons (ps_set (i := 2) sc_law.nd rfl (Or.inl rfl) (pe_call (G__law_parts T) (hr.mono (by decide)) (by rfl) T.g__law_parts T.k__law_parts T.B__law_parts .nil pass0 (pa_cons (pv 1) (pa_cons pe_int pa_nil))))
      (Evl.pss_cut (ps_if (PW.pt (pw_and (pt_cmpR op_eq (pe_callB call_len_seq (by rfl) T.z_len PySem.boot_len (pa_cons (pe_ix ix_list (pv 2) pe_int (fun _ _ => rfl)) pa_nil)) pe_int (nomark _)) (pw_and1 (pt_cmpR op_eq (pe_op op_mod (pe_callTy call_int1 (by rfl) T.z_int (by decide +kernel) (pa_cons (pe_ix ix_list (pv 1) pe_int (fun _ _ => rfl)) pa_nil)) pe_int) pe_int (nomark _))))) (pss_one (ps_set (i := 2) sc_law.nd rfl (Or.inl rfl) (pe_call (G__law_fourth T) (hr.mono (by decide)) (by rfl) T.g__law_fourth T.k__law_fourth T.B__law_fourth .nil pass0 (pa_cons (pv 2) (pa_cons (pv 1) (pa_cons pe_int pa_nil)))))) pss_nil)
      (pss_cons (ps_set (i := 3) sc_law.nd rfl (Or.inr rfl) (pe_call (G__law_some T) (hr.mono (by decide)) (by rfl) T.g__law_some T.k__law_some T.B__law_some .nil pass0 (pa_cons (pv 1) (pa_cons pe_int (pa_cons (pv 2) (pa_cons pe_int pa_nil))))))
      (pss_cons (ps_set (i := 4) sc_law.nd rfl (Or.inl rfl) (pe_call (G__law_some T) (hr.mono (by decide)) (by rfl) T.g__law_some T.k__law_some T.B__law_some .nil pass0 (pa_cons (pv 1) (pa_cons pe_int (pa_cons (pv 2) (pa_cons pe_int pa_nil))))))
      (pss_cons (ps_set (i := 5) sc_law.nd rfl (Or.inl rfl) (pe_call (G__law_some T) (hr.mono (by decide)) (by rfl) T.g__law_some T.k__law_some T.B__law_some .nil pass0 (pa_cons (pv 1) (pa_cons pe_int (pa_cons (pv 2) (pa_cons (pe_op op_add pe_int (pe_op op_mod (pe_callTy call_int1 (by rfl) T.z_int (by decide +kernel) (pa_cons (pe_ix ix_list (pv 1) pe_int (fun _ _ => rfl)) pa_nil)) pe_int)) pa_nil))))))
      (pss_cons (ps_set (i := 6) sc_law.nd rfl (Or.inl rfl) (pe_call (G__law_made T) (hr.mono (by decide)) (by rfl) T.g__law_made T.k__law_made T.B__law_made .nil pass0 (pa_cons (pv 2) pa_nil)))
      (pss_cons (ps_setLc (i := 7) (own := [("place", 15)]) (g := gName 15) (tt := tYes) rfl sc_law.nd rfl rfl (sw_true rfl rfl rfl (by decide +kernel)) (pi_list (pv 5)) (blkOk_by (N := ["script", "numbers", "parts", "starts", "goals", "places", "land", "breaks", "way", "fires", "burns", "weather", "first", "last", "end", "place", "k", "goal"]) (sc := defScope s_law) (by decide +kernel)) (fun _ _ _ _ _ => pg_name (i := 15) sc_law.nd rfl (Or.inl rfl)) (fun _ _ _ _ _ => pts_nil) (fun _ _ _ _ _ => (pe_tup (pa_cons (pv 15) (pa_cons pe_int pa_nil)))))
      (Evl.pss_cut (ps_set (i := 8) sc_law.nd rfl (Or.inl rfl) (pe_call (G__law_one_way T) (hr.mono (by decide)) (by rfl) T.g__law_one_way T.k__law_one_way T.B__law_one_way .nil pass0 (pa_cons (pv 2) (pa_cons (pv 3) (pa_cons (pv 4) (pa_cons (pv 5) pa_nil))))))
      (pss_cons (ps_if (pt_cmpR op_ne (pe_call (G_is_kept T) (hr.mono (by decide)) (by rfl) T.g_is_kept T.k_is_kept T.B_is_kept .nil pass0 (pa_cons (pv 6) (pa_cons (pv 3) (pa_cons (pv 4) (pa_cons (pv 5) pa_nil))))) (pe_cmpR op_isN (pv 8) pe_non (nomark _)) (nomark _)) (pss_one (ps_ret pe_bl)) pss_nil)
      (pss_cons (ps_if (pt_cmpR op_isN (pv 8) pe_non (nomark _)) (pss_cons (ps_setLc (i := 9) (own := [("k", 16)]) (g := gName 16) (tt := tYes) rfl sc_law.nd rfl rfl (sw_true rfl rfl rfl (by decide +kernel)) (pi_range1 (by rfl) T.z_range (pa_cons (pe_callB call_len_seq (by rfl) T.z_len PySem.boot_len (pa_cons (pv 3) pa_nil)) pa_nil)) (blkOk_by (N := ["script", "numbers", "parts", "starts", "goals", "places", "land", "breaks", "way", "fires", "burns", "weather", "first", "last", "end", "place", "k", "goal"]) (sc := defScope s_law) (by decide +kernel)) (fun _ _ _ _ _ => pg_name (i := 16) sc_law.nd rfl (Or.inl rfl)) (fun _ _ _ _ _ => pts_nil) (fun _ _ _ _ _ => (pe_tup (pa_cons (pe_ix (show IxR _ (rIxL K) from ix_list) (pv 3) (pv 16) (fun _ _ => rfl)) (pa_cons (pe_op op_mod (pe_callTy call_int1 (by rfl) T.z_int (by decide +kernel) (pa_cons (pe_ix (show IxR _ (rIxL K) from ix_list) (pv 1) (pe_op op_add pe_int (pv 16)) (fun _ _ => rfl)) pa_nil)) pe_int) pa_nil)))))
        (pss_cons (ps_set (i := 10) sc_law.nd rfl (Or.inr rfl) (pe_callTy (call_dictP rfl) (by rfl) T.z_dict (by decide +kernel) (pa_cons (pe_call (G_fastest T) (hr.mono (by decide)) (by rfl) T.g_fastest T.k_fastest T.B_fastest .nil pass0 (pa_cons (pv 6) (pa_cons (pe_call (G__law_weather T) (hr.mono (by decide)) (by rfl) T.g__law_weather T.k__law_weather T.B__law_weather .nil pass0 (pa_cons (pv 1) (pa_cons pe_int (pa_cons (pv 2) pa_nil)))) (pa_cons (pv 9) (pa_cons (pv 7) pa_nil))))) pa_nil)))
        (pss_one (ps_ret (pe_callB (cr_all rfl) (by rfl) T.z_all (by decide +kernel) (pa_cons (pe_lc (own := [("goal", 17)]) (g := gName 17) (tt := tYes) rfl sc_law.nd (pi_list (pv 4)) (blkOk_by (N := ["script", "numbers", "parts", "starts", "goals", "places", "land", "breaks", "way", "fires", "burns", "weather", "first", "last", "end", "place", "k", "goal"]) (sc := defScope s_law) (by decide +kernel)) (fun _ _ _ _ _ => pg_name (i := 17) sc_law.nd rfl (Or.inl rfl)) (fun _ _ _ _ _ => pts_nil) (fun _ _ _ _ _ => (pe_cmpR op_isN (pe_dget (hu_of hr) (pv 10) (pv 17) (fun _ _ => rfl)) pe_non (nomark _)))) pa_nil)))))) pss_nil)
      (pss_cons (ps_set (i := 11) sc_law.nd rfl (Or.inl rfl) (pe_call (G__law_weather_for T) (hr.mono (by decide)) (by rfl) T.g__law_weather_for T.k__law_weather_for T.B__law_weather_for .nil pass0 (pa_cons (pv 2) (pa_cons (pv 8) pa_nil))))
      (pss_cons (ps_set (i := 12) sc_law.nd rfl (Or.inl rfl) (pe_callTy (call_dictP rfl) (by rfl) T.z_dict (by decide +kernel) (pa_cons (pe_call (G_fastest T) (hr.mono (by decide)) (by rfl) T.g_fastest T.k_fastest T.B_fastest .nil pass0 (pa_cons (pv 6) (pa_cons (pv 11) (pa_cons (pe_lst (pa_cons (pe_tup (pa_cons (pe_ix ix_seq (pv 8) pe_int (fun _ _ => rfl)) (pa_cons pe_int pa_nil))) pa_nil)) (pa_cons (pv 7) pa_nil))))) pa_nil)))
      (pss_cons (ps_set (i := 13) sc_law.nd rfl (Or.inl rfl) (pe_callTy (call_dictP rfl) (by rfl) T.z_dict (by decide +kernel) (pa_cons (pe_call (G_slowest T) (hr.mono (by decide)) (by rfl) T.g_slowest T.k_slowest T.B_slowest .nil pass0 (pa_cons (pv 6) (pa_cons (pv 11) (pa_cons (pe_lst (pa_cons (pe_tup (pa_cons (pe_ix ix_seq (pv 8) pe_int (fun _ _ => rfl)) (pa_cons pe_int pa_nil))) pa_nil)) (pa_cons (pv 7) pa_nil))))) pa_nil)))
      (pss_cons (ps_set (i := 14) sc_law.nd rfl (Or.inl rfl) (pe_ix ix_seq (pv 8) (pe_op op_sub (pe_callB call_len_seq (by rfl) T.z_len PySem.boot_len (pa_cons (pv 8) pa_nil)) pe_int) (fun _ _ => rfl)))
      (pss_one (ps_ret (pe_and (pe_cmpR op_notN (pe_dget (hu_of hr) (pv 12) (pv 14) (fun _ _ => rfl)) pe_non (nomark _)) (pe_one (pe_cmpR op_notN (pe_dget (hu_of hr) (pv 13) (pv 14) (fun _ _ => rfl)) pe_non (nomark _))))))))))))))))))))), ?_⟩
    refine ⟨_, rfl, sc, ns, 170, rfl, hS, by decide, by decide, fun H1 q ks e1 _ hq lq sm => ?_⟩
    have N : Nums K H1 q ks := ⟨SqL.of hq, sm, by omega, by omega⟩
    refine ⟨_, rfl, q, ks, rfl, N, fun H2 p D wi pl li pa rows prs e2 _ _ S2 ok sm2 => ?_⟩
    have N2 := N.ex e2
    refine ⟨fun σ H3 => ∃ (p : Addr) (D : LandD) (wi pl li pa : Addr) (rows prs : List V), σ = [some (.ref sc), some (.ref q), some (.ref p), none, none, none, none, none, none, none, none, none, none, none, none, none, none, none] ∧ Nums K H3 q ks ∧ Parts2 K H3 p D wi pl li pa rows prs ∧ LandOk D ∧ D.ps.length ≤ 7, ?_, ?_⟩
    · obtain ⟨x1, l1, u1, g1⟩ := N2.get (i := 160) (by decide) (by decide)
      have plain : ∃ (p' : Addr) (D : LandD) (wi pl li pa : Addr) (rows prs : List V), [some (V.ref sc), some (.ref q), some (.ref p), none, none, none, none, none, none, none, none, none, none, none, none, none, none, none] = [some (.ref sc), some (.ref q), some (.ref p'), none, none, none, none, none, none, none, none, none, none, none, none, none, none, none] ∧ Nums K H2 q ks ∧ Parts2 K H2 p' D wi pl li pa rows prs ∧ LandOk D ∧ D.ps.length ≤ 7 := ⟨p, D, wi, pl, li, pa, rows, prs, rfl, N2, S2, ok, sm2.p7⟩
      refine ⟨_, rfl, p, _, _, _, rfl, rfl, S2.ob, atI_nat (j := 0) rfl, wi, _, rfl, .inr S2.wi.sq, rfl, _, rfl, ite2 (fun c => ?_) (fun c => plain)⟩
      have w3 : D.ws.length = 3 := by
        have c : decide (V.int (((D.ws.map V.str).length : Nat) : Int) = V.int 3) = true := c
        have := V.int.inj (of_decide_eq_true c)
        rw [List.length_map] at this
        omega
      refine ⟨_, rfl, q, _, _, _, rfl, rfl, N2.at_, g1, .inl ⟨_, rfl, _, _, rfl, rfl, (by show (0 : Int) < 2; decide), rfl, _, rfl, ite2 (fun c => ?_) (fun c => plain)⟩⟩
      refine ⟨_, rfl, _, rfl, p, q, D, wi, pl, li, pa, rows, prs, ks, rfl, S2, ok, N2, w3, sm2.w2, fun H3 o D' wi' li' rows' e3 P3 ok3 ep => ?_⟩
      exact ⟨o, D', wi', pl, li', pa, rows', prs, rfl, N2.ex e3, P3, ok3, by rw [ep]; exact sm2.p7⟩
    rintro σ H3 ⟨p, D, wi, pl, li, pa, rows, prs, rfl, N3, S3, ok, p7⟩
    -- starts, goals, places
    refine ⟨_, rfl, _, rfl, q, p, wi, pl, li, pa, ks, D.ps, 110, 3, rfl, N3, S3.ob, S3.pl, by omega, by decide, fun H4 s' S e4 _ hs sS => ?_⟩
    refine ⟨_, rfl, _, rfl, q, p, wi, pl, li, pa, ks, D.ps, 118, 3, rfl, N3.ex e4, (S3.ex e4).ob, (S3.ex e4).pl, by omega, by decide, fun H5 g G e5 _ hg sG => ?_⟩
    have e45 := e4.trans e5
    have N5 := N3.ex e45
    have S5 := S3.ex e45
    obtain ⟨x1, l1, u1, g1⟩ := N5.get (i := 134) (by decide) (by decide)
    refine ⟨_, rfl, _, rfl, _, rfl, q, _, _, _, rfl, rfl, N5.at_, g1, .inl ⟨_, rfl, _, _, rfl, rfl, (by show (0 : Int) < 4; decide), _, _, rfl, rfl, q, p, wi, pl, li, pa, ks, D.ps, 126, 2 + x1 % 4, rfl, N5, S5.ob, S5.pl, by omega, by omega, fun H6 b B e6 _ hb sB => ?_⟩⟩
    -- land
    have S6 := S5.ex e6
    refine ⟨_, rfl, p, D, wi, pl, li, pa, rows, prs, rfl, S6, ok, fun H7 x e7 _ hx => ?_⟩
    have e67 := e6.trans e7
    have N7 := N5.ex e67
    have S7 := S6.ex e7
    have hs7 := e67 _ _ (e5 _ _ hs)
    have hg7 := e67 _ _ hg
    have hb7 := e7 _ _ hb
    clear hs hg hb S6 S5 N5 S3 N3 e67 e7 e6 e45 e5 e4 g1
    refine ⟨_, rfl, b, rfl, ⟨_, SqL.of hb7⟩, fun D0 hD0 => lc_list (K := K) (a := b) (xs := B.map V.str) (fun i H' => Ex H7 H' ∧ ∃ acc, H' D0 = some (.lst acc) ∧ acc.length = i ∧ DpAll K (del H' D0) acc (((B.take i).map fun z => (z, (0 : Int))).map dPm)) ⟨Ex.new hD0, [], upd_same, rfl, .nil⟩ (fun i H' _ z => SqL.of (z.1 _ _ hb7)) (fun i y H' hy z => ?_) (fun H8 z => ?_)⟩
    · obtain ⟨e, acc, ha, la, da⟩ := z
      have hi := (List.getElem?_eq_some_iff.mp hy).1
      have lB := sB.length_le
      rw [List.length_map] at hi
      rw [List.getElem?_map] at hy
      obtain ⟨z, hz, rfl⟩ := Option.map_eq_some_iff.mp hy
      refine ⟨rfl, _, rfl, by show 2 ≤ sizeLine; decide, fun t ht => ?_⟩
      have eT := Ex.new (o := .tup [V.str z, .int 0]) ht
      have tD : t ≠ D0 := fun q => by rw [q, ha] at ht; cases ht
      refine ⟨acc, eT _ _ ha, sz_lt (by omega), (e.trans eT).mut hD0, acc ++ [.ref t], upd_same, by rw [List.length_append, la] <;> rfl, ?_⟩
      rw [del_upd, take_one hz, List.map_append, List.map_append]
      exact dps_app (dps_ex (ex_del eT) da) (dps_one (.tup (st_of (del_at tD upd_same)) (.cons (.str _) (.cons (.int _) .nil))))
    obtain ⟨e8, bb, hb8, lbb, db⟩ := z
    rw [List.length_map, List.take_length] at db
    have S8 := S7.ex e8
    refine ⟨fun σ H9 => ∃ wv : V, σ = [some (.ref sc), some (.ref q), some (.ref p), some (.ref s'), some (.ref g), some (.ref b), some (.ref x), some (.ref D0), some wv, none, none, none, none, none, none, none, none, none] ∧ Ex H8 H9 ∧ ((∃ a w, wv = .ref a ∧ SqL K H9 a (w.map V.str) ∧ IsWay D.ps.length (passes D.ls) S B w ∧ lastW w ∈ G) ∨ (wv = .non ∧ ∀ n z, z ∈ G → ¬ WT.DR (passes D.ls) S B n z)), ?_, ?_⟩
    · have hs8 := e8 _ _ hs7
      have hg8 := e8 _ _ hg7
      have hb8' := e8 _ _ hb7
      refine ⟨_, rfl, _, rfl, _, rfl, _, rfl, p, s', g, b, D, wi, pl, li, pa, rows, prs, S, G, B, rfl, S8, ok, SqL.of hs8, SqL.of hg8, SqL.of hb8', (fun z hz => sS.subset hz), ok.gp.2.sublist sS, (fun H9 av w e9 hw iw lG => ?_), fun no H9 e9 => ?_⟩
      · exact ⟨_, rfl, e9, .inl ⟨av, w, rfl, hw, iw, lG⟩⟩
      · exact ⟨_, rfl, e9, .inr ⟨rfl, fun n z hz => no n z hz⟩⟩
    rintro σ H9 ⟨wv, rfl, e9, cs⟩
    have e79 := e8.trans e9
    have S9 := S8.ex e9
    have N9 := N7.ex e79
    have hs9 := e79 _ _ hs7
    have hg9 := e79 _ _ hg7
    have hb9 := e79 _ _ hb7
    have hx9 := hx.ex e79
    have hB9 := e9 _ _ hb8
    have db9 : DpAll K H9 bb ((B.map fun z => (z, (0 : Int))).map dPm) := dps_ex (Ex.trans del_ex e9) db
    have lS := sS.length_le
    have lG := sG.length_le
    have lB := sB.length_le
    have isr : ∀ r : Bool, (r = true ↔ ∀ z ∈ G, ¬ Rch (passes D.ls) S B z) → r = decide (wv = .non) := fun r hr => by
      rcases cs with ⟨av, w, rfl, _, ⟨n, ln, _, dn, _⟩, lg⟩ | ⟨rfl, no⟩
      · cases r with
        | false => rfl
        | true =>
          have d := dn n _ (WT.last_at ln)
          exact absurd (dr_rch d).1 (hr.mp rfl _ lg)
      · rw [show decide ((V.non : V) = .non) = true from rfl]
        refine hr.mpr fun z hz q => ?_
        obtain ⟨n, d⟩ := rch_dr q
        exact no n z hz d
    refine ⟨_, rfl, _, rfl, _, rfl, _, rfl, x, s', g, b, D, S, G, B, rfl, hx9, ok, SqL.of hs9, SqL.of hg9, SqL.of hb9, (fun z hz => sS.subset hz), (fun z hz => sG.subset hz), (fun z hz => sB.subset hz), by omega, by omega, by omega, fun H10 r e10 hr' => ?_⟩
    rw [isr r hr']
    refine ⟨_, rfl, rfl, rfl, _, rfl, ite2 (fun c => ?_) (fun _ => ?_)⟩
    · have c : (!decide (V.bl (decide (wv = .non)) = V.bl (decide (wv = .non)))) = true := c
      rw [decide_eq_true rfl] at c
      cases c
    clear isr hr' r
    have e7A := e79.trans e10
    have hsA := e10 _ _ hs9
    have hgA := e10 _ _ hg9
    have hbA := e10 _ _ hB9
    have hxA := hx9.ex e10
    have dbA := dps_ex e10 db9
    have SA := S9.ex e10
    have NA := N9.ex e10
    rcases cs with ⟨av, w, rfl, hw, ⟨n, ln, nps, dn, edg⟩, lg⟩ | ⟨rfl, no⟩
    · refine ⟨_, rfl, rfl, _, rfl, ite2 (fun c => by cases (of_decide_eq_true c : (V.ref av : V) = .non)) (fun _ => ?_)⟩
      refine ⟨_, rfl, _, rfl, p, av, D, wi, pl, li, pa, rows, prs, w, S, B, n, rfl, SA, ok, ?_, ln, nps, edg, fun H11 wa us ws m rs rest e11 _ hwa dwa wok md er => ?_⟩
      · exact ex_l e10 hw
      obtain ⟨p0, hp0⟩ : ∃ p0, w[0]? = some p0 := ⟨w[0], List.getElem?_eq_getElem (by omega)⟩
      have ap0 : atI (w.map V.str) 0 = some (.str p0) := atI_nat (j := 0) (by rw [List.getElem?_map, hp0] <;> rfl)
      have p0S : p0 ∈ D.ps := by
        cases dn 0 p0 hp0 with
        | zero h _ => exact sS.subset h
      have offB : ∀ (j : Nat) (z : Str), w[j]? = some z → FP.minOf (B.map fun z => (z, (0 : Int))) z = none := fun j z hz => minOf_off B (dr_rch (dn j z hz)).2
      have burn : ∀ sd : Nat, FP.first (fireOf D ws [(p0, 0)] (B.map fun z => (z, 0)) sd) (lastW w) ≠ none := fun sd q => by
        obtain ⟨t, _, r⟩ := made_reach ok wok (s := sd) (sts := [(p0, 0)]) (bs := B.map fun z => (z, 0)) hp0 List.mem_cons_self offB md rest er _ (WT.last_at ln)
        obtain ⟨u, hu, _⟩ := FP.first_le (fire_ok ok (fun r hr => by rw [List.mem_singleton.mp hr]; exact ⟨p0S, Int.le_refl 0⟩) sd) r
        rw [q] at hu
        cases hu
      have lastG : lastW w ∈ D.ps := sG.subset lg
      have so1 : StOk D [(p0, (0 : Int))] := fun r hr => by rw [List.mem_singleton.mp hr]; exact ⟨p0S, Int.le_refl 0⟩
      have AQ : ∀ {HH : Hp} {t1 l1 : Addr}, Ex H11 HH → HH t1 = some (.tup [.str p0, .int 0]) → HH l1 = some (.lst [.ref t1]) → AskQ K a.C HH x wa l1 D0 D ws [(p0, 0)] (B.map fun z => (z, (0 : Int))) us [.ref t1] bb := fun {HH t1 l1} eh h1 h2 => ⟨hxA.ex (e11.trans eh), ok, SqL.of (eh _ _ hwa), dps_ex eh dwa, wok, SqL.of h2, dps_one (.tup (st_of h1) (.cons (.str _) (.cons (.int _) .nil))), so1, by show 1 ≤ 500; decide, SqL.of ((e11.trans eh) _ _ hbA), dps_ex (e11.trans eh) dbA, (fun r hr => by
        obtain ⟨z, hz, rfl⟩ := List.mem_map.mp hr
        exact sB.subset hz), by rw [List.length_map]; omega⟩
      generalize hf0 : FP.first (fireOf D ws [(p0, 0)] (B.map fun z => (z, (0 : Int))) 0) = f0
      generalize hf1 : FP.first (fireOf D ws [(p0, 0)] (B.map fun z => (z, (0 : Int))) 1) = f1
      have b0 := burn 0
      have b1 := burn 1
      rw [hf0] at b0
      rw [hf1] at b1
      -- first
      refine ⟨_, rfl, _, rfl, _, rfl, .inl ⟨av, _, _, _, rfl, rfl, ex_l e11 (ex_l e10 hw), ap0, by show 2 ≤ sizeLine; decide, fun t1 ht1 => ⟨by show 1 ≤ sizeLine; decide, fun l1 hl1 => ?_⟩⟩⟩
      have c1 : Ex H11 (upd (upd H11 t1 (.tup [V.str p0, .int 0])) l1 (.lst [V.ref t1])) := (Ex.new ht1).trans (Ex.new hl1)
      have m1 : (upd (upd H11 t1 (.tup [V.str p0, .int 0])) l1 (.lst [V.ref t1])) t1 = some (.tup [.str p0, .int 0]) := Ex.new hl1 _ _ upd_same
      have m2 : (upd (upd H11 t1 (.tup [V.str p0, .int 0])) l1 (.lst [V.ref t1])) l1 = some (.lst [.ref t1]) := upd_same
      generalize upd (upd H11 t1 (.tup [V.str p0, .int 0])) l1 (.lst [V.ref t1]) = I2 at c1 m1 m2
      refine ⟨_, rfl, x, wa, l1, D0, D, ws, [(p0, 0)], B.map fun z => (z, 0), us, _, bb, rfl, AQ c1 m1 m2, fun o1 I3 u1 c3 _ ho1 d1 => ?_⟩
      rw [hf0] at d1
      obtain ⟨as1, rfl, pr1⟩ := rows_pair d1
      refine ⟨o1, as1, _, rfl, SqL.of ho1, pr1, fun x1 hx1 => ?_⟩
      have c4 := Ex.new (o := .dK (mergeK [] (rowKvs D.ps f0))) hx1
      have mx1 : (upd I3 x1 (.dK (mergeK [] (rowKvs D.ps f0)))) x1 = some (.dK (mergeK [] (rowKvs D.ps f0))) := upd_same
      generalize upd I3 x1 (.dK (mergeK [] (rowKvs D.ps f0))) = I4 at c4 mx1
      have c14 := c1.trans (c3.trans c4)
      -- last
      refine ⟨_, rfl, _, rfl, _, rfl, .inl ⟨av, _, _, _, rfl, rfl, ex_l (e11.trans c14) (ex_l e10 hw), ap0, by show 2 ≤ sizeLine; decide, fun t2 ht2 => ⟨by show 1 ≤ sizeLine; decide, fun l2 hl2 => ?_⟩⟩⟩
      have c5 : Ex I4 (upd (upd I4 t2 (.tup [V.str p0, .int 0])) l2 (.lst [V.ref t2])) := (Ex.new ht2).trans (Ex.new hl2)
      have m5 : (upd (upd I4 t2 (.tup [V.str p0, .int 0])) l2 (.lst [V.ref t2])) t2 = some (.tup [.str p0, .int 0]) := Ex.new hl2 _ _ upd_same
      have m6 : (upd (upd I4 t2 (.tup [V.str p0, .int 0])) l2 (.lst [V.ref t2])) l2 = some (.lst [.ref t2]) := upd_same
      generalize upd (upd I4 t2 (.tup [V.str p0, .int 0])) l2 (.lst [V.ref t2]) = I6 at c5 m5 m6
      refine ⟨_, rfl, x, wa, l2, D0, D, ws, [(p0, 0)], B.map fun z => (z, 0), us, _, bb, rfl, AQ (c14.trans c5) m5 m6, fun o2 I7 u2 c7 _ ho2 d2 => ?_⟩
      rw [hf1] at d2
      obtain ⟨as2, rfl, pr2⟩ := rows_pair d2
      refine ⟨o2, as2, _, rfl, SqL.of ho2, pr2, fun x2 hx2 => ?_⟩
      have c8 := Ex.new (o := .dK (mergeK [] (rowKvs D.ps f1))) hx2
      have mx2 : (upd I7 x2 (.dK (mergeK [] (rowKvs D.ps f1)))) x2 = some (.dK (mergeK [] (rowKvs D.ps f1))) := upd_same
      generalize upd I7 x2 (.dK (mergeK [] (rowKvs D.ps f1))) = I8 at c8 mx2
      have c58 := c5.trans (c7.trans c8)
      have hw8 := ex_l (e11.trans (c14.trans c58)) (ex_l e10 hw)
      have g1 : DGet I8 x1 (.str (lastW w)) (some (vInt (f0 (lastW w)))) := by
        have g0 : DGet I8 x1 (.str (lastW w)) (valV (mergeK [] (rowKvs D.ps f0)) (.inr (lastW w))) := DGet.k (k := Sum.inr (lastW w)) (c58 _ _ mx1)
        rwa [merge_rows, if_pos lastG] at g0
      have g2 : DGet I8 x2 (.str (lastW w)) (some (vInt (f1 (lastW w)))) := by
        have g0 : DGet I8 x2 (.str (lastW w)) (valV (mergeK [] (rowKvs D.ps f1)) (.inr (lastW w))) := DGet.k (k := Sum.inr (lastW w)) mx2
        rwa [merge_rows, if_pos lastG] at g0
      have nv : ∀ {o : Option Int}, o ≠ none → decide (vInt o = .non) = false := fun {o} h => by
        cases o with
        | none => exact absurd rfl h
        | some i => rfl
      refine ⟨_, rfl, _, rfl, av, _, rfl, .inl hw8, _, _, rfl, rfl, .inl ⟨av, _, _, _, rfl, rfl, hw8, last_val ln, ?_⟩⟩
      refine ⟨_, rfl, _, rfl, x1, _, rfl, g1, rfl, ?_⟩
      rw [nv b0]
      refine ⟨_, rfl, ite2 (fun _ => ?_) (fun c => absurd rfl c)⟩
      refine ⟨_, rfl, _, rfl, x2, _, rfl, g2, rfl, ?_⟩
      rw [nv b1]
      exact k _
    · refine ⟨_, rfl, rfl, _, rfl, ite2 (fun _ => ?_) (fun c => absurd rfl c)⟩
      have lsS : (S.map V.str).length = S.length := List.length_map ..
      refine ⟨_, rfl, s', _, rfl, .inl (SqL.of hsA), _, rfl, by omega, by omega, fun F0 hF0 => lc_range (lo := 0) (n := (((S.map V.str).length : Nat) : Int).toNat) (fun i H' => Ex H10 H' ∧ ∃ (acc : List V) (sts : List (Str × Int)), H' F0 = some (.lst acc) ∧ DpAll K (del H' F0) acc (sts.map dPm) ∧ sts.length = i ∧ StOk D sts ∧ ∀ r ∈ sts, r.1 ∈ S) ⟨Ex.new hF0, [], [], upd_same, .nil, rfl, (fun r hr => absurd hr List.not_mem_nil), fun r hr => absurd hr List.not_mem_nil⟩ (fun i H' hi z => ?_) (fun H11 z => ?_)⟩
      · obtain ⟨e, acc, sts, ha, da, ll, so, si⟩ := z
        have hi : i < S.length := by omega
        have lac : acc.length = i := by rw [dps_len da, List.length_map, ll]
        obtain ⟨z, hz⟩ : ∃ z, S[i]? = some z := ⟨S[i], List.getElem?_eq_getElem hi⟩
        have az : atI (S.map V.str) (0 + (i : Int)) = some (.str z) := by rw [Int.zero_add]; exact atI_nat (by rw [List.getElem?_map, hz] <;> rfl)
        have Ne := NA.ex e
        obtain ⟨y, y0, y1, gy⟩ := Ne.get (i := 136 + (0 + (i : Int))) (by omega) (by omega)
        refine ⟨rfl, _, rfl, _, rfl, s', _, _, _, rfl, rfl, SqL.of (e _ _ hsA), az, _, rfl, _, rfl, _, _, rfl, rfl, q, _, _, _, rfl, rfl, Ne.at_, gy, .inl ⟨_, rfl, _, _, rfl, rfl, (by show (0 : Int) < 20; decide), by show 2 ≤ sizeLine; decide, fun t ht => ?_⟩⟩
        have eT := Ex.new (o := .tup [V.str z, .int (y % 20)]) ht
        have tF : t ≠ F0 := fun q => by rw [q, ha] at ht; cases ht
        refine ⟨acc, eT _ _ ha, sz_lt (by omega), (e.trans eT).mut hF0, acc ++ [.ref t], sts ++ [(z, y % 20)], upd_same, ?_, by rw [List.length_append, ll] <;> rfl, fun r hr => ?_, fun r hr => ?_⟩
        · rw [del_upd, List.map_append]
          exact dps_app (dps_ex (ex_del eT) da) (dps_one (.tup (st_of (del_at tF upd_same)) (.cons (.str _) (.cons (.int _) .nil))))
        · rcases List.mem_append.mp hr with h | h
          · exact so r h
          · rw [List.mem_singleton.mp h]
            exact ⟨sS.subset (List.mem_of_getElem? hz), by show 0 ≤ y % 20; omega⟩
        · rcases List.mem_append.mp hr with h | h
          · exact si r h
          · rw [List.mem_singleton.mp h]
            exact List.mem_of_getElem? hz
      obtain ⟨e11, acc, sts, hF11, dF, ll, sok, si⟩ := z
      have NB := NA.ex e11
      have SB := SA.ex e11
      refine ⟨_, rfl, _, rfl, _, rfl, q, p, ks, D, wi, pl, li, pa, rows, prs, rfl, NB, SB, ok, fun H12 w us ws e12 _ hw dw wok _ _ => ?_⟩
      have eAC := e11.trans e12
      refine ⟨_, rfl, _, rfl, x, w, F0, D0, D, ws, sts, B.map fun z => (z, 0), us, acc, bb, rfl, ⟨hxA.ex eAC, ok, SqL.of hw, dw, wok, SqL.of (e12 _ _ hF11), dps_ex (Ex.trans del_ex e12) dF, sok, by omega, SqL.of (eAC _ _ hbA), dps_ex eAC dbA, (fun r hr => ?_), by rw [List.length_map]; omega⟩, fun o H13 us2 e13 _ ho du => ?_⟩
      · obtain ⟨z, hz, rfl⟩ := List.mem_map.mp hr
        exact sB.subset hz
      obtain ⟨as, rfl, pr⟩ := rows_pair du
      refine ⟨o, as, _, rfl, SqL.of ho, pr, fun d hd => ?_⟩
      have e14 := Ex.new (o := .dK (mergeK [] (rowKvs D.ps (FP.first (fireOf D ws sts (B.map fun z => (z, 0)) 0))))) hd
      have md : (upd H13 d (.dK (mergeK [] (rowKvs D.ps (FP.first (fireOf D ws sts (B.map fun z => (z, 0)) 0)))))) d = some (.dK (mergeK [] (rowKvs D.ps (FP.first (fireOf D ws sts (B.map fun z => (z, 0)) 0))))) := upd_same
      generalize upd H13 d (.dK (mergeK [] (rowKvs D.ps (FP.first (fireOf D ws sts (B.map fun z => (z, 0)) 0))))) = H14 at e14 md
      have gnone : ∀ z ∈ G, FP.first (fireOf D ws sts (B.map fun z => (z, 0)) 0) z = none := fun z hz => by
        cases q : FP.first (fireOf D ws sts (B.map fun z => (z, 0)) 0) z with
        | none => rfl
        | some t =>
          obtain ⟨n, d⟩ := rch_dr (reach_rch ok sok si (FP.first_some q).1)
          exact absurd d (no n z hz)
      have hgE := e14 _ _ (e13 _ _ (eAC _ _ hgA))
      refine ⟨_, rfl, g, rfl, ⟨_, SqL.of hgE⟩, fun D2 hD2 => lcY_list (K := K) (a := g) (xs := G.map V.str) (fun i H' => Ex H14 H' ∧ H' D2 = some (.lst ((List.replicate i true).map V.bl))) ⟨Ex.new hD2, upd_same⟩ (fun i H' _ z => SqL.of (z.1 _ _ hgE)) (fun i y H' hy z => ?_) (fun H15 z => ?_)⟩
      · obtain ⟨e, hm⟩ := z
        have hi := (List.getElem?_eq_some_iff.mp hy).1
        rw [List.length_map] at hi
        rw [List.getElem?_map] at hy
        obtain ⟨z, hz, rfl⟩ := Option.map_eq_some_iff.mp hy
        have hzG := List.mem_of_getElem? hz
        have gt : DGet H' d (.str z) (some .non) := by
          have g0 : DGet H' d (.str z) (valV (mergeK [] (rowKvs D.ps (FP.first (fireOf D ws sts (B.map fun z => (z, 0)) 0)))) (.inr z)) := DGet.k (k := Sum.inr z) (e _ _ md)
          rw [merge_rows, if_pos (sG.subset hzG), gnone z hzG] at g0
          exact g0
        refine ⟨rfl, _, rfl, _, rfl, d, _, rfl, gt, rfl, _, hm, sz_lt (by rw [List.length_map, List.length_replicate]; omega), e.mut hD2, ?_⟩
        rw [upd_same, List.replicate_succ', List.map_append]
        rfl
      obtain ⟨e15, hm⟩ := z
      refine ⟨D2, _, rfl, SqL.of hm, ?_⟩
      rw [show ((List.replicate (G.map V.str).length true).all id) = true by simp]
      exact k _
end
end EV

set_option Elab.async false
set_option linter.all false
set_option maxRecDepth 100000
set_option maxHeartbeats 4000000
namespace EV
open PySem PySem.Spec PyProof.Rows L2 EvS Evl
theorem all_mk {l : PySem.W.OpenLaw} {w : World} {K : PySem.W.Frag} {h : Heap} {mg : Str → Option Value} {fa C tl te pr D C_Question f_is_kept f__check_places f__passes f__keeps_all f_is_name f__check_count f__check_names f__check_ends f__as_bounds f__as_link f__as_path f__check_single_paths f_init f_link_names f_check_place f_check_wind f_check_winds f_check_rows f_spells_of f_ask te_ask f_ask_all te_ask_all f_least_minutes f_Question_init f_Question_is_ahead f_Question_through f_Question_catches f_Question_first_minutes f_least_numbers f_most_numbers f_fastest f_slowest f__rows_of f__law_row f__law_numbers f__law_parts f__law_weather f__law_names f__law_made f__law_some f__law_open f__law_one_way f__law_weather_for f__law_fourth f_law : Addr} (X : K.In h) (G : h.Ns mainGlobals mg) (hfa : mg "law" = some (.ref fa))
    {od_is_kept an_is_kept od__check_places an__check_places od__passes an__passes od__keeps_all an__keeps_all od_is_name an_is_name od__check_count an__check_count od__check_names an__check_names od__check_ends an__check_ends od__as_bounds an__as_bounds od__as_link an__as_link od__as_path an__as_path od__check_single_paths an__check_single_paths od_init an_init od_link_names an_link_names od_check_place an_check_place od_check_wind an_check_wind od_check_winds an_check_winds od_check_rows an_check_rows od_spells_of an_spells_of od_ask an_ask od_ask_all an_ask_all od_least_minutes an_least_minutes od_Question_init an_Question_init od_Question_is_ahead an_Question_is_ahead od_Question_through an_Question_through od_Question_catches an_Question_catches od_Question_first_minutes an_Question_first_minutes od_least_numbers an_least_numbers od_most_numbers an_most_numbers od_fastest an_fastest od_slowest an_slowest od__rows_of an__rows_of od__law_row an__law_row od__law_numbers an__law_numbers od__law_parts an__law_parts od__law_weather an__law_weather od__law_names an__law_names od__law_made an__law_made od__law_some an__law_some od__law_open an__law_open od__law_one_way an__law_one_way od__law_weather_for an__law_weather_for od__law_fourth an__law_fourth od_law an_law dd_tl dd_te : Option Addr} {sl_is_kept sl__check_places sl__passes sl__keeps_all sl_is_name sl__check_count sl__check_names sl__check_ends sl__as_bounds sl__as_link sl__as_path sl__check_single_paths sl_init sl_link_names sl_check_place sl_check_wind sl_check_winds sl_check_rows sl_spells_of sl_ask sl_ask_all sl_least_minutes sl_Question_init sl_Question_is_ahead sl_Question_through sl_Question_catches sl_Question_first_minutes sl_least_numbers sl_most_numbers sl_fastest sl_slowest sl__rows_of sl__law_row sl__law_numbers sl__law_parts sl__law_weather sl__law_names sl__law_made sl__law_some sl__law_open sl__law_one_way sl__law_weather_for sl__law_fourth sl_law sl_tl sl_te : Array (Option Value)} {oc_is_kept kV_is_kept dc_is_kept pm_is_kept cd_is_kept ct_is_kept oc__check_places kV__check_places dc__check_places pm__check_places cd__check_places ct__check_places oc__passes kV__passes dc__passes pm__passes cd__passes ct__passes oc__keeps_all kV__keeps_all dc__keeps_all pm__keeps_all cd__keeps_all ct__keeps_all oc_is_name kV_is_name dc_is_name pm_is_name cd_is_name ct_is_name oc__check_count kV__check_count dc__check_count pm__check_count cd__check_count ct__check_count oc__check_names kV__check_names dc__check_names pm__check_names cd__check_names ct__check_names oc__check_ends kV__check_ends dc__check_ends pm__check_ends cd__check_ends ct__check_ends oc__as_bounds kV__as_bounds dc__as_bounds pm__as_bounds cd__as_bounds ct__as_bounds oc__as_link kV__as_link dc__as_link pm__as_link cd__as_link ct__as_link oc__as_path kV__as_path dc__as_path pm__as_path cd__as_path ct__as_path oc__check_single_paths kV__check_single_paths dc__check_single_paths pm__check_single_paths cd__check_single_paths ct__check_single_paths oc_init dc_init pm_init cd_init ct_init oc_link_names kV_link_names dc_link_names pm_link_names cd_link_names ct_link_names oc_check_place kV_check_place dc_check_place pm_check_place cd_check_place ct_check_place oc_check_wind kV_check_wind dc_check_wind pm_check_wind cd_check_wind ct_check_wind oc_check_winds kV_check_winds dc_check_winds pm_check_winds cd_check_winds ct_check_winds oc_check_rows kV_check_rows dc_check_rows pm_check_rows cd_check_rows ct_check_rows oc_spells_of kV_spells_of dc_spells_of pm_spells_of cd_spells_of ct_spells_of oc_ask kV_ask dc_ask pm_ask cd_ask ct_ask oc_ask_all kV_ask_all dc_ask_all pm_ask_all cd_ask_all ct_ask_all oc_least_minutes kV_least_minutes dc_least_minutes pm_least_minutes cd_least_minutes ct_least_minutes oc_Question_init kV_Question_init dc_Question_init pm_Question_init cd_Question_init ct_Question_init oc_Question_is_ahead kV_Question_is_ahead dc_Question_is_ahead pm_Question_is_ahead cd_Question_is_ahead ct_Question_is_ahead oc_Question_through kV_Question_through dc_Question_through pm_Question_through cd_Question_through ct_Question_through oc_Question_catches kV_Question_catches dc_Question_catches pm_Question_catches cd_Question_catches ct_Question_catches oc_Question_first_minutes kV_Question_first_minutes dc_Question_first_minutes pm_Question_first_minutes cd_Question_first_minutes ct_Question_first_minutes oc_least_numbers kV_least_numbers dc_least_numbers pm_least_numbers cd_least_numbers ct_least_numbers oc_most_numbers kV_most_numbers dc_most_numbers pm_most_numbers cd_most_numbers ct_most_numbers oc_fastest kV_fastest dc_fastest pm_fastest cd_fastest ct_fastest oc_slowest kV_slowest dc_slowest pm_slowest cd_slowest ct_slowest oc__rows_of kV__rows_of dc__rows_of pm__rows_of cd__rows_of ct__rows_of oc__law_row kV__law_row dc__law_row pm__law_row cd__law_row ct__law_row oc__law_numbers kV__law_numbers dc__law_numbers pm__law_numbers cd__law_numbers ct__law_numbers oc__law_parts kV__law_parts dc__law_parts pm__law_parts cd__law_parts ct__law_parts oc__law_weather kV__law_weather dc__law_weather pm__law_weather cd__law_weather ct__law_weather oc__law_names kV__law_names dc__law_names pm__law_names cd__law_names ct__law_names oc__law_made kV__law_made dc__law_made pm__law_made cd__law_made ct__law_made oc__law_some kV__law_some dc__law_some pm__law_some cd__law_some ct__law_some oc__law_open kV__law_open dc__law_open pm__law_open cd__law_open ct__law_open oc__law_one_way kV__law_one_way dc__law_one_way pm__law_one_way cd__law_one_way ct__law_one_way oc__law_weather_for kV__law_weather_for dc__law_weather_for pm__law_weather_for cd__law_weather_for ct__law_weather_for oc__law_fourth kV__law_fourth dc__law_fourth pm__law_fourth cd__law_fourth ct__law_fourth oc_law kV_law dc_law pm_law cd_law ct_law : Value} {n_tl n_te : Nat} {rest_pr : List Value} {t_DIGITS t_LAST_CHANGE t_LETTERS t_LONGEST_NAME t_MOST_LINKS t_MOST_MINUTES t_MOST_PATHS t_MOST_PLACES t_MOST_ROWS t_MOST_WINDS : Tok} {dT_ask : Addr} {dda_ask ddb_ask : Option Addr} {sla_ask slb_ask : Array (Option Value)} {na_ask nb_ask : Nat} {dT_ask_all : Addr} {dda_ask_all ddb_ask_all : Option Addr} {sla_ask_all slb_ask_all : Array (Option Value)} {na_ask_all nb_ask_all : Nat}
    (aC : PySem.W.nsIn K mainGlobals "Land" = some (some (.ref C)))
    (aC_Question : PySem.W.nsIn K mainGlobals "Question" = some (some (.ref C_Question)))
    (pg_C_Question : PySem.W.plainGet K C_Question Str.empty = true)
    (hd_C_Question : PySem.W.hasDictIn K C_Question = true)
    (po_C_Question : PySem.W.plainOver K C_Question = true)
    (sa_C_Question : PySem.W.findIn K (.ref C_Question) "__setattr__" = some (some (.builtin "object.__setattr__")))
    (mk_C_Question : PySem.W.makesIn K C_Question = true)
    (kc_C_Question : PySem.W.keepIn K (.ref C_Question) = true)
    (na_Question_land : PySem.W.findIn K (.ref C_Question) "land" = some none)
    (na_Question_weather : PySem.W.findIn K (.ref C_Question) "weather" = some none)
    (na_Question_starts : PySem.W.findIn K (.ref C_Question) "starts" = some none)
    (na_Question_breaks : PySem.W.findIn K (.ref C_Question) "breaks" = some none)
    (na_Question_spells : PySem.W.findIn K (.ref C_Question) "spells" = some none)
    (na_Question_stops : PySem.W.findIn K (.ref C_Question) "stops" = some none)
    (na_Question_leaving : PySem.W.findIn K (.ref C_Question) "leaving" = some none)
    (a_is_kept : PySem.W.nsIn K mainGlobals "is_kept" = some (some (.ref f_is_kept)))
    (l_is_kept : K.lookup f_is_kept = some ⟨oc_is_kept, od_is_kept, .func (PySem.W.fnOf "is_kept" "is_kept" (defArgs s_is_kept) (defBody s_is_kept) (defScope s_is_kept) .none kV_is_kept dc_is_kept pm_is_kept an_is_kept cd_is_kept ct_is_kept), sl_is_kept⟩)
    (c_is_kept : PySem.W.codeIn K cd_is_kept "is_kept" = true)
    (k_is_kept : PySem.W.keepIn K (.ref f_is_kept) = true)
    (a__check_places : PySem.W.nsIn K mainGlobals "_check_places" = some (some (.ref f__check_places)))
    (l__check_places : K.lookup f__check_places = some ⟨oc__check_places, od__check_places, .func (PySem.W.fnOf "_check_places" "_check_places" (defArgs s__check_places) (defBody s__check_places) (defScope s__check_places) .none kV__check_places dc__check_places pm__check_places an__check_places cd__check_places ct__check_places), sl__check_places⟩)
    (c__check_places : PySem.W.codeIn K cd__check_places "_check_places" = true)
    (k__check_places : PySem.W.keepIn K (.ref f__check_places) = true)
    (a__passes : PySem.W.nsIn K mainGlobals "_passes" = some (some (.ref f__passes)))
    (l__passes : K.lookup f__passes = some ⟨oc__passes, od__passes, .func (PySem.W.fnOf "_passes" "_passes" (defArgs s__passes) (defBody s__passes) (defScope s__passes) .none kV__passes dc__passes pm__passes an__passes cd__passes ct__passes), sl__passes⟩)
    (c__passes : PySem.W.codeIn K cd__passes "_passes" = true)
    (k__passes : PySem.W.keepIn K (.ref f__passes) = true)
    (a__keeps_all : PySem.W.nsIn K mainGlobals "_keeps_all" = some (some (.ref f__keeps_all)))
    (l__keeps_all : K.lookup f__keeps_all = some ⟨oc__keeps_all, od__keeps_all, .func (PySem.W.fnOf "_keeps_all" "_keeps_all" (defArgs s__keeps_all) (defBody s__keeps_all) (defScope s__keeps_all) .none kV__keeps_all dc__keeps_all pm__keeps_all an__keeps_all cd__keeps_all ct__keeps_all), sl__keeps_all⟩)
    (c__keeps_all : PySem.W.codeIn K cd__keeps_all "_keeps_all" = true)
    (k__keeps_all : PySem.W.keepIn K (.ref f__keeps_all) = true)
    (a_is_name : PySem.W.nsIn K mainGlobals "is_name" = some (some (.ref f_is_name)))
    (l_is_name : K.lookup f_is_name = some ⟨oc_is_name, od_is_name, .func (PySem.W.fnOf "is_name" "is_name" (defArgs s_is_name) (defBody s_is_name) (defScope s_is_name) .none kV_is_name dc_is_name pm_is_name an_is_name cd_is_name ct_is_name), sl_is_name⟩)
    (c_is_name : PySem.W.codeIn K cd_is_name "is_name" = true)
    (k_is_name : PySem.W.keepIn K (.ref f_is_name) = true)
    (a__check_count : PySem.W.nsIn K mainGlobals "_check_count" = some (some (.ref f__check_count)))
    (l__check_count : K.lookup f__check_count = some ⟨oc__check_count, od__check_count, .func (PySem.W.fnOf "_check_count" "_check_count" (defArgs s__check_count) (defBody s__check_count) (defScope s__check_count) .none kV__check_count dc__check_count pm__check_count an__check_count cd__check_count ct__check_count), sl__check_count⟩)
    (c__check_count : PySem.W.codeIn K cd__check_count "_check_count" = true)
    (k__check_count : PySem.W.keepIn K (.ref f__check_count) = true)
    (a__check_names : PySem.W.nsIn K mainGlobals "_check_names" = some (some (.ref f__check_names)))
    (l__check_names : K.lookup f__check_names = some ⟨oc__check_names, od__check_names, .func (PySem.W.fnOf "_check_names" "_check_names" (defArgs s__check_names) (defBody s__check_names) (defScope s__check_names) .none kV__check_names dc__check_names pm__check_names an__check_names cd__check_names ct__check_names), sl__check_names⟩)
    (c__check_names : PySem.W.codeIn K cd__check_names "_check_names" = true)
    (k__check_names : PySem.W.keepIn K (.ref f__check_names) = true)
    (a__check_ends : PySem.W.nsIn K mainGlobals "_check_ends" = some (some (.ref f__check_ends)))
    (l__check_ends : K.lookup f__check_ends = some ⟨oc__check_ends, od__check_ends, .func (PySem.W.fnOf "_check_ends" "_check_ends" (defArgs s__check_ends) (defBody s__check_ends) (defScope s__check_ends) .none kV__check_ends dc__check_ends pm__check_ends an__check_ends cd__check_ends ct__check_ends), sl__check_ends⟩)
    (c__check_ends : PySem.W.codeIn K cd__check_ends "_check_ends" = true)
    (k__check_ends : PySem.W.keepIn K (.ref f__check_ends) = true)
    (a__as_bounds : PySem.W.nsIn K mainGlobals "_as_bounds" = some (some (.ref f__as_bounds)))
    (l__as_bounds : K.lookup f__as_bounds = some ⟨oc__as_bounds, od__as_bounds, .func (PySem.W.fnOf "_as_bounds" "_as_bounds" (defArgs s__as_bounds) (defBody s__as_bounds) (defScope s__as_bounds) .none kV__as_bounds dc__as_bounds pm__as_bounds an__as_bounds cd__as_bounds ct__as_bounds), sl__as_bounds⟩)
    (c__as_bounds : PySem.W.codeIn K cd__as_bounds "_as_bounds" = true)
    (k__as_bounds : PySem.W.keepIn K (.ref f__as_bounds) = true)
    (a__as_link : PySem.W.nsIn K mainGlobals "_as_link" = some (some (.ref f__as_link)))
    (l__as_link : K.lookup f__as_link = some ⟨oc__as_link, od__as_link, .func (PySem.W.fnOf "_as_link" "_as_link" (defArgs s__as_link) (defBody s__as_link) (defScope s__as_link) .none kV__as_link dc__as_link pm__as_link an__as_link cd__as_link ct__as_link), sl__as_link⟩)
    (c__as_link : PySem.W.codeIn K cd__as_link "_as_link" = true)
    (k__as_link : PySem.W.keepIn K (.ref f__as_link) = true)
    (a__as_path : PySem.W.nsIn K mainGlobals "_as_path" = some (some (.ref f__as_path)))
    (l__as_path : K.lookup f__as_path = some ⟨oc__as_path, od__as_path, .func (PySem.W.fnOf "_as_path" "_as_path" (defArgs s__as_path) (defBody s__as_path) (defScope s__as_path) .none kV__as_path dc__as_path pm__as_path an__as_path cd__as_path ct__as_path), sl__as_path⟩)
    (c__as_path : PySem.W.codeIn K cd__as_path "_as_path" = true)
    (k__as_path : PySem.W.keepIn K (.ref f__as_path) = true)
    (a__check_single_paths : PySem.W.nsIn K mainGlobals "_check_single_paths" = some (some (.ref f__check_single_paths)))
    (l__check_single_paths : K.lookup f__check_single_paths = some ⟨oc__check_single_paths, od__check_single_paths, .func (PySem.W.fnOf "_check_single_paths" "_check_single_paths" (defArgs s__check_single_paths) (defBody s__check_single_paths) (defScope s__check_single_paths) .none kV__check_single_paths dc__check_single_paths pm__check_single_paths an__check_single_paths cd__check_single_paths ct__check_single_paths), sl__check_single_paths⟩)
    (c__check_single_paths : PySem.W.codeIn K cd__check_single_paths "_check_single_paths" = true)
    (k__check_single_paths : PySem.W.keepIn K (.ref f__check_single_paths) = true)
    (a_init : PySem.W.findIn K (.ref C) "__init__" = some (some (.ref f_init)))
    (i_init : PySem.W.isFn K (.ref f_init) = true)
    (l_init : K.lookup f_init = some ⟨oc_init, od_init, .func (PySem.W.fnOf "__init__" "Land.__init__" (defArgs s_init) (defBody s_init) (defScope s_init) .none (.ref D) dc_init pm_init an_init cd_init ct_init), sl_init⟩)
    (c_init : PySem.W.codeIn K cd_init "Land.__init__" = true)
    (k_init : PySem.W.keepIn K (.ref f_init) = true)
    (tl1 : PySem.W.nsIn K D "links" = some (some (.ref tl)))
    (te1 : PySem.W.nsIn K D "paths" = some (some (.ref te)))
    (tl2 : K.lookup tl = some ⟨.type "tuple", dd_tl, .seq #[] n_tl, sl_tl⟩)
    (te2 : K.lookup te = some ⟨.type "tuple", dd_te, .seq #[] n_te, sl_te⟩)
    (pr1 : PySem.W.findIn K (.ref C) "link_names" = some (some (.ref pr)))
    (pr2 : PySem.W.specialIn K (.ref pr) "__get__" = some (some (.builtin "property.__get__")))
    (pr3 : PySem.W.takesIn K (.ref pr) = some true)
    (pr4 : PySem.W.recIn K pr "property" = some (.ref f_link_names :: rest_pr))
    (l_link_names : K.lookup f_link_names = some ⟨oc_link_names, od_link_names, .func (PySem.W.fnOf "link_names" "Land.link_names" (defArgs s_link_names) (defBody s_link_names) (defScope s_link_names) .none kV_link_names dc_link_names pm_link_names an_link_names cd_link_names ct_link_names), sl_link_names⟩)
    (c_link_names : PySem.W.codeIn K cd_link_names "Land.link_names" = true)
    (k_link_names : PySem.W.keepIn K (.ref f_link_names) = true)
    (a_check_place : PySem.W.findIn K (.ref C) "check_place" = some (some (.ref f_check_place)))
    (i_check_place : PySem.W.isFn K (.ref f_check_place) = true)
    (l_check_place : K.lookup f_check_place = some ⟨oc_check_place, od_check_place, .func (PySem.W.fnOf "check_place" "Land.check_place" (defArgs s_check_place) (defBody s_check_place) (defScope s_check_place) .none kV_check_place dc_check_place pm_check_place an_check_place cd_check_place ct_check_place), sl_check_place⟩)
    (c_check_place : PySem.W.codeIn K cd_check_place "Land.check_place" = true)
    (k_check_place : PySem.W.keepIn K (.ref f_check_place) = true)
    (a_check_wind : PySem.W.findIn K (.ref C) "check_wind" = some (some (.ref f_check_wind)))
    (i_check_wind : PySem.W.isFn K (.ref f_check_wind) = true)
    (l_check_wind : K.lookup f_check_wind = some ⟨oc_check_wind, od_check_wind, .func (PySem.W.fnOf "check_wind" "Land.check_wind" (defArgs s_check_wind) (defBody s_check_wind) (defScope s_check_wind) .none kV_check_wind dc_check_wind pm_check_wind an_check_wind cd_check_wind ct_check_wind), sl_check_wind⟩)
    (c_check_wind : PySem.W.codeIn K cd_check_wind "Land.check_wind" = true)
    (k_check_wind : PySem.W.keepIn K (.ref f_check_wind) = true)
    (a_check_winds : PySem.W.nsIn K mainGlobals "check_winds" = some (some (.ref f_check_winds)))
    (l_check_winds : K.lookup f_check_winds = some ⟨oc_check_winds, od_check_winds, .func (PySem.W.fnOf "check_winds" "check_winds" (defArgs s_check_winds) (defBody s_check_winds) (defScope s_check_winds) .none kV_check_winds dc_check_winds pm_check_winds an_check_winds cd_check_winds ct_check_winds), sl_check_winds⟩)
    (c_check_winds : PySem.W.codeIn K cd_check_winds "check_winds" = true)
    (k_check_winds : PySem.W.keepIn K (.ref f_check_winds) = true)
    (a_check_rows : PySem.W.nsIn K mainGlobals "check_rows" = some (some (.ref f_check_rows)))
    (l_check_rows : K.lookup f_check_rows = some ⟨oc_check_rows, od_check_rows, .func (PySem.W.fnOf "check_rows" "check_rows" (defArgs s_check_rows) (defBody s_check_rows) (defScope s_check_rows) .none kV_check_rows dc_check_rows pm_check_rows an_check_rows cd_check_rows ct_check_rows), sl_check_rows⟩)
    (c_check_rows : PySem.W.codeIn K cd_check_rows "check_rows" = true)
    (k_check_rows : PySem.W.keepIn K (.ref f_check_rows) = true)
    (a_spells_of : PySem.W.nsIn K mainGlobals "spells_of" = some (some (.ref f_spells_of)))
    (l_spells_of : K.lookup f_spells_of = some ⟨oc_spells_of, od_spells_of, .func (PySem.W.fnOf "spells_of" "spells_of" (defArgs s_spells_of) (defBody s_spells_of) (defScope s_spells_of) .none kV_spells_of dc_spells_of pm_spells_of an_spells_of cd_spells_of ct_spells_of), sl_spells_of⟩)
    (c_spells_of : PySem.W.codeIn K cd_spells_of "spells_of" = true)
    (k_spells_of : PySem.W.keepIn K (.ref f_spells_of) = true)
    (a_ask : PySem.W.nsIn K mainGlobals "ask" = some (some (.ref f_ask)))
    (l_ask : K.lookup f_ask = some ⟨oc_ask, od_ask, .func (PySem.W.fnOf "ask" "ask" (defArgs s_ask) (defBody s_ask) (defScope s_ask) (.ref dT_ask) kV_ask dc_ask pm_ask an_ask cd_ask ct_ask), sl_ask⟩)
    (dt1_ask : K.lookup dT_ask = some ⟨.type "tuple", dda_ask, .seq #[.ref te_ask] na_ask, sla_ask⟩)
    (dt2_ask : K.lookup te_ask = some ⟨.type "tuple", ddb_ask, .seq #[] nb_ask, slb_ask⟩)
    (c_ask : PySem.W.codeIn K cd_ask "ask" = true)
    (k_ask : PySem.W.keepIn K (.ref f_ask) = true)
    (a_ask_all : PySem.W.nsIn K mainGlobals "ask_all" = some (some (.ref f_ask_all)))
    (l_ask_all : K.lookup f_ask_all = some ⟨oc_ask_all, od_ask_all, .func (PySem.W.fnOf "ask_all" "ask_all" (defArgs s_ask_all) (defBody s_ask_all) (defScope s_ask_all) (.ref dT_ask_all) kV_ask_all dc_ask_all pm_ask_all an_ask_all cd_ask_all ct_ask_all), sl_ask_all⟩)
    (dt1_ask_all : K.lookup dT_ask_all = some ⟨.type "tuple", dda_ask_all, .seq #[.ref te_ask_all] na_ask_all, sla_ask_all⟩)
    (dt2_ask_all : K.lookup te_ask_all = some ⟨.type "tuple", ddb_ask_all, .seq #[] nb_ask_all, slb_ask_all⟩)
    (c_ask_all : PySem.W.codeIn K cd_ask_all "ask_all" = true)
    (k_ask_all : PySem.W.keepIn K (.ref f_ask_all) = true)
    (a_least_minutes : PySem.W.nsIn K mainGlobals "least_minutes" = some (some (.ref f_least_minutes)))
    (l_least_minutes : K.lookup f_least_minutes = some ⟨oc_least_minutes, od_least_minutes, .func (PySem.W.fnOf "least_minutes" "least_minutes" (defArgs s_least_minutes) (defBody s_least_minutes) (defScope s_least_minutes) .none kV_least_minutes dc_least_minutes pm_least_minutes an_least_minutes cd_least_minutes ct_least_minutes), sl_least_minutes⟩)
    (c_least_minutes : PySem.W.codeIn K cd_least_minutes "least_minutes" = true)
    (k_least_minutes : PySem.W.keepIn K (.ref f_least_minutes) = true)
    (a_Question_init : PySem.W.findIn K (.ref C_Question) "__init__" = some (some (.ref f_Question_init)))
    (i_Question_init : PySem.W.isFn K (.ref f_Question_init) = true)
    (l_Question_init : K.lookup f_Question_init = some ⟨oc_Question_init, od_Question_init, .func (PySem.W.fnOf "__init__" "Question.__init__" (defArgs s_Question_init) (defBody s_Question_init) (defScope s_Question_init) .none kV_Question_init dc_Question_init pm_Question_init an_Question_init cd_Question_init ct_Question_init), sl_Question_init⟩)
    (c_Question_init : PySem.W.codeIn K cd_Question_init "Question.__init__" = true)
    (k_Question_init : PySem.W.keepIn K (.ref f_Question_init) = true)
    (a_Question_is_ahead : PySem.W.findIn K (.ref C_Question) "is_ahead" = some (some (.ref f_Question_is_ahead)))
    (i_Question_is_ahead : PySem.W.isFn K (.ref f_Question_is_ahead) = true)
    (l_Question_is_ahead : K.lookup f_Question_is_ahead = some ⟨oc_Question_is_ahead, od_Question_is_ahead, .func (PySem.W.fnOf "is_ahead" "Question.is_ahead" (defArgs s_Question_is_ahead) (defBody s_Question_is_ahead) (defScope s_Question_is_ahead) .none kV_Question_is_ahead dc_Question_is_ahead pm_Question_is_ahead an_Question_is_ahead cd_Question_is_ahead ct_Question_is_ahead), sl_Question_is_ahead⟩)
    (c_Question_is_ahead : PySem.W.codeIn K cd_Question_is_ahead "Question.is_ahead" = true)
    (k_Question_is_ahead : PySem.W.keepIn K (.ref f_Question_is_ahead) = true)
    (a_Question_through : PySem.W.findIn K (.ref C_Question) "through" = some (some (.ref f_Question_through)))
    (i_Question_through : PySem.W.isFn K (.ref f_Question_through) = true)
    (l_Question_through : K.lookup f_Question_through = some ⟨oc_Question_through, od_Question_through, .func (PySem.W.fnOf "through" "Question.through" (defArgs s_Question_through) (defBody s_Question_through) (defScope s_Question_through) .none kV_Question_through dc_Question_through pm_Question_through an_Question_through cd_Question_through ct_Question_through), sl_Question_through⟩)
    (c_Question_through : PySem.W.codeIn K cd_Question_through "Question.through" = true)
    (k_Question_through : PySem.W.keepIn K (.ref f_Question_through) = true)
    (a_Question_catches : PySem.W.findIn K (.ref C_Question) "catches" = some (some (.ref f_Question_catches)))
    (i_Question_catches : PySem.W.isFn K (.ref f_Question_catches) = true)
    (l_Question_catches : K.lookup f_Question_catches = some ⟨oc_Question_catches, od_Question_catches, .func (PySem.W.fnOf "catches" "Question.catches" (defArgs s_Question_catches) (defBody s_Question_catches) (defScope s_Question_catches) .none kV_Question_catches dc_Question_catches pm_Question_catches an_Question_catches cd_Question_catches ct_Question_catches), sl_Question_catches⟩)
    (c_Question_catches : PySem.W.codeIn K cd_Question_catches "Question.catches" = true)
    (k_Question_catches : PySem.W.keepIn K (.ref f_Question_catches) = true)
    (a_Question_first_minutes : PySem.W.findIn K (.ref C_Question) "first_minutes" = some (some (.ref f_Question_first_minutes)))
    (i_Question_first_minutes : PySem.W.isFn K (.ref f_Question_first_minutes) = true)
    (l_Question_first_minutes : K.lookup f_Question_first_minutes = some ⟨oc_Question_first_minutes, od_Question_first_minutes, .func (PySem.W.fnOf "first_minutes" "Question.first_minutes" (defArgs s_Question_first_minutes) (defBody s_Question_first_minutes) (defScope s_Question_first_minutes) .none kV_Question_first_minutes dc_Question_first_minutes pm_Question_first_minutes an_Question_first_minutes cd_Question_first_minutes ct_Question_first_minutes), sl_Question_first_minutes⟩)
    (c_Question_first_minutes : PySem.W.codeIn K cd_Question_first_minutes "Question.first_minutes" = true)
    (k_Question_first_minutes : PySem.W.keepIn K (.ref f_Question_first_minutes) = true)
    (a_least_numbers : PySem.W.nsIn K mainGlobals "least_numbers" = some (some (.ref f_least_numbers)))
    (l_least_numbers : K.lookup f_least_numbers = some ⟨oc_least_numbers, od_least_numbers, .func (PySem.W.fnOf "least_numbers" "least_numbers" (defArgs s_least_numbers) (defBody s_least_numbers) (defScope s_least_numbers) .none kV_least_numbers dc_least_numbers pm_least_numbers an_least_numbers cd_least_numbers ct_least_numbers), sl_least_numbers⟩)
    (c_least_numbers : PySem.W.codeIn K cd_least_numbers "least_numbers" = true)
    (k_least_numbers : PySem.W.keepIn K (.ref f_least_numbers) = true)
    (a_most_numbers : PySem.W.nsIn K mainGlobals "most_numbers" = some (some (.ref f_most_numbers)))
    (l_most_numbers : K.lookup f_most_numbers = some ⟨oc_most_numbers, od_most_numbers, .func (PySem.W.fnOf "most_numbers" "most_numbers" (defArgs s_most_numbers) (defBody s_most_numbers) (defScope s_most_numbers) .none kV_most_numbers dc_most_numbers pm_most_numbers an_most_numbers cd_most_numbers ct_most_numbers), sl_most_numbers⟩)
    (c_most_numbers : PySem.W.codeIn K cd_most_numbers "most_numbers" = true)
    (k_most_numbers : PySem.W.keepIn K (.ref f_most_numbers) = true)
    (a_fastest : PySem.W.nsIn K mainGlobals "fastest" = some (some (.ref f_fastest)))
    (l_fastest : K.lookup f_fastest = some ⟨oc_fastest, od_fastest, .func (PySem.W.fnOf "fastest" "fastest" (defArgs s_fastest) (defBody s_fastest) (defScope s_fastest) .none kV_fastest dc_fastest pm_fastest an_fastest cd_fastest ct_fastest), sl_fastest⟩)
    (c_fastest : PySem.W.codeIn K cd_fastest "fastest" = true)
    (k_fastest : PySem.W.keepIn K (.ref f_fastest) = true)
    (a_slowest : PySem.W.nsIn K mainGlobals "slowest" = some (some (.ref f_slowest)))
    (l_slowest : K.lookup f_slowest = some ⟨oc_slowest, od_slowest, .func (PySem.W.fnOf "slowest" "slowest" (defArgs s_slowest) (defBody s_slowest) (defScope s_slowest) .none kV_slowest dc_slowest pm_slowest an_slowest cd_slowest ct_slowest), sl_slowest⟩)
    (c_slowest : PySem.W.codeIn K cd_slowest "slowest" = true)
    (k_slowest : PySem.W.keepIn K (.ref f_slowest) = true)
    (a__rows_of : PySem.W.nsIn K mainGlobals "_rows_of" = some (some (.ref f__rows_of)))
    (l__rows_of : K.lookup f__rows_of = some ⟨oc__rows_of, od__rows_of, .func (PySem.W.fnOf "_rows_of" "_rows_of" (defArgs s__rows_of) (defBody s__rows_of) (defScope s__rows_of) .none kV__rows_of dc__rows_of pm__rows_of an__rows_of cd__rows_of ct__rows_of), sl__rows_of⟩)
    (c__rows_of : PySem.W.codeIn K cd__rows_of "_rows_of" = true)
    (k__rows_of : PySem.W.keepIn K (.ref f__rows_of) = true)
    (a__law_row : PySem.W.nsIn K mainGlobals "_law_row" = some (some (.ref f__law_row)))
    (l__law_row : K.lookup f__law_row = some ⟨oc__law_row, od__law_row, .func (PySem.W.fnOf "_law_row" "_law_row" (defArgs s__law_row) (defBody s__law_row) (defScope s__law_row) .none kV__law_row dc__law_row pm__law_row an__law_row cd__law_row ct__law_row), sl__law_row⟩)
    (c__law_row : PySem.W.codeIn K cd__law_row "_law_row" = true)
    (k__law_row : PySem.W.keepIn K (.ref f__law_row) = true)
    (a__law_numbers : PySem.W.nsIn K mainGlobals "_law_numbers" = some (some (.ref f__law_numbers)))
    (l__law_numbers : K.lookup f__law_numbers = some ⟨oc__law_numbers, od__law_numbers, .func (PySem.W.fnOf "_law_numbers" "_law_numbers" (defArgs s__law_numbers) (defBody s__law_numbers) (defScope s__law_numbers) .none kV__law_numbers dc__law_numbers pm__law_numbers an__law_numbers cd__law_numbers ct__law_numbers), sl__law_numbers⟩)
    (c__law_numbers : PySem.W.codeIn K cd__law_numbers "_law_numbers" = true)
    (k__law_numbers : PySem.W.keepIn K (.ref f__law_numbers) = true)
    (a__law_parts : PySem.W.nsIn K mainGlobals "_law_parts" = some (some (.ref f__law_parts)))
    (l__law_parts : K.lookup f__law_parts = some ⟨oc__law_parts, od__law_parts, .func (PySem.W.fnOf "_law_parts" "_law_parts" (defArgs s__law_parts) (defBody s__law_parts) (defScope s__law_parts) .none kV__law_parts dc__law_parts pm__law_parts an__law_parts cd__law_parts ct__law_parts), sl__law_parts⟩)
    (c__law_parts : PySem.W.codeIn K cd__law_parts "_law_parts" = true)
    (k__law_parts : PySem.W.keepIn K (.ref f__law_parts) = true)
    (a__law_weather : PySem.W.nsIn K mainGlobals "_law_weather" = some (some (.ref f__law_weather)))
    (l__law_weather : K.lookup f__law_weather = some ⟨oc__law_weather, od__law_weather, .func (PySem.W.fnOf "_law_weather" "_law_weather" (defArgs s__law_weather) (defBody s__law_weather) (defScope s__law_weather) .none kV__law_weather dc__law_weather pm__law_weather an__law_weather cd__law_weather ct__law_weather), sl__law_weather⟩)
    (c__law_weather : PySem.W.codeIn K cd__law_weather "_law_weather" = true)
    (k__law_weather : PySem.W.keepIn K (.ref f__law_weather) = true)
    (a__law_names : PySem.W.nsIn K mainGlobals "_law_names" = some (some (.ref f__law_names)))
    (l__law_names : K.lookup f__law_names = some ⟨oc__law_names, od__law_names, .func (PySem.W.fnOf "_law_names" "_law_names" (defArgs s__law_names) (defBody s__law_names) (defScope s__law_names) .none kV__law_names dc__law_names pm__law_names an__law_names cd__law_names ct__law_names), sl__law_names⟩)
    (c__law_names : PySem.W.codeIn K cd__law_names "_law_names" = true)
    (k__law_names : PySem.W.keepIn K (.ref f__law_names) = true)
    (a__law_made : PySem.W.nsIn K mainGlobals "_law_made" = some (some (.ref f__law_made)))
    (l__law_made : K.lookup f__law_made = some ⟨oc__law_made, od__law_made, .func (PySem.W.fnOf "_law_made" "_law_made" (defArgs s__law_made) (defBody s__law_made) (defScope s__law_made) .none kV__law_made dc__law_made pm__law_made an__law_made cd__law_made ct__law_made), sl__law_made⟩)
    (c__law_made : PySem.W.codeIn K cd__law_made "_law_made" = true)
    (k__law_made : PySem.W.keepIn K (.ref f__law_made) = true)
    (a__law_some : PySem.W.nsIn K mainGlobals "_law_some" = some (some (.ref f__law_some)))
    (l__law_some : K.lookup f__law_some = some ⟨oc__law_some, od__law_some, .func (PySem.W.fnOf "_law_some" "_law_some" (defArgs s__law_some) (defBody s__law_some) (defScope s__law_some) .none kV__law_some dc__law_some pm__law_some an__law_some cd__law_some ct__law_some), sl__law_some⟩)
    (c__law_some : PySem.W.codeIn K cd__law_some "_law_some" = true)
    (k__law_some : PySem.W.keepIn K (.ref f__law_some) = true)
    (a__law_open : PySem.W.nsIn K mainGlobals "_law_open" = some (some (.ref f__law_open)))
    (l__law_open : K.lookup f__law_open = some ⟨oc__law_open, od__law_open, .func (PySem.W.fnOf "_law_open" "_law_open" (defArgs s__law_open) (defBody s__law_open) (defScope s__law_open) .none kV__law_open dc__law_open pm__law_open an__law_open cd__law_open ct__law_open), sl__law_open⟩)
    (c__law_open : PySem.W.codeIn K cd__law_open "_law_open" = true)
    (k__law_open : PySem.W.keepIn K (.ref f__law_open) = true)
    (a__law_one_way : PySem.W.nsIn K mainGlobals "_law_one_way" = some (some (.ref f__law_one_way)))
    (l__law_one_way : K.lookup f__law_one_way = some ⟨oc__law_one_way, od__law_one_way, .func (PySem.W.fnOf "_law_one_way" "_law_one_way" (defArgs s__law_one_way) (defBody s__law_one_way) (defScope s__law_one_way) .none kV__law_one_way dc__law_one_way pm__law_one_way an__law_one_way cd__law_one_way ct__law_one_way), sl__law_one_way⟩)
    (c__law_one_way : PySem.W.codeIn K cd__law_one_way "_law_one_way" = true)
    (k__law_one_way : PySem.W.keepIn K (.ref f__law_one_way) = true)
    (a__law_weather_for : PySem.W.nsIn K mainGlobals "_law_weather_for" = some (some (.ref f__law_weather_for)))
    (l__law_weather_for : K.lookup f__law_weather_for = some ⟨oc__law_weather_for, od__law_weather_for, .func (PySem.W.fnOf "_law_weather_for" "_law_weather_for" (defArgs s__law_weather_for) (defBody s__law_weather_for) (defScope s__law_weather_for) .none kV__law_weather_for dc__law_weather_for pm__law_weather_for an__law_weather_for cd__law_weather_for ct__law_weather_for), sl__law_weather_for⟩)
    (c__law_weather_for : PySem.W.codeIn K cd__law_weather_for "_law_weather_for" = true)
    (k__law_weather_for : PySem.W.keepIn K (.ref f__law_weather_for) = true)
    (a__law_fourth : PySem.W.nsIn K mainGlobals "_law_fourth" = some (some (.ref f__law_fourth)))
    (l__law_fourth : K.lookup f__law_fourth = some ⟨oc__law_fourth, od__law_fourth, .func (PySem.W.fnOf "_law_fourth" "_law_fourth" (defArgs s__law_fourth) (defBody s__law_fourth) (defScope s__law_fourth) .none kV__law_fourth dc__law_fourth pm__law_fourth an__law_fourth cd__law_fourth ct__law_fourth), sl__law_fourth⟩)
    (c__law_fourth : PySem.W.codeIn K cd__law_fourth "_law_fourth" = true)
    (k__law_fourth : PySem.W.keepIn K (.ref f__law_fourth) = true)
    (a_law : PySem.W.nsIn K mainGlobals "law" = some (some (.ref f_law)))
    (l_law : K.lookup f_law = some ⟨oc_law, od_law, .func (PySem.W.fnOf "law" "law" (defArgs s_law) (defBody s_law) (defScope s_law) .none kV_law dc_law pm_law an_law cd_law ct_law), sl_law⟩)
    (c_law : PySem.W.codeIn K cd_law "law" = true)
    (k_law : PySem.W.keepIn K (.ref f_law) = true)
    (gh_heapify : PySem.W.nsIn K mainGlobals "heapify" = some (some (.builtin "_heapq.heapify")))
    (gh_heappush : PySem.W.nsIn K mainGlobals "heappush" = some (some (.builtin "_heapq.heappush")))
    (gh_heappop : PySem.W.nsIn K mainGlobals "heappop" = some (some (.builtin "_heapq.heappop")))
    (z_abs : PySem.W.nsIn K mainGlobals "abs" = some none)
    (z_all : PySem.W.nsIn K mainGlobals "all" = some none)
    (z_any : PySem.W.nsIn K mainGlobals "any" = some none)
    (z_dict : PySem.W.nsIn K mainGlobals "dict" = some none)
    (z_enumerate : PySem.W.nsIn K mainGlobals "enumerate" = some none)
    (z_int : PySem.W.nsIn K mainGlobals "int" = some none)
    (z_len : PySem.W.nsIn K mainGlobals "len" = some none)
    (z_list : PySem.W.nsIn K mainGlobals "list" = some none)
    (z_max : PySem.W.nsIn K mainGlobals "max" = some none)
    (z_min : PySem.W.nsIn K mainGlobals "min" = some none)
    (z_range : PySem.W.nsIn K mainGlobals "range" = some none)
    (z_set : PySem.W.nsIn K mainGlobals "set" = some none)
    (z_sorted : PySem.W.nsIn K mainGlobals "sorted" = some none)
    (z_tuple : PySem.W.nsIn K mainGlobals "tuple" = some none)
    (z_zip : PySem.W.nsIn K mainGlobals "zip" = some none)
    (g_DIGITS : PySem.W.nsIn K mainGlobals "DIGITS" = some (some (.str "0123456789" t_DIGITS)))
    (g_LAST_CHANGE : PySem.W.nsIn K mainGlobals "LAST_CHANGE" = some (some (.int 100000 t_LAST_CHANGE)))
    (g_LETTERS : PySem.W.nsIn K mainGlobals "LETTERS" = some (some (.str "abcdefghijklmnopqrstuvwxyz" t_LETTERS)))
    (g_LONGEST_NAME : PySem.W.nsIn K mainGlobals "LONGEST_NAME" = some (some (.int 12 t_LONGEST_NAME)))
    (g_MOST_LINKS : PySem.W.nsIn K mainGlobals "MOST_LINKS" = some (some (.int 60 t_MOST_LINKS)))
    (g_MOST_MINUTES : PySem.W.nsIn K mainGlobals "MOST_MINUTES" = some (some (.int 1000 t_MOST_MINUTES)))
    (g_MOST_PATHS : PySem.W.nsIn K mainGlobals "MOST_PATHS" = some (some (.int 60 t_MOST_PATHS)))
    (g_MOST_PLACES : PySem.W.nsIn K mainGlobals "MOST_PLACES" = some (some (.int 24 t_MOST_PLACES)))
    (g_MOST_ROWS : PySem.W.nsIn K mainGlobals "MOST_ROWS" = some (some (.int 40 t_MOST_ROWS)))
    (g_MOST_WINDS : PySem.W.nsIn K mainGlobals "MOST_WINDS" = some (some (.int 4 t_MOST_WINDS)))
    (pg : PySem.W.plainGet K C Str.empty = true)
    (hd : PySem.W.hasDictIn K C = true)
    (po : PySem.W.plainOver K C = true)
    (sa : PySem.W.findIn K (.ref C) "__setattr__" = some (some (.builtin "object.__setattr__")))
    (mk : PySem.W.makesIn K C = true)
    (kc : PySem.W.keepIn K (.ref C) = true)
    (nW : PySem.W.findIn K (.ref C) "winds" = some none)
    (nP : PySem.W.findIn K (.ref C) "places" = some none)
    (nL : PySem.W.findIn K (.ref C) "links" = some none)
    (nA : PySem.W.findIn K (.ref C) "paths" = some none)
    : ∃ fd : FuncData, (∀ (s : Shared) (v : Value), BindsTo s fd ⟨[v], []⟩ [("script", v)]) ∧ ∀ base : Heap, K.In base → base.Ns mainGlobals mg → FnOk l.prog w K mg base CX0 8 fa fd ["script"] (spLaw K) := by
  have e := hfa.symm.trans (PySem.W.mg_of X G a_law)
  cases e
  have F_is_kept := fun_mk (st := s_is_kept) l_is_kept c_is_kept k_is_kept
  have B_is_kept := F_is_kept.binds (ps := ["land", "starts", "goals", "places"]) fun _ _ _ _ _ _ us hl => match us, hl with | [_, _, _, _], _ => rfl
  have F__check_places := fun_mk (st := s__check_places) l__check_places c__check_places k__check_places
  have B__check_places := F__check_places.binds (ps := ["land", "places"]) fun _ _ _ _ _ _ us hl => match us, hl with | [_, _], _ => rfl
  have F__passes := fun_mk (st := s__passes) l__passes c__passes k__passes
  have B__passes := F__passes.binds (ps := ["land"]) fun _ _ _ _ _ _ us hl => match us, hl with | [_], _ => rfl
  have F__keeps_all := fun_mk (st := s__keeps_all) l__keeps_all c__keeps_all k__keeps_all
  have B__keeps_all := F__keeps_all.binds (ps := ["land", "starts", "goals", "broken"]) fun _ _ _ _ _ _ us hl => match us, hl with | [_, _, _, _], _ => rfl
  have F_is_name := fun_mk (st := s_is_name) l_is_name c_is_name k_is_name
  have B_is_name := F_is_name.binds (ps := ["text"]) fun _ _ _ _ _ _ us hl => match us, hl with | [_], _ => rfl
  have F__check_count := fun_mk (st := s__check_count) l__check_count c__check_count k__check_count
  have B__check_count := F__check_count.binds (ps := ["sort", "rows", "least", "most"]) fun _ _ _ _ _ _ us hl => match us, hl with | [_, _, _, _], _ => rfl
  have F__check_names := fun_mk (st := s__check_names) l__check_names c__check_names k__check_names
  have B__check_names := F__check_names.binds (ps := ["sort", "names"]) fun _ _ _ _ _ _ us hl => match us, hl with | [_, _], _ => rfl
  have F__check_ends := fun_mk (st := s__check_ends) l__check_ends c__check_ends k__check_ends
  have B__check_ends := F__check_ends.binds (ps := ["sort", "one", "other", "places"]) fun _ _ _ _ _ _ us hl => match us, hl with | [_, _, _, _], _ => rfl
  have F__as_bounds := fun_mk (st := s__as_bounds) l__as_bounds c__as_bounds k__as_bounds
  have B__as_bounds := F__as_bounds.binds (ps := ["bounds"]) fun _ _ _ _ _ _ us hl => match us, hl with | [_], _ => rfl
  have F__as_link := fun_mk (st := s__as_link) l__as_link c__as_link k__as_link
  have B__as_link := F__as_link.binds (ps := ["link", "winds", "places"]) fun _ _ _ _ _ _ us hl => match us, hl with | [_, _, _], _ => rfl
  have F__as_path := fun_mk (st := s__as_path) l__as_path c__as_path k__as_path
  have B__as_path := F__as_path.binds (ps := ["path", "places"]) fun _ _ _ _ _ _ us hl => match us, hl with | [_, _], _ => rfl
  have F__check_single_paths := fun_mk (st := s__check_single_paths) l__check_single_paths c__check_single_paths k__check_single_paths
  have B__check_single_paths := F__check_single_paths.binds (ps := ["paths"]) fun _ _ _ _ _ _ us hl => match us, hl with | [_], _ => rfl
  have F_init : FunD K "__init__" "Land.__init__" (defArgs s_init) (defBody s_init) (defScope s_init) [] [("links", .ref tl), ("paths", .ref te)] f_init _ := ⟨⟨_, _, _, _, _, _, _, _, _, _, rfl, l_init, c_init, .inl ⟨rfl, rfl⟩, .inr ⟨D, rfl, fun q hq => by
    rcases List.mem_cons.mp hq with z | z
    · rw [z]; exact ⟨_, tl1, rfl⟩
    · rw [List.mem_singleton.mp z]; exact ⟨_, te1, rfl⟩⟩⟩, k_init⟩
  have F_link_names := fun_mk (st := s_link_names) l_link_names c_link_names k_link_names
  have B_link_names := F_link_names.binds (ps := ["self"]) fun _ _ _ _ _ _ us hl => match us, hl with | [_], _ => rfl
  have F_check_place := fun_mk (st := s_check_place) l_check_place c_check_place k_check_place
  have B_check_place := F_check_place.binds (ps := ["self", "place"]) fun _ _ _ _ _ _ us hl => match us, hl with | [_, _], _ => rfl
  have F_check_wind := fun_mk (st := s_check_wind) l_check_wind c_check_wind k_check_wind
  have B_check_wind := F_check_wind.binds (ps := ["self", "wind"]) fun _ _ _ _ _ _ us hl => match us, hl with | [_, _], _ => rfl
  have F_check_winds := fun_mk (st := s_check_winds) l_check_winds c_check_winds k_check_winds
  have B_check_winds := F_check_winds.binds (ps := ["land", "weather"]) fun _ _ _ _ _ _ us hl => match us, hl with | [_, _], _ => rfl
  have F_check_rows := fun_mk (st := s_check_rows) l_check_rows c_check_rows k_check_rows
  have B_check_rows := F_check_rows.binds (ps := ["weather"]) fun _ _ _ _ _ _ us hl => match us, hl with | [_], _ => rfl
  have F_spells_of := fun_mk (st := s_spells_of) l_spells_of c_spells_of k_spells_of
  have B_spells_of := F_spells_of.binds (ps := ["land", "weather"]) fun _ _ _ _ _ _ us hl => match us, hl with | [_, _], _ => rfl
  have F_ask : FunD K "ask" "ask" (defArgs s_ask) (defBody s_ask) (defScope s_ask) [.ref te_ask] [] f_ask _ := ⟨⟨_, _, _, _, _, _, _, _, _, _, rfl, l_ask, c_ask, .inr ⟨by simp, dT_ask, _, [.ref te_ask], _, rfl, dt1_ask, rfl, .cons rfl .nil⟩, .inl rfl⟩, k_ask⟩
  obtain ⟨dsB_ask, hvB_ask, B_ask⟩ := F_ask.binds1 (ps := ["land", "weather", "starts", "breaks", "places"]) 5 1 (by simp) rfl fun T kV doc pm an cdv ct us its hu hi => match us, its, hu, hi with | [_, _, _, _, _], [_], _, _ => ⟨_, rfl, rfl⟩
  cases hvB_ask
  obtain ⟨dsB1_ask, hvB1_ask, B1_ask⟩ := F_ask.binds1 (ps := ["land", "weather", "starts", "breaks", "places"]) 4 0 (by simp) rfl fun T kV doc pm an cdv ct us its hu hi => match us, its, hu, hi with | [_, _, _, _], [_], _, _ => ⟨_, rfl, rfl⟩
  cases hvB1_ask with
  | cons r1 r2 =>
  cases r2
  cases r1
  have F_ask_all : FunD K "ask_all" "ask_all" (defArgs s_ask_all) (defBody s_ask_all) (defScope s_ask_all) [.ref te_ask_all] [] f_ask_all _ := ⟨⟨_, _, _, _, _, _, _, _, _, _, rfl, l_ask_all, c_ask_all, .inr ⟨by simp, dT_ask_all, _, [.ref te_ask_all], _, rfl, dt1_ask_all, rfl, .cons rfl .nil⟩, .inl rfl⟩, k_ask_all⟩
  obtain ⟨dsB_ask_all, hvB_ask_all, B_ask_all⟩ := F_ask_all.binds1 (ps := ["land", "weathers", "starts", "breaks", "places"]) 5 1 (by simp) rfl fun T kV doc pm an cdv ct us its hu hi => match us, its, hu, hi with | [_, _, _, _, _], [_], _, _ => ⟨_, rfl, rfl⟩
  cases hvB_ask_all
  obtain ⟨dsB1_ask_all, hvB1_ask_all, B1_ask_all⟩ := F_ask_all.binds1 (ps := ["land", "weathers", "starts", "breaks", "places"]) 4 0 (by simp) rfl fun T kV doc pm an cdv ct us its hu hi => match us, its, hu, hi with | [_, _, _, _], [_], _, _ => ⟨_, rfl, rfl⟩
  cases hvB1_ask_all with
  | cons r1 r2 =>
  cases r2
  cases r1
  have F_least_minutes := fun_mk (st := s_least_minutes) l_least_minutes c_least_minutes k_least_minutes
  have B_least_minutes := F_least_minutes.binds (ps := ["rows"]) fun _ _ _ _ _ _ us hl => match us, hl with | [_], _ => rfl
  have F_Question_init := fun_mk (st := s_Question_init) l_Question_init c_Question_init k_Question_init
  have B_Question_init := F_Question_init.binds (ps := ["self", "land", "weather", "starts", "breaks"]) fun _ _ _ _ _ _ us hl => match us, hl with | [_, _, _, _, _], _ => rfl
  have F_Question_is_ahead := fun_mk (st := s_Question_is_ahead) l_Question_is_ahead c_Question_is_ahead k_Question_is_ahead
  have B_Question_is_ahead := F_Question_is_ahead.binds (ps := ["self", "minute", "place"]) fun _ _ _ _ _ _ us hl => match us, hl with | [_, _, _], _ => rfl
  have F_Question_through := fun_mk (st := s_Question_through) l_Question_through c_Question_through k_Question_through
  have B_Question_through := F_Question_through.binds (ps := ["self", "row", "minute"]) fun _ _ _ _ _ _ us hl => match us, hl with | [_, _, _], _ => rfl
  have F_Question_catches := fun_mk (st := s_Question_catches) l_Question_catches c_Question_catches k_Question_catches
  have B_Question_catches := F_Question_catches.binds (ps := ["self", "numbers"]) fun _ _ _ _ _ _ us hl => match us, hl with | [_, _], _ => rfl
  have F_Question_first_minutes := fun_mk (st := s_Question_first_minutes) l_Question_first_minutes c_Question_first_minutes k_Question_first_minutes
  have B_Question_first_minutes := F_Question_first_minutes.binds (ps := ["self", "numbers"]) fun _ _ _ _ _ _ us hl => match us, hl with | [_, _], _ => rfl
  have F_least_numbers := fun_mk (st := s_least_numbers) l_least_numbers c_least_numbers k_least_numbers
  have B_least_numbers := F_least_numbers.binds (ps := ["land"]) fun _ _ _ _ _ _ us hl => match us, hl with | [_], _ => rfl
  have F_most_numbers := fun_mk (st := s_most_numbers) l_most_numbers c_most_numbers k_most_numbers
  have B_most_numbers := F_most_numbers.binds (ps := ["land"]) fun _ _ _ _ _ _ us hl => match us, hl with | [_], _ => rfl
  have F_fastest := fun_mk (st := s_fastest) l_fastest c_fastest k_fastest
  have B_fastest := F_fastest.binds (ps := ["land", "weather", "starts", "breaks"]) fun _ _ _ _ _ _ us hl => match us, hl with | [_, _, _, _], _ => rfl
  have F_slowest := fun_mk (st := s_slowest) l_slowest c_slowest k_slowest
  have B_slowest := F_slowest.binds (ps := ["land", "weather", "starts", "breaks"]) fun _ _ _ _ _ _ us hl => match us, hl with | [_, _, _, _], _ => rfl
  have F__rows_of := fun_mk (st := s__rows_of) l__rows_of c__rows_of k__rows_of
  have B__rows_of := F__rows_of.binds (ps := ["question", "numbers"]) fun _ _ _ _ _ _ us hl => match us, hl with | [_, _], _ => rfl
  have F__law_row := fun_mk (st := s__law_row) l__law_row c__law_row k__law_row
  have B__law_row := F__law_row.binds (ps := ["cell", "many"]) fun _ _ _ _ _ _ us hl => match us, hl with | [_, _], _ => rfl
  have F__law_numbers := fun_mk (st := s__law_numbers) l__law_numbers c__law_numbers k__law_numbers
  have B__law_numbers := F__law_numbers.binds (ps := ["script", "many"]) fun _ _ _ _ _ _ us hl => match us, hl with | [_, _], _ => rfl
  have F__law_parts := fun_mk (st := s__law_parts) l__law_parts c__law_parts k__law_parts
  have B__law_parts := F__law_parts.binds (ps := ["numbers", "at"]) fun _ _ _ _ _ _ us hl => match us, hl with | [_, _], _ => rfl
  have F__law_weather := fun_mk (st := s__law_weather) l__law_weather c__law_weather k__law_weather
  have B__law_weather := F__law_weather.binds (ps := ["numbers", "at", "parts"]) fun _ _ _ _ _ _ us hl => match us, hl with | [_, _, _], _ => rfl
  have F__law_names := fun_mk (st := s__law_names) l__law_names c__law_names k__law_names
  have B__law_names := F__law_names.binds (ps := ["number", "many"]) fun _ _ _ _ _ _ us hl => match us, hl with | [_, _], _ => rfl
  have F__law_made := fun_mk (st := s__law_made) l__law_made c__law_made k__law_made
  have B__law_made := F__law_made.binds (ps := ["parts"]) fun _ _ _ _ _ _ us hl => match us, hl with | [_], _ => rfl
  have F__law_some := fun_mk (st := s__law_some) l__law_some c__law_some k__law_some
  have B__law_some := F__law_some.binds (ps := ["numbers", "at", "parts", "step"]) fun _ _ _ _ _ _ us hl => match us, hl with | [_, _, _, _], _ => rfl
  have F__law_open := fun_mk (st := s__law_open) l__law_open c__law_open k__law_open
  have B__law_open := F__law_open.binds (ps := ["parts"]) fun _ _ _ _ _ _ us hl => match us, hl with | [_], _ => rfl
  have F__law_one_way := fun_mk (st := s__law_one_way) l__law_one_way c__law_one_way k__law_one_way
  have B__law_one_way := F__law_one_way.binds (ps := ["parts", "starts", "goals", "places"]) fun _ _ _ _ _ _ us hl => match us, hl with | [_, _, _, _], _ => rfl
  have F__law_weather_for := fun_mk (st := s__law_weather_for) l__law_weather_for c__law_weather_for k__law_weather_for
  have B__law_weather_for := F__law_weather_for.binds (ps := ["parts", "way"]) fun _ _ _ _ _ _ us hl => match us, hl with | [_, _], _ => rfl
  have F__law_fourth := fun_mk (st := s__law_fourth) l__law_fourth c__law_fourth k__law_fourth
  have B__law_fourth := F__law_fourth.binds (ps := ["parts", "numbers", "at"]) fun _ _ _ _ _ _ us hl => match us, hl with | [_, _, _], _ => rfl
  have F_law := fun_mk (st := s_law) l_law c_law k_law
  have B_law := F_law.binds (ps := ["script"]) fun _ _ _ _ _ _ us hl => match us, hl with | [_], _ => rfl
  have T : Txt K mg { C := C, tl := tl, te := te, pr := pr, C_Question := C_Question, f_is_kept := f_is_kept, d_is_kept := _, f__check_places := f__check_places, d__check_places := _, f__passes := f__passes, d__passes := _, f__keeps_all := f__keeps_all, d__keeps_all := _, f_is_name := f_is_name, d_is_name := _, f__check_count := f__check_count, d__check_count := _, f__check_names := f__check_names, d__check_names := _, f__check_ends := f__check_ends, d__check_ends := _, f__as_bounds := f__as_bounds, d__as_bounds := _, f__as_link := f__as_link, d__as_link := _, f__as_path := f__as_path, d__as_path := _, f__check_single_paths := f__check_single_paths, d__check_single_paths := _, f_init := f_init, d_init := _, f_link_names := f_link_names, d_link_names := _, f_check_place := f_check_place, d_check_place := _, f_check_wind := f_check_wind, d_check_wind := _, f_check_winds := f_check_winds, d_check_winds := _, f_check_rows := f_check_rows, d_check_rows := _, f_spells_of := f_spells_of, d_spells_of := _, f_ask := f_ask, d_ask := _, te_ask := te_ask, f_ask_all := f_ask_all, d_ask_all := _, te_ask_all := te_ask_all, f_least_minutes := f_least_minutes, d_least_minutes := _, f_Question_init := f_Question_init, d_Question_init := _, f_Question_is_ahead := f_Question_is_ahead, d_Question_is_ahead := _, f_Question_through := f_Question_through, d_Question_through := _, f_Question_catches := f_Question_catches, d_Question_catches := _, f_Question_first_minutes := f_Question_first_minutes, d_Question_first_minutes := _, f_least_numbers := f_least_numbers, d_least_numbers := _, f_most_numbers := f_most_numbers, d_most_numbers := _, f_fastest := f_fastest, d_fastest := _, f_slowest := f_slowest, d_slowest := _, f__rows_of := f__rows_of, d__rows_of := _, f__law_row := f__law_row, d__law_row := _, f__law_numbers := f__law_numbers, d__law_numbers := _, f__law_parts := f__law_parts, d__law_parts := _, f__law_weather := f__law_weather, d__law_weather := _, f__law_names := f__law_names, d__law_names := _, f__law_made := f__law_made, d__law_made := _, f__law_some := f__law_some, d__law_some := _, f__law_open := f__law_open, d__law_open := _, f__law_one_way := f__law_one_way, d__law_one_way := _, f__law_weather_for := f__law_weather_for, d__law_weather_for := _, f__law_fourth := f__law_fourth, d__law_fourth := _, f_law := fa, d_law := _ } := {
    F_is_kept := F_is_kept
    B_is_kept := B_is_kept
    k_is_kept := k_is_kept
    g_is_kept := PySem.W.mg_of X G a_is_kept
    F__check_places := F__check_places
    B__check_places := B__check_places
    k__check_places := k__check_places
    g__check_places := PySem.W.mg_of X G a__check_places
    F__passes := F__passes
    B__passes := B__passes
    k__passes := k__passes
    g__passes := PySem.W.mg_of X G a__passes
    F__keeps_all := F__keeps_all
    B__keeps_all := B__keeps_all
    k__keeps_all := k__keeps_all
    g__keeps_all := PySem.W.mg_of X G a__keeps_all
    F_is_name := F_is_name
    B_is_name := B_is_name
    k_is_name := k_is_name
    g_is_name := PySem.W.mg_of X G a_is_name
    F__check_count := F__check_count
    B__check_count := B__check_count
    k__check_count := k__check_count
    g__check_count := PySem.W.mg_of X G a__check_count
    F__check_names := F__check_names
    B__check_names := B__check_names
    k__check_names := k__check_names
    g__check_names := PySem.W.mg_of X G a__check_names
    F__check_ends := F__check_ends
    B__check_ends := B__check_ends
    k__check_ends := k__check_ends
    g__check_ends := PySem.W.mg_of X G a__check_ends
    F__as_bounds := F__as_bounds
    B__as_bounds := B__as_bounds
    k__as_bounds := k__as_bounds
    g__as_bounds := PySem.W.mg_of X G a__as_bounds
    F__as_link := F__as_link
    B__as_link := B__as_link
    k__as_link := k__as_link
    g__as_link := PySem.W.mg_of X G a__as_link
    F__as_path := F__as_path
    B__as_path := B__as_path
    k__as_path := k__as_path
    g__as_path := PySem.W.mg_of X G a__as_path
    F__check_single_paths := F__check_single_paths
    B__check_single_paths := B__check_single_paths
    k__check_single_paths := k__check_single_paths
    g__check_single_paths := PySem.W.mg_of X G a__check_single_paths
    F_init := F_init
    F_link_names := F_link_names
    B_link_names := B_link_names
    k_link_names := k_link_names
    F_check_place := F_check_place
    B_check_place := B_check_place
    k_check_place := k_check_place
    m_check_place := ⟨a_check_place, i_check_place, k_check_place⟩
    F_check_wind := F_check_wind
    B_check_wind := B_check_wind
    k_check_wind := k_check_wind
    m_check_wind := ⟨a_check_wind, i_check_wind, k_check_wind⟩
    F_check_winds := F_check_winds
    B_check_winds := B_check_winds
    k_check_winds := k_check_winds
    g_check_winds := PySem.W.mg_of X G a_check_winds
    F_check_rows := F_check_rows
    B_check_rows := B_check_rows
    k_check_rows := k_check_rows
    g_check_rows := PySem.W.mg_of X G a_check_rows
    F_spells_of := F_spells_of
    B_spells_of := B_spells_of
    k_spells_of := k_spells_of
    g_spells_of := PySem.W.mg_of X G a_spells_of
    F_ask := F_ask
    B_ask := B_ask
    B1_ask := B1_ask
    k_ask := k_ask
    g_ask := PySem.W.mg_of X G a_ask
    teT_ask := fun H => .inr ⟨_, #[], _, dt2_ask, rfl, rfl, Nat.zero_le _, .nil⟩
    F_ask_all := F_ask_all
    B_ask_all := B_ask_all
    B1_ask_all := B1_ask_all
    k_ask_all := k_ask_all
    g_ask_all := PySem.W.mg_of X G a_ask_all
    teT_ask_all := fun H => .inr ⟨_, #[], _, dt2_ask_all, rfl, rfl, Nat.zero_le _, .nil⟩
    F_least_minutes := F_least_minutes
    B_least_minutes := B_least_minutes
    k_least_minutes := k_least_minutes
    g_least_minutes := PySem.W.mg_of X G a_least_minutes
    F_Question_init := F_Question_init
    B_Question_init := B_Question_init
    k_Question_init := k_Question_init
    mk_Question := ⟨mk_C_Question, a_Question_init, i_Question_init, kc_C_Question⟩
    F_Question_is_ahead := F_Question_is_ahead
    B_Question_is_ahead := B_Question_is_ahead
    k_Question_is_ahead := k_Question_is_ahead
    m_Question_is_ahead := ⟨a_Question_is_ahead, i_Question_is_ahead, k_Question_is_ahead⟩
    F_Question_through := F_Question_through
    B_Question_through := B_Question_through
    k_Question_through := k_Question_through
    m_Question_through := ⟨a_Question_through, i_Question_through, k_Question_through⟩
    F_Question_catches := F_Question_catches
    B_Question_catches := B_Question_catches
    k_Question_catches := k_Question_catches
    m_Question_catches := ⟨a_Question_catches, i_Question_catches, k_Question_catches⟩
    F_Question_first_minutes := F_Question_first_minutes
    B_Question_first_minutes := B_Question_first_minutes
    k_Question_first_minutes := k_Question_first_minutes
    m_Question_first_minutes := ⟨a_Question_first_minutes, i_Question_first_minutes, k_Question_first_minutes⟩
    F_least_numbers := F_least_numbers
    B_least_numbers := B_least_numbers
    k_least_numbers := k_least_numbers
    g_least_numbers := PySem.W.mg_of X G a_least_numbers
    F_most_numbers := F_most_numbers
    B_most_numbers := B_most_numbers
    k_most_numbers := k_most_numbers
    g_most_numbers := PySem.W.mg_of X G a_most_numbers
    F_fastest := F_fastest
    B_fastest := B_fastest
    k_fastest := k_fastest
    g_fastest := PySem.W.mg_of X G a_fastest
    F_slowest := F_slowest
    B_slowest := B_slowest
    k_slowest := k_slowest
    g_slowest := PySem.W.mg_of X G a_slowest
    F__rows_of := F__rows_of
    B__rows_of := B__rows_of
    k__rows_of := k__rows_of
    g__rows_of := PySem.W.mg_of X G a__rows_of
    F__law_row := F__law_row
    B__law_row := B__law_row
    k__law_row := k__law_row
    g__law_row := PySem.W.mg_of X G a__law_row
    F__law_numbers := F__law_numbers
    B__law_numbers := B__law_numbers
    k__law_numbers := k__law_numbers
    g__law_numbers := PySem.W.mg_of X G a__law_numbers
    F__law_parts := F__law_parts
    B__law_parts := B__law_parts
    k__law_parts := k__law_parts
    g__law_parts := PySem.W.mg_of X G a__law_parts
    F__law_weather := F__law_weather
    B__law_weather := B__law_weather
    k__law_weather := k__law_weather
    g__law_weather := PySem.W.mg_of X G a__law_weather
    F__law_names := F__law_names
    B__law_names := B__law_names
    k__law_names := k__law_names
    g__law_names := PySem.W.mg_of X G a__law_names
    F__law_made := F__law_made
    B__law_made := B__law_made
    k__law_made := k__law_made
    g__law_made := PySem.W.mg_of X G a__law_made
    F__law_some := F__law_some
    B__law_some := B__law_some
    k__law_some := k__law_some
    g__law_some := PySem.W.mg_of X G a__law_some
    F__law_open := F__law_open
    B__law_open := B__law_open
    k__law_open := k__law_open
    g__law_open := PySem.W.mg_of X G a__law_open
    F__law_one_way := F__law_one_way
    B__law_one_way := B__law_one_way
    k__law_one_way := k__law_one_way
    g__law_one_way := PySem.W.mg_of X G a__law_one_way
    F__law_weather_for := F__law_weather_for
    B__law_weather_for := B__law_weather_for
    k__law_weather_for := k__law_weather_for
    g__law_weather_for := PySem.W.mg_of X G a__law_weather_for
    F__law_fourth := F__law_fourth
    B__law_fourth := B__law_fourth
    k__law_fourth := k__law_fourth
    g__law_fourth := PySem.W.mg_of X G a__law_fourth
    F_law := F_law
    B_law := B_law
    k_law := k_law
    g_law := PySem.W.mg_of X G a_law
    g_heapify := PySem.W.mg_of X G gh_heapify
    g_heappush := PySem.W.mg_of X G gh_heappush
    g_heappop := PySem.W.mg_of X G gh_heappop
    z_abs := PySem.W.mg_none_of X G z_abs
    z_all := PySem.W.mg_none_of X G z_all
    z_any := PySem.W.mg_none_of X G z_any
    z_dict := PySem.W.mg_none_of X G z_dict
    z_enumerate := PySem.W.mg_none_of X G z_enumerate
    z_int := PySem.W.mg_none_of X G z_int
    z_len := PySem.W.mg_none_of X G z_len
    z_list := PySem.W.mg_none_of X G z_list
    z_max := PySem.W.mg_none_of X G z_max
    z_min := PySem.W.mg_none_of X G z_min
    z_range := PySem.W.mg_none_of X G z_range
    z_set := PySem.W.mg_none_of X G z_set
    z_sorted := PySem.W.mg_none_of X G z_sorted
    z_tuple := PySem.W.mg_none_of X G z_tuple
    z_zip := PySem.W.mg_none_of X G z_zip
    c_DIGITS := ⟨_, PySem.W.mg_of X G g_DIGITS⟩
    c_LAST_CHANGE := ⟨_, PySem.W.mg_of X G g_LAST_CHANGE⟩
    c_LETTERS := ⟨_, PySem.W.mg_of X G g_LETTERS⟩
    c_LONGEST_NAME := ⟨_, PySem.W.mg_of X G g_LONGEST_NAME⟩
    c_MOST_LINKS := ⟨_, PySem.W.mg_of X G g_MOST_LINKS⟩
    c_MOST_MINUTES := ⟨_, PySem.W.mg_of X G g_MOST_MINUTES⟩
    c_MOST_PATHS := ⟨_, PySem.W.mg_of X G g_MOST_PATHS⟩
    c_MOST_PLACES := ⟨_, PySem.W.mg_of X G g_MOST_PLACES⟩
    c_MOST_ROWS := ⟨_, PySem.W.mg_of X G g_MOST_ROWS⟩
    c_MOST_WINDS := ⟨_, PySem.W.mg_of X G g_MOST_WINDS⟩
    cl_Question := ⟨pg_C_Question, hd_C_Question, po_C_Question, sa_C_Question⟩
    g_Question := PySem.W.mg_of X G aC_Question
    na_Question_land := na_Question_land
    na_Question_weather := na_Question_weather
    na_Question_starts := na_Question_starts
    na_Question_breaks := na_Question_breaks
    na_Question_spells := na_Question_spells
    na_Question_stops := na_Question_stops
    na_Question_leaving := na_Question_leaving
    cl := ⟨pg, hd, po, sa⟩
    mk_Land := ⟨mk, a_init, i_init, kc⟩
    g_Land := PySem.W.mg_of X G aC
    nW := nW
    nP := nP
    nL := nL
    nA := nA
    p_link_names := ⟨pr1, pr2, pr3, ⟨_, pr4⟩⟩
    tlT := fun H => .inr ⟨_, #[], _, tl2, rfl, rfl, Nat.zero_le _, .nil⟩
    teT := fun H => .inr ⟨_, #[], _, te2, rfl, rfl, Nat.zero_le _, .nil⟩ }
  exact ⟨_, fun s v => .of_eq rfl, fun base _ _ => G_law T⟩
theorem walk {l : PySem.W.OpenLaw} {q : Program} {loose : List Str} {XP : (Str → Option Value) → Heap → Prop} {YP : World → Heap → Prop} {d : DefRec} {K : Params → PySem.W.Frag} (hn : l.most = some 63) (hdf : d.params.defaults = [])
    (hY : ∀ (w : World) (h : Heap), YP w h → (K w.params).In h)
    (F : ∀ (w : World) (mg : Str → Option Value) (fa : Addr) (h : Heap), (K w.params).In h → h.Ns mainGlobals mg → mg d.name = some (.ref fa) →
      ∃ fd : FuncData, (∀ (s : Shared) (u : Value), BindsTo s fd ⟨[u], []⟩ [("script", u)]) ∧ ∀ base : Heap, (K w.params).In base → base.Ns mainGlobals mg → FnOk l.prog w (K w.params) mg base CX0 8 fa fd ["script"] (spLaw (K w.params))) :
    PySem.W.WalkO q loose XP YP l.row.toRowW d [] (fun f vs => PySem.call f vs) :=
  L2.walk_of (n := 63) (k := 8) (x := "script") (CX := fun _ => CX0) (sp := fun w => spLaw (K w.params)) hn (by decide) hdf ⟨rfl, by decide, by decide⟩ hY F (fun _ _ a ns hl _ hS => ⟨a, ns, rfl, hS, fun _ => rfl⟩) fun _ _ _ _ _ z => z
end EV
open PySem PySem.W PyProof.Rows in
set_option maxRecDepth 100000 in
set_option maxHeartbeats 0 in
theorem PySem.Challenge.cw_everyfire_k35_whole_weathers_and_cuts_holds : PySem.Challenge.rw_everyfire_k35_whole_weathers_and_cuts.Holds := by
  w_on; o_law; k_head; (case hw => w_witness2)
  k_fill
  refine EV.walk (l := PySem.Challenge.rw_everyfire_k35_whole_weathers_and_cuts) rfl rfl (fun w h Y => PySem.W.kIn_of Y) ?F
  case F =>
    intro w mg fa h KX G hmg
    refine' EV.all_mk KX G hmg ?aC ?aC_Question ?pg_C_Question ?hd_C_Question ?po_C_Question ?sa_C_Question ?mk_C_Question ?kc_C_Question ?na_Question_land ?na_Question_weather ?na_Question_starts ?na_Question_breaks ?na_Question_spells ?na_Question_stops ?na_Question_leaving ?a_is_kept ?l_is_kept ?c_is_kept ?k_is_kept ?a__check_places ?l__check_places ?c__check_places ?k__check_places ?a__passes ?l__passes ?c__passes ?k__passes ?a__keeps_all ?l__keeps_all ?c__keeps_all ?k__keeps_all ?a_is_name ?l_is_name ?c_is_name ?k_is_name ?a__check_count ?l__check_count ?c__check_count ?k__check_count ?a__check_names ?l__check_names ?c__check_names ?k__check_names ?a__check_ends ?l__check_ends ?c__check_ends ?k__check_ends ?a__as_bounds ?l__as_bounds ?c__as_bounds ?k__as_bounds ?a__as_link ?l__as_link ?c__as_link ?k__as_link ?a__as_path ?l__as_path ?c__as_path ?k__as_path ?a__check_single_paths ?l__check_single_paths ?c__check_single_paths ?k__check_single_paths ?a_init ?i_init ?l_init ?c_init ?k_init ?tl1 ?te1 ?tl2 ?te2 ?pr1 ?pr2 ?pr3 ?pr4 ?l_link_names ?c_link_names ?k_link_names ?a_check_place ?i_check_place ?l_check_place ?c_check_place ?k_check_place ?a_check_wind ?i_check_wind ?l_check_wind ?c_check_wind ?k_check_wind ?a_check_winds ?l_check_winds ?c_check_winds ?k_check_winds ?a_check_rows ?l_check_rows ?c_check_rows ?k_check_rows ?a_spells_of ?l_spells_of ?c_spells_of ?k_spells_of ?a_ask ?l_ask ?dt1_ask ?dt2_ask ?c_ask ?k_ask ?a_ask_all ?l_ask_all ?dt1_ask_all ?dt2_ask_all ?c_ask_all ?k_ask_all ?a_least_minutes ?l_least_minutes ?c_least_minutes ?k_least_minutes ?a_Question_init ?i_Question_init ?l_Question_init ?c_Question_init ?k_Question_init ?a_Question_is_ahead ?i_Question_is_ahead ?l_Question_is_ahead ?c_Question_is_ahead ?k_Question_is_ahead ?a_Question_through ?i_Question_through ?l_Question_through ?c_Question_through ?k_Question_through ?a_Question_catches ?i_Question_catches ?l_Question_catches ?c_Question_catches ?k_Question_catches ?a_Question_first_minutes ?i_Question_first_minutes ?l_Question_first_minutes ?c_Question_first_minutes ?k_Question_first_minutes ?a_least_numbers ?l_least_numbers ?c_least_numbers ?k_least_numbers ?a_most_numbers ?l_most_numbers ?c_most_numbers ?k_most_numbers ?a_fastest ?l_fastest ?c_fastest ?k_fastest ?a_slowest ?l_slowest ?c_slowest ?k_slowest ?a__rows_of ?l__rows_of ?c__rows_of ?k__rows_of ?a__law_row ?l__law_row ?c__law_row ?k__law_row ?a__law_numbers ?l__law_numbers ?c__law_numbers ?k__law_numbers ?a__law_parts ?l__law_parts ?c__law_parts ?k__law_parts ?a__law_weather ?l__law_weather ?c__law_weather ?k__law_weather ?a__law_names ?l__law_names ?c__law_names ?k__law_names ?a__law_made ?l__law_made ?c__law_made ?k__law_made ?a__law_some ?l__law_some ?c__law_some ?k__law_some ?a__law_open ?l__law_open ?c__law_open ?k__law_open ?a__law_one_way ?l__law_one_way ?c__law_one_way ?k__law_one_way ?a__law_weather_for ?l__law_weather_for ?c__law_weather_for ?k__law_weather_for ?a__law_fourth ?l__law_fourth ?c__law_fourth ?k__law_fourth ?a_law ?l_law ?c_law ?k_law ?gh_heapify ?gh_heappush ?gh_heappop ?z_abs ?z_all ?z_any ?z_dict ?z_enumerate ?z_int ?z_len ?z_list ?z_max ?z_min ?z_range ?z_set ?z_sorted ?z_tuple ?z_zip ?g_DIGITS ?g_LAST_CHANGE ?g_LETTERS ?g_LONGEST_NAME ?g_MOST_LINKS ?g_MOST_MINUTES ?g_MOST_PATHS ?g_MOST_PLACES ?g_MOST_ROWS ?g_MOST_WINDS ?pg ?hd ?po ?sa ?mk ?kc ?nW ?nP ?nL ?nA
    (case aC => k_is)
    (case aC_Question => k_is)
    (case pg_C_Question => k_is)
    (case hd_C_Question => k_is)
    (case po_C_Question => k_is)
    (case sa_C_Question => k_is)
    (case mk_C_Question => k_is)
    (case kc_C_Question => k_is)
    (case na_Question_land => k_is)
    (case na_Question_weather => k_is)
    (case na_Question_starts => k_is)
    (case na_Question_breaks => k_is)
    (case na_Question_spells => k_is)
    (case na_Question_stops => k_is)
    (case na_Question_leaving => k_is)
    (case a_is_kept => k_is)
    (case l_is_kept => k_is)
    (case c_is_kept => k_is)
    (case k_is_kept => k_is)
    (case a__check_places => k_is)
    (case l__check_places => k_is)
    (case c__check_places => k_is)
    (case k__check_places => k_is)
    (case a__passes => k_is)
    (case l__passes => k_is)
    (case c__passes => k_is)
    (case k__passes => k_is)
    (case a__keeps_all => k_is)
    (case l__keeps_all => k_is)
    (case c__keeps_all => k_is)
    (case k__keeps_all => k_is)
    (case a_is_name => k_is)
    (case l_is_name => k_is)
    (case c_is_name => k_is)
    (case k_is_name => k_is)
    (case a__check_count => k_is)
    (case l__check_count => k_is)
    (case c__check_count => k_is)
    (case k__check_count => k_is)
    (case a__check_names => k_is)
    (case l__check_names => k_is)
    (case c__check_names => k_is)
    (case k__check_names => k_is)
    (case a__check_ends => k_is)
    (case l__check_ends => k_is)
    (case c__check_ends => k_is)
    (case k__check_ends => k_is)
    (case a__as_bounds => k_is)
    (case l__as_bounds => k_is)
    (case c__as_bounds => k_is)
    (case k__as_bounds => k_is)
    (case a__as_link => k_is)
    (case l__as_link => k_is)
    (case c__as_link => k_is)
    (case k__as_link => k_is)
    (case a__as_path => k_is)
    (case l__as_path => k_is)
    (case c__as_path => k_is)
    (case k__as_path => k_is)
    (case a__check_single_paths => k_is)
    (case l__check_single_paths => k_is)
    (case c__check_single_paths => k_is)
    (case k__check_single_paths => k_is)
    (case a_init => k_is)
    (case i_init => k_is)
    (case l_init => k_is)
    (case c_init => k_is)
    (case k_init => k_is)
    (case tl1 => k_is)
    (case te1 => k_is)
    (case tl2 => k_is)
    (case te2 => k_is)
    (case pr1 => k_is)
    (case pr2 => k_is)
    (case pr3 => k_is)
    (case pr4 => k_is)
    (case l_link_names => k_is)
    (case c_link_names => k_is)
    (case k_link_names => k_is)
    (case a_check_place => k_is)
    (case i_check_place => k_is)
    (case l_check_place => k_is)
    (case c_check_place => k_is)
    (case k_check_place => k_is)
    (case a_check_wind => k_is)
    (case i_check_wind => k_is)
    (case l_check_wind => k_is)
    (case c_check_wind => k_is)
    (case k_check_wind => k_is)
    (case a_check_winds => k_is)
    (case l_check_winds => k_is)
    (case c_check_winds => k_is)
    (case k_check_winds => k_is)
    (case a_check_rows => k_is)
    (case l_check_rows => k_is)
    (case c_check_rows => k_is)
    (case k_check_rows => k_is)
    (case a_spells_of => k_is)
    (case l_spells_of => k_is)
    (case c_spells_of => k_is)
    (case k_spells_of => k_is)
    (case a_ask => k_is)
    (case l_ask => k_is)
    (case dt1_ask => k_is)
    (case dt2_ask => k_is)
    (case c_ask => k_is)
    (case k_ask => k_is)
    (case a_ask_all => k_is)
    (case l_ask_all => k_is)
    (case dt1_ask_all => k_is)
    (case dt2_ask_all => k_is)
    (case c_ask_all => k_is)
    (case k_ask_all => k_is)
    (case a_least_minutes => k_is)
    (case l_least_minutes => k_is)
    (case c_least_minutes => k_is)
    (case k_least_minutes => k_is)
    (case a_Question_init => k_is)
    (case i_Question_init => k_is)
    (case l_Question_init => k_is)
    (case c_Question_init => k_is)
    (case k_Question_init => k_is)
    (case a_Question_is_ahead => k_is)
    (case i_Question_is_ahead => k_is)
    (case l_Question_is_ahead => k_is)
    (case c_Question_is_ahead => k_is)
    (case k_Question_is_ahead => k_is)
    (case a_Question_through => k_is)
    (case i_Question_through => k_is)
    (case l_Question_through => k_is)
    (case c_Question_through => k_is)
    (case k_Question_through => k_is)
    (case a_Question_catches => k_is)
    (case i_Question_catches => k_is)
    (case l_Question_catches => k_is)
    (case c_Question_catches => k_is)
    (case k_Question_catches => k_is)
    (case a_Question_first_minutes => k_is)
    (case i_Question_first_minutes => k_is)
    (case l_Question_first_minutes => k_is)
    (case c_Question_first_minutes => k_is)
    (case k_Question_first_minutes => k_is)
    (case a_least_numbers => k_is)
    (case l_least_numbers => k_is)
    (case c_least_numbers => k_is)
    (case k_least_numbers => k_is)
    (case a_most_numbers => k_is)
    (case l_most_numbers => k_is)
    (case c_most_numbers => k_is)
    (case k_most_numbers => k_is)
    (case a_fastest => k_is)
    (case l_fastest => k_is)
    (case c_fastest => k_is)
    (case k_fastest => k_is)
    (case a_slowest => k_is)
    (case l_slowest => k_is)
    (case c_slowest => k_is)
    (case k_slowest => k_is)
    (case a__rows_of => k_is)
    (case l__rows_of => k_is)
    (case c__rows_of => k_is)
    (case k__rows_of => k_is)
    (case a__law_row => k_is)
    (case l__law_row => k_is)
    (case c__law_row => k_is)
    (case k__law_row => k_is)
    (case a__law_numbers => k_is)
    (case l__law_numbers => k_is)
    (case c__law_numbers => k_is)
    (case k__law_numbers => k_is)
    (case a__law_parts => k_is)
    (case l__law_parts => k_is)
    (case c__law_parts => k_is)
    (case k__law_parts => k_is)
    (case a__law_weather => k_is)
    (case l__law_weather => k_is)
    (case c__law_weather => k_is)
    (case k__law_weather => k_is)
    (case a__law_names => k_is)
    (case l__law_names => k_is)
    (case c__law_names => k_is)
    (case k__law_names => k_is)
    (case a__law_made => k_is)
    (case l__law_made => k_is)
    (case c__law_made => k_is)
    (case k__law_made => k_is)
    (case a__law_some => k_is)
    (case l__law_some => k_is)
    (case c__law_some => k_is)
    (case k__law_some => k_is)
    (case a__law_open => k_is)
    (case l__law_open => k_is)
    (case c__law_open => k_is)
    (case k__law_open => k_is)
    (case a__law_one_way => k_is)
    (case l__law_one_way => k_is)
    (case c__law_one_way => k_is)
    (case k__law_one_way => k_is)
    (case a__law_weather_for => k_is)
    (case l__law_weather_for => k_is)
    (case c__law_weather_for => k_is)
    (case k__law_weather_for => k_is)
    (case a__law_fourth => k_is)
    (case l__law_fourth => k_is)
    (case c__law_fourth => k_is)
    (case k__law_fourth => k_is)
    (case a_law => k_is)
    (case l_law => k_is)
    (case c_law => k_is)
    (case k_law => k_is)
    (case gh_heapify => k_is)
    (case gh_heappush => k_is)
    (case gh_heappop => k_is)
    (case z_abs => k_is)
    (case z_all => k_is)
    (case z_any => k_is)
    (case z_dict => k_is)
    (case z_enumerate => k_is)
    (case z_int => k_is)
    (case z_len => k_is)
    (case z_list => k_is)
    (case z_max => k_is)
    (case z_min => k_is)
    (case z_range => k_is)
    (case z_set => k_is)
    (case z_sorted => k_is)
    (case z_tuple => k_is)
    (case z_zip => k_is)
    (case g_DIGITS => k_is)
    (case g_LAST_CHANGE => k_is)
    (case g_LETTERS => k_is)
    (case g_LONGEST_NAME => k_is)
    (case g_MOST_LINKS => k_is)
    (case g_MOST_MINUTES => k_is)
    (case g_MOST_PATHS => k_is)
    (case g_MOST_PLACES => k_is)
    (case g_MOST_ROWS => k_is)
    (case g_MOST_WINDS => k_is)
    (case pg => k_is)
    (case hd => k_is)
    (case po => k_is)
    (case sa => k_is)
    (case mk => k_is)
    (case kc => k_is)
    (case nW => k_is)
    (case nP => k_is)
    (case nL => k_is)
    (case nA => k_is)

