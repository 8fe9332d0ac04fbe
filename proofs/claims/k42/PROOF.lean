import PyProof.Rows.All
import Wide.All
import OpenK.AllK
import Wide.FinOn
import PyProof.EqAt
import PyProof.EqKinds
import PyProof.TupleCall
import HandS.Base
import HandS.Call
import HandS.List
import HandS.ForMost
import HandS.ForExc
import HandS.RaiseMore
import HandS.FStr
import HandS.MakeKwOnly
import HandS.Property
import HandS.IsInst
import HandS.Evl
import HandS.Deep
import HandS.TupSets
import HandS.SetFor
import HandS.Iter
import HandS.Dict
import HandS.DictComp
import HandS.Walk
import HandS.More
import PySem.Challenge.RW_everyfire_k42_courses_of_hands
set_option Elab.async false
set_option linter.all false
set_option maxRecDepth 100000
set_option maxHeartbeats 4000000
/-! len(set(xs)) of any number of texts -/
namespace EvS
open PySem PySem.Spec PyProof.Rows
/-- the different ones, each where it came first -/
def dd {α : Type} [DecidableEq α] : List α → List α → List α
  | acc, [] => acc
  | acc, x :: r => dd (if x ∈ acc then acc else acc ++ [x]) r
theorem dd_len_le {α : Type} [DecidableEq α] : ∀ (l acc : List α), (dd acc l).length ≤ acc.length + l.length
  | [], acc => Nat.le_refl _
  | x :: r, acc => by
    unfold dd
    by_cases h : x ∈ acc
    · rw [if_pos h]
      have := dd_len_le r acc
      simp only [List.length_cons]
      omega
    · rw [if_neg h]
      have := dd_len_le r (acc ++ [x])
      simp only [List.length_cons, List.length_append, List.length_nil] at this ⊢
      omega
theorem dd_len_eq {α : Type} [DecidableEq α] : ∀ (l acc : List α), acc.Nodup → ((dd acc l).length = acc.length + l.length ↔ (acc ++ l).Nodup)
  | [], acc, h => by simp [dd, h]
  | x :: r, acc, h => by
    unfold dd
    by_cases hx : x ∈ acc
    · rw [if_pos hx]
      have h1 := dd_len_le r acc
      constructor
      · intro e
        simp only [List.length_cons] at e
        omega
      · intro e
        have := (List.nodup_append.mp e).2.2 x hx x (List.mem_cons_self ..)
        exact absurd rfl this
    · rw [if_neg hx]
      have hn : (acc ++ [x]).Nodup := by
        rw [List.nodup_append]
        refine ⟨h, by simp, fun a ha b hb => ?_⟩
        rw [List.mem_singleton] at hb
        subst hb
        exact fun e => hx (e ▸ ha)
      have ih := dd_len_eq r (acc ++ [x]) hn
      simp only [List.length_cons, List.length_append, List.length_nil, List.append_assoc, List.singleton_append] at ih ⊢
      rw [← ih]
      omega
theorem dd_snoc {α : Type} [DecidableEq α] (x : α) : ∀ (l acc : List α), dd acc (l ++ [x]) = (if x ∈ dd acc l then dd acc l else dd acc l ++ [x])
  | [], acc => rfl
  | y :: r, acc => by
    show dd _ (r ++ [x]) = _
    rw [dd_snoc x r]
    rfl
section
variable {prog : Program} {w : World} {A : Around} {R : Result → Shared → Prop} {I : Addr} {fp wr : List Addr} {G : Array GenState → Array GenState → Prop} {n : Nat} {P : Nat → Value → Prop} {St : Nat → Shared → Prop}
variable {κ : Type} [DecidableEq κ] {kd : KeyKind prog w κ}
theorem turnK (W : WalksS prog w A.in1 I fp wr G n P St) (S : Addr) (hSf : S ∉ fp) (ks : List κ) (hlen : ks.length = n) (hmax : n < 4000)
    (hat : ∀ i v k, P i v → ks[i]? = some k → kd.is k v = true ∧ v.scannable = true) :
    ∀ (m i : Nat) (s : Shared), n - i = m → i ≤ n → St i s →
      Heap.SetOf kd s.heap S (fun k => decide (k ∈ dd [] (ks.take i))) (dd [] (ks.take i)).length →
      (∀ s', Moved (S :: wr) G s s' → Heap.SetOf kd s'.heap S (fun k => decide (k ∈ dd [] ks)) (dd [] ks).length → R (.ok (.ret .none)) s') →
      codeAny (model prog w) A (.builtin "set.update.loop" ⟨[.ref S, .ref I], []⟩) R s := by
  have nw : S ∉ wr := fun q => hSf (W.sub _ q)
  have up : ∀ c ∈ wr, c ∈ S :: wr := fun c hc => List.mem_cons_of_mem _ hc
  intro m
  induction m with
  | zero =>
    intro i s hm hi hst hS hR
    obtain rfl : i = n := by omega
    refine codeAny_builtin PyProof.Rows.F.entry_set_update_loop ?_
    rw [Around.under_plainId PyProof.Rows.F.plain_set_update_loop _]
    show wpAny _ A.in1 (pyNext (.ref I) >>= _) _ _ s
    refine wpAny_bind (W.done s _ _ hst fun s1 mv => ?_)
    refine wpAny_pure (hR s1 (mv.mono up) ?_)
    rw [← hlen, List.take_length] at hS
    obtain ⟨o, es, ep, t, ho, more⟩ := hS
    exact ⟨o, es, ep, t, mv.heap S _ nw ho, more⟩
  | succ m ih =>
    intro i s hm hi hst hS hR
    have lt : i < n := by omega
    obtain ⟨k0, hk0⟩ : ∃ k, ks[i]? = some k := ⟨ks[i]'(by omega), List.getElem?_eq_getElem (by omega)⟩
    refine codeAny_builtin PyProof.Rows.F.entry_set_update_loop ?_
    rw [Around.under_plainId PyProof.Rows.F.plain_set_update_loop _]
    show wpAny _ A.in1 (pyNext (.ref I) >>= _) _ _ s
    refine wpAny_bind (W.item i s _ _ lt hst fun v s1 hP hst1 mv => ?_)
    obtain ⟨hv, hsc⟩ := hat i v k0 hP hk0
    have hS1 : Heap.SetOf kd s1.heap S (fun k => decide (k ∈ dd [] (ks.take i))) (dd [] (ks.take i)).length := by
      obtain ⟨o, es, ep, t, ho, more⟩ := hS
      exact ⟨o, es, ep, t, mv.heap S _ nw ho, more⟩
    show wpAny _ A.in1 (holding [v] (setAdd S v) >>= _) _ _ s1
    refine wpAny_bind (wpAny_holding ?_)
    unfold setAdd
    refine wpAny_holding ?_
    refine wpAny_bind (kd.pyHash (k := k0) hv ?_)
    have small : (dd [] (ks.take i)).length + 1 < scanBound := by
      have q := dd_len_le (ks.take i) []
      rw [List.length_take, List.length_nil] at q
      unfold scanBound
      omega
    refine wpAny_setAddHashed_of (knd := kd) (s := { s1 with toks := s1.toks + 1 }) hv hsc hS1 small fun h2 sb hS2 => ?_
    have et : ks.take (i + 1) = ks.take i ++ [k0] := by
      rw [List.take_add_one, hk0] <;> rfl
    have hS3 : Heap.SetOf kd h2 S (fun k => decide (k ∈ dd [] (ks.take (i + 1)))) (dd [] (ks.take (i + 1))).length := by
      rw [et, dd_snoc]
      by_cases hin : k0 ∈ dd [] (ks.take i)
      · rw [if_pos hin]
        rw [if_pos (decide_eq_true hin)] at hS2
        have e : (fun k' => decide (k' ∈ dd [] (ks.take i)) || decide (k' = k0)) = fun k => decide (k ∈ dd [] (ks.take i)) := by
          funext k'
          by_cases q : k' = k0
          · subst q
            simp [hin]
          · simp [q]
        rw [e] at hS2
        exact hS2
      · rw [if_neg hin]
        rw [if_neg (by simpa using hin)] at hS2
        have e : (fun k' => decide (k' ∈ dd [] (ks.take i)) || decide (k' = k0)) = fun k => decide (k ∈ dd [] (ks.take i) ++ [k0]) := by
          funext k'
          simp [List.mem_append]
        rw [e] at hS2
        rw [List.length_append]
        exact hS2
    refine wpAny_pure ⟨plainId_quiet PyProof.Rows.F.plain_set_update_loop _, ih (i + 1) _ (by omega) lt (W.frame _ s1 _ _ hst1 (Nat.le_succ _) fun c hc o e => ?_) hS3 fun s3 mv3 hS4 => ?_⟩
    · rw [sb.2 c (fun z : c = S => hSf (by rw [← z]; exact hc))]
      exact e
    · refine hR s3 (Moved.trans W.gtrans ((mv.mono up).then_heap (Nat.le_succ _) fun c o hc e => ?_) mv3) hS4
      rw [sb.2 c (fun z : c = S => hc (by rw [z]; exact List.mem_cons_self))]
      exact e
end
section
variable {prog : Program} {w : World} {A : Around} {E : Value → Shared → Prop} {s : Shared} {κ : Type} [DecidableEq κ] {kd : KeyKind prog w κ}
def blankSet (led : Bool) : Obj := { cls := .type "set", dict := none, data := .set #[] 0 (.fresh 0 0 led) }
/-- set(l), l a list (isT false) or a tuple (isT true) -/
theorem call_setK {l : Addr} {its : Array Value} {ks : List κ} {Q : Value → Shared → Prop} (hA : A.handled = none) (hl : s.heap.IsList l its ∨ s.heap.IsTuple l its)
    (hlen : ks.length = its.size) (hmax : its.size < 4000) (hat : ∀ (i : Nat) (v : Value) (k : κ), its[i]? = some v → ks[i]? = some k → kd.is k v = true ∧ v.scannable = true)
    (h : ∀ (h' : Heap) (tk : Nat), Heap.SetOf kd h' s.heap.objs.size (fun k => decide (k ∈ dd [] ks)) (dd [] ks).length →
      (∀ c o, c < s.heap.objs.size → s.heap.get? c = some o → h'.get? c = some o) → Q (.ref s.heap.objs.size) { s with heap := h', toks := tk }) :
    wpAny (model prog w) A (call (.type "set") [.ref l]) Q E s := by
  obtain ⟨c, tl, hmro⟩ := PySem.F.called_set.mro
  have hmade := PySem.F.called_set.made
  have hsub := PySem.F.called_set.sub
  refine wpAny_call (codeAny_of_tree ?_)
  show wpAny _ _ (callAny (.type "set") _) _ _ _
  refine wpAny_pure ⟨Code.quiet_builtin _ (by decide +kernel), codeAny_builtin PySem.F.entry_type_call ?_⟩
  rw [Around.under_plain (weight_type_call_type "set" [.ref l] []) rfl]
  have h1 := PySem.F.called_set.notType
  have h2 := PySem.F.called_set.canCreate
  have hct := PySem.F.typeCall_set_1 (.ref l)
  repeat (any_goals (first | assumption | wp_step))
  refine codeAny_mono (code_set_new_1 (.ref l) (E := E) (Q₁ := fun b s₁ => ∃ led : Bool, b = .ref s.heap.objs.size ∧ s₁ = { s with heap := s.heap.push (blankSet led) }) fun led => ⟨led, rfl, rfl⟩) fun r s₁ hr => ?_
  cases r with
  | error e => exact hr
  | ok fl =>
    cases fl with
    | ret b =>
      obtain ⟨led, rfl, rfl⟩ := hr
      have hS : (s.heap.push (blankSet led)).get? s.heap.objs.size = some (blankSet led) := Heap.get?_push_size _ rfl
      have hT : Shared.TypeIs { s with heap := s.heap.push (blankSet led) } (.ref s.heap.objs.size) "set" := ⟨_, hS, rfl⟩
      have hli := PySem.F.called_set.init.lookup
      have hbi := PySem.F.called_set.init.bind (.ref s.heap.objs.size)
      repeat (any_goals (first | assumption | wp_step))
      refine codeAny_mono (codeAny_call_builtin (R := wants (fun r s₂ => r = .none ∧ ∃ h' tk, s₂ = { s with heap := h', toks := tk } ∧
          Heap.SetOf kd h' s.heap.objs.size (fun k => decide (k ∈ dd [] ks)) (dd [] ks).length ∧
          (∀ c o, c < s.heap.objs.size → s.heap.get? c = some o → h'.get? c = some o)) E) PySem.F.called_set.init.plain PySem.F.entry_set_init (check_set_init_1 hT ?_)) fun r₂ s₂ hr₂ => ?_
      · have fin : ∀ (s1 : Shared) (I : Addr), I ≠ s.heap.objs.size → s.heap.objs.size < I → Moved [s.heap.objs.size, I] (fun a b => a = b) { s with heap := (s.heap.push (blankSet led)) } s1 → True := fun _ _ _ _ _ => trivial
        clear fin
        rcases hl with hl | hl
        · obtain ⟨ol, hol, hcl, nl, hdl⟩ := hl
          obtain ⟨ocls, odict, odata, oslots⟩ := ol
          simp only at hcl hdl
          subst hcl; subst hdl
          have hol' : (s.heap.push (blankSet led)).get? l = some { cls := .type "list", dict := odict, data := .seq its nl, slots := oslots } := Heap.get?_push_of_some _ hol
          have hsls := PySem.F.sub_list_set
          have hslf := PySem.F.sub_list_frozenset
          have hne : (Value.type "list" == Value.type "dict") = false := by decide
          have hl1 : (s.heap.push (blankSet led)).IsList l its := ⟨_, hol', rfl, nl, rfl⟩
          unfold Builtin.«set.__init__» noKeywords Builtin.Frozenset.updateFrom
          generalize hPI : pyIter = PI
          wp_walk
          subst hPI
          refine wpAny_pyIter_list hl1 ?_
          refine wpAny_bind (wpAny_runValue ?_)
          have hlS : l < s.heap.objs.size := Heap.lt_size hol
          have h3 : A.in1.in1.in1.handled = none := by simp [hA]
          have nI : l ≠ (s.heap.push (blankSet led)).objs.size := by
            rw [Heap.size_push]; exact Nat.ne_of_lt (Nat.lt_succ_of_lt hlS)
          have nS : s.heap.objs.size ∉ [(s.heap.push (blankSet led)).objs.size, l] := by
            rw [Heap.size_push]; simp only [List.mem_cons, List.mem_singleton, List.not_mem_nil, or_false, not_or]
            exact ⟨Nat.ne_of_lt (Nat.lt_succ_self _), Nat.ne_of_gt hlS⟩
          refine turnK (kd := kd) ((Walks.list h3 _ l nI its).toS) s.heap.objs.size nS ks hlen hmax (fun i v k hv hk => hat i v k hv hk) (its.size - 0) 0 _ (by omega) (Nat.zero_le _) ⟨⟨_, Heap.get?_push_size _ rfl, rfl, rfl⟩, (hl1.push _)⟩ ?hS0 ?hR
          case hS0 =>
            have hget : ((s.heap.push (blankSet led)).push { cls := .type "list_iterator", data := .fields #[.ref l, .int 0 0] }).get? s.heap.objs.size = some (blankSet led) := Heap.get?_push_of_some _ hS
            exact PyProof.Rows.SetOf_congr ((PyProof.Rows.setObjOf_fresh (knd := kd) led).setOf hget (by unfold scanBound; omega)) (fun _ => rfl) rfl
          case hR =>
            intro s' mv hS'
            obtain ⟨h', g', d', tk', os'⟩ := s'
            obtain rfl : g' = s.gens := mv.gens
            obtain rfl : d' = s.drawn := mv.drawn
            obtain rfl : os' = s.os := mv.os
            show wpAny _ _ _ _ _ _
            refine wpAny_pure ?_
            show wpAny _ _ (ret Value.none) _ _ _
            refine wpAny_pure ⟨rfl, h', tk', rfl, hS', fun c o hc e => ?_⟩
            have n1 : c ≠ s.heap.objs.size := Nat.ne_of_lt hc
            have n2 : c ≠ (s.heap.push (blankSet led)).objs.size := by
              rw [Heap.size_push]; exact Nat.ne_of_lt (Nat.lt_succ_of_lt hc)
            exact mv.heap c o (by simp only [List.mem_cons, List.mem_singleton, List.not_mem_nil, or_false, not_or]; exact ⟨n1, n2⟩) (Heap.get?_push_of_some _ (Heap.get?_push_of_some _ e))
        · obtain ⟨ol, hol, hcl, nl, hdl⟩ := hl
          obtain ⟨ocls, odict, odata, oslots⟩ := ol
          simp only at hcl hdl
          subst hcl; subst hdl
          have hol' : (s.heap.push (blankSet led)).get? l = some { cls := .type "tuple", dict := odict, data := .seq its nl, slots := oslots } := Heap.get?_push_of_some _ hol
          have hsls := PySem.F.sub_tuple_set
          have hslf := PySem.F.sub_tuple_frozenset
          have hne : (Value.type "tuple" == Value.type "dict") = false := by decide
          have hl1 : (s.heap.push (blankSet led)).IsTuple l its := ⟨_, hol', rfl, nl, rfl⟩
          unfold Builtin.«set.__init__» noKeywords Builtin.Frozenset.updateFrom
          generalize hPI : pyIter = PI
          wp_walk
          subst hPI
          refine wpAny_pyIter_tuple hl1 ?_
          refine wpAny_bind (wpAny_runValue ?_)
          have hlS : l < s.heap.objs.size := Heap.lt_size hol
          have h3 : A.in1.in1.in1.handled = none := by simp [hA]
          have nI : l ≠ (s.heap.push (blankSet led)).objs.size := by
            rw [Heap.size_push]; exact Nat.ne_of_lt (Nat.lt_succ_of_lt hlS)
          have nS : s.heap.objs.size ∉ [(s.heap.push (blankSet led)).objs.size, l] := by
            rw [Heap.size_push]; simp only [List.mem_cons, List.mem_singleton, List.not_mem_nil, or_false, not_or]
            exact ⟨Nat.ne_of_lt (Nat.lt_succ_self _), Nat.ne_of_gt hlS⟩
          refine turnK (kd := kd) ((Walks.tuple h3 _ l nI its).toS) s.heap.objs.size nS ks hlen hmax (fun i v k hv hk => hat i v k hv hk) (its.size - 0) 0 _ (by omega) (Nat.zero_le _) ⟨⟨_, Heap.get?_push_size _ rfl, rfl, rfl⟩, (hl1.push _)⟩ ?hS0 ?hR
          case hS0 =>
            have hget : ((s.heap.push (blankSet led)).push { cls := .type "tuple_iterator", data := .fields #[.ref l, .int 0 0] }).get? s.heap.objs.size = some (blankSet led) := Heap.get?_push_of_some _ hS
            exact PyProof.Rows.SetOf_congr ((PyProof.Rows.setObjOf_fresh (knd := kd) led).setOf hget (by unfold scanBound; omega)) (fun _ => rfl) rfl
          case hR =>
            intro s' mv hS'
            obtain ⟨h', g', d', tk', os'⟩ := s'
            obtain rfl : g' = s.gens := mv.gens
            obtain rfl : d' = s.drawn := mv.drawn
            obtain rfl : os' = s.os := mv.os
            show wpAny _ _ _ _ _ _
            refine wpAny_pure ?_
            show wpAny _ _ (ret Value.none) _ _ _
            refine wpAny_pure ⟨rfl, h', tk', rfl, hS', fun c o hc e => ?_⟩
            have n1 : c ≠ s.heap.objs.size := Nat.ne_of_lt hc
            have n2 : c ≠ (s.heap.push (blankSet led)).objs.size := by
              rw [Heap.size_push]; exact Nat.ne_of_lt (Nat.lt_succ_of_lt hc)
            exact mv.heap c o (by simp only [List.mem_cons, List.mem_singleton, List.not_mem_nil, or_false, not_or]; exact ⟨n1, n2⟩) (Heap.get?_push_of_some _ (Heap.get?_push_of_some _ e))
      · cases r₂ with
        | error e => exact hr₂
        | ok fl₂ =>
          cases fl₂ with
          | ret r =>
            obtain ⟨rfl, h', tk, rfl, hS', hk'⟩ := hr₂
            repeat (any_goals (first | assumption | wp_step))
            exact h _ _ hS' hk'
          | _ => exact hr₂.elim
    | _ => exact hr.elim
end
end EvS
namespace L2
open PySem PySem.Spec PyProof.Rows EvS
section
variable {X : Cx}
/-- len(set(xs)), xs a list or a tuple of texts -/
def tLenSetS (K : PySem.W.Frag) (ta : TE) : TE := fun σ H Q => ta σ H fun x H1 => ∃ (l : Addr) (xs : List Str), x = .ref l ∧ (SqL K H1 l (xs.map V.str) ∨ SqT K H1 l (xs.map V.str)) ∧ xs.length < 4000 ∧ Q (.int ((dd [] xs).length : Nat)) H1
theorem texts_at : ∀ {xs : List Str} {us : List Value}, Vals (xs.map V.str) us → ∀ (i : Nat) (v : Value) (k : Str), us[i]? = some v → xs[i]? = some k → ∃ t, v = Value.str k t
  | [], _, _, i, v, k, _, h => by simp at h
  | x :: xs, _, .cons r t, 0, v, k, h1, h2 => by
    obtain ⟨tk, rfl⟩ := r
    simp only [List.getElem?_cons_zero, Option.some.injEq] at h1 h2
    subst h1 h2
    exact ⟨tk, rfl⟩
  | x :: xs, _, .cons r t, i + 1, v, k, h1, h2 => by
    simp only [List.getElem?_cons_succ] at h1 h2
    exact texts_at t i v k h1 h2
theorem pe_lenSetS {a : Expr} {ta : TE} {p p2 q pos : Pos} (hc : X.calm = true) (hg : Gl X "len") (hm : X.mg "len" = none) (hg2 : Gl X "set") (hm2 : X.mg "set" = none) (ha : PE X a ta)
    (na : starEach [a] X.env = (false, eval a X.env) :: starEach [] X.env := by rfl) : PE X (.Call (.Name "len" p) [.Call (.Name "set" p2) [a] [] q] [] pos) (tLenSetS X.K ta) := by
  refine ⟨fun pins s σ H Q I h => ?_⟩
  refine Call_ (ld_blt I hg hm boot_len ?_)
  refine PyProof.Rows.callWith_builtin1 (PyProof.Rows.args_cons ?_ rfl) rfl rfl
  refine Call_ (ld_blt I hg2 hm2 boot_set ?_)
  refine PyProof.Rows.callWith_type1 (PyProof.Rows.args_cons (thn (ha.run pins s σ H _ I h) fun v s1 ⟨x, H1, I1, r1, q1⟩ => PyProof.Rows.args_nil ?_) na) na rfl
  obtain ⟨l, xs, rfl, hq, hmax, q1⟩ := q1
  cases r1
  have go : ∀ (its : List Value), Vals (xs.map V.str) its → (s1.heap.IsList l its.toArray ∨ s1.heap.IsTuple l its.toArray) →
      wpAny (model X.prog X.w) X.A (call (.type "set") [.ref l]) (fun v s₂ => wpAny (model X.prog X.w) X.A (spliced (backTo pos (starEach [] X.env))) (fun vs s₃ => wpAny (model X.prog X.w) X.A (call (.builtin "len") (v :: vs)) (EP X pins σ Q) X.xe s₃) X.xe s₂) X.xe s1 := fun its r pl => by
    have hl : its.toArray.size = xs.length := by rw [List.size_toArray, ← r.length, List.length_map]
    refine call_setK (kd := PySem.strKind X.prog X.w) (ks := xs) (I1.ok.hd hc) pl hl.symm (by rw [hl]; exact hmax) (fun i v k hv hk => ?_) fun h' tk hS hk => ?_
    · obtain ⟨t, rfl⟩ := texts_at r i v k (by rw [List.getElem?_toArray] at hv; exact hv) hk
      exact ⟨strKind_is _ _ _ _, rfl⟩
    · refine PyProof.Rows.args_nil ?_
      obtain ⟨o, es, ep, t, ho, hex, hd, _, _, _, hf, hn⟩ := hS
      have I2 : Inv X pins σ H1 { s1 with heap := h', toks := tk } := I1.kept fun c o e => hk c o (Heap.lt_size e) e
      have sm := dd_len_le xs []
      rw [List.length_nil] at sm
      exact call_len_set ho hex hd hf (by rw [hn] <;> omega) ⟨.int ((dd [] xs).length : Nat), H1, I2.tok _, ⟨_, by rw [hn]⟩, q1⟩
  rcases hq with hq | hq
  · obtain ⟨its, r, pl, hz⟩ := I1.list hq
    exact go its r (.inl pl.isList)
  · obtain ⟨its, r, pl, hz⟩ := I1.tuple hq
    exact go its r (.inr pl)
end
end L2

set_option Elab.async false
set_option linter.all false
set_option maxRecDepth 100000
set_option maxHeartbeats 4000000
namespace EvS
open PySem PySem.Spec PyProof.Rows L2
section
variable {X : Cx}
def rTupK (K : PySem.W.Frag) : List V → Hp → VK → Prop := fun xs H Q => ∃ p ys, xs = [.ref p] ∧ ((SqL K H p ys ∧ ∀ l, H l = none → Q (.ref l) (upd H l (.tup ys))) ∨ (SqT K H p ys ∧ Q (.ref p) H))
theorem call_tupK : CallR X (.type "tuple") (rTupK X.K) := call_tuple_of
/-- tuple(xs), xs a list or a tuple -/
def rTupS (K : PySem.W.Frag) : List V → Hp → VK → Prop := fun xs H Q => ∃ p ys, xs = [.ref p] ∧ (SqL K H p ys ∨ SqT K H p ys) ∧ ∀ u H', Evl.Ex H H' → SqT K H' u ys → Q (.ref u) H'
theorem call_tupS : CallR X (.type "tuple") (rTupS X.K) := fun pins s σ H xs us Q I r h => by
  obtain ⟨p, ys, e, hs, q⟩ := h
  refine call_tuple_of pins s σ H xs us Q I r ⟨p, ys, e, ?_⟩
  rcases hs with hs | hs
  · exact .inl ⟨hs, fun l hl => q l _ (Evl.Ex.new hl) (Evl.st_of upd_same)⟩
  · exact .inr ⟨hs, q p H (Evl.Ex.refl H) hs⟩
def rLstK (K : PySem.W.Frag) : List V → Hp → VK → Prop := fun xs H Q => ∃ p ys, xs = [.ref p] ∧ (SqL K H p ys ∨ SqT K H p ys) ∧ ∀ l, H l = none → Q (.ref l) (upd H l (.lst ys))
theorem call_lstK : CallR X (.type "list") (rLstK X.K) := call_list_of
/-- what is never reached -/
theorem pss_any {b : List Stmt} : PSs X b (fun _ _ _ => False) := ⟨fun _ _ _ _ _ _ q => q.elim⟩
theorem ps_any {b : Stmt} : PS X b (fun _ _ _ => False) := ⟨fun _ _ _ _ _ _ q => q.elim⟩
theorem pe_any {e : Expr} : PE X e (fun _ _ _ => False) := ⟨fun _ _ _ _ _ _ q => q.elim⟩
theorem pt_any {e : Expr} : PT X e (fun _ _ _ => False) := ⟨fun _ _ _ _ _ _ q => q.elim⟩
/-- the one way or the other -/
theorem pi_or {tg it : Expr} {w1 w2 : TI} (a : PI X tg it w1) (b : PI X tg it w2) : PI X tg it (fun σ H R => w1 σ H R ∨ w2 σ H R) :=
  ⟨fun pins s σ H R I h => h.elim (fun q => a.run pins s σ H R I q) (fun q => b.run pins s σ H R I q)⟩
theorem pe_or2 {e : Expr} {t1 t2 : TE} (a : PE X e t1) (b : PE X e t2) : PE X e (fun σ H Q => t1 σ H Q ∨ t2 σ H Q) :=
  ⟨fun pins s σ H Q I h => h.elim (fun q => a.run pins s σ H Q I q) (fun q => b.run pins s σ H Q I q)⟩
end
section
variable {X : Cx}
theorem pe_gI {x : Str} {n : Int} {pos : Pos} (hg : Gl X x) (h : ∃ t, X.mg x = some (.int n t)) (hd : (x == ("__debug__" : Str)) = false := by decide) : PE X (.Name x pos) (tC (.int n)) := by
  obtain ⟨t, e⟩ := h
  exact pe_glob hg e ⟨t, rfl⟩ hd
theorem pe_gS {x : Str} {z : Str} {pos : Pos} (hg : Gl X x) (h : ∃ t, X.mg x = some (.str z t)) (hd : (x == ("__debug__" : Str)) = false := by decide) : PE X (.Name x pos) (tC (.str z)) := by
  obtain ⟨t, e⟩ := h
  exact pe_glob hg e ⟨t, rfl⟩ hd
end
/-- a op b op c op d, as a test -/
def tChain3 (r1 r2 r3 : R2) (ta tb tc td : TE) : TE := fun σ H Q => ta σ H fun x H1 => tb σ H1 fun y H2 => r1 x y H2 fun z H3 => ∃ k, z = .bl k ∧ (if k = true then tc σ H3 fun u H4 => r2 y u H4 fun z' H5 => ∃ k', z' = .bl k' ∧ (if k' = true then td σ H5 fun v H6 => r3 u v H6 Q else Q (.bl false) H5) else Q (.bl false) H3)
theorem pt_chain3 {X : Cx} {a b c d : Expr} {ta tb tc td : TE} {pos : Pos} {o1 o2 o3 : CmpOp} {r1 r2 r3 : R2} (h1 : OpR X (compareOp o1) r1) (h2 : OpR X (compareOp o2) r2) (h3 : OpR X (compareOp o3) r3) (ha : PE X a ta) (hb : PE X b tb) (hc : PE X c tc) (hd : PE X d td)
    (hm : lastMarks [o1, o2, o3] [b, c, d] = false := by with_unfolding_all rfl) : PT X (.Compare a [o1, o2, o3] [b, c, d] pos) (tTest (tChain3 r1 r2 r3 ta tb tc td)) := by
  refine ⟨fun pins s σ H Q I h => ?_⟩
  refine isTrue_chain (thn (ha.run pins s σ H _ I h) fun v1 s1 ⟨x, H1, I1, y1, q1⟩ => test_link (thn (hb.run pins s1 σ H1 _ I1 q1) fun v2 s2 ⟨y, H2, I2, y2, q2⟩ => thn (h1 pins s2 σ H2 x y v1 v2 _ I2 y1 y2 q2) fun v3 s3 ⟨z, H3, I3, y3, k, e, q3⟩ => ?_)) hm
  subst e
  cases y3
  refine wpAny_truthy_bool ?_
  cases k with
  | false =>
    obtain ⟨k', e', q'⟩ := q3
    cases e'
    exact ite_ff ⟨H3, I3, q'⟩
  | true =>
    refine ite_tt (test_link (thn (hc.run pins s3 σ H3 _ I3 q3) fun v4 s4 ⟨u, H4, I4, y4, q4⟩ => thn (h2 pins s4 σ H4 y u v2 v4 _ I4 y2 y4 q4) fun v5 s5 ⟨z', H5, I5, y5, k', e', q5⟩ => ?_))
    subst e'
    cases y5
    refine wpAny_truthy_bool ?_
    cases k' with
    | false =>
      obtain ⟨k2, e2, q2'⟩ := q5
      cases e2
      exact ite_ff ⟨H5, I5, q2'⟩
    | true =>
      refine ite_tt (test_last (thn (hd.run pins s5 σ H5 _ I5 q5) fun v6 s6 ⟨v, H6, I6, y6, q6⟩ => thn (h3 pins s6 σ H6 u v v4 v6 _ I6 y4 y6 q6) fun v7 s7 ⟨z2, H7, I7, y7, k2, e2, q7⟩ => ?_))
      subst e2
      cases y7
      exact wpAny_truthy_bool ⟨H7, I7, q7⟩
theorem for_sign {x : Str} {g : TG} {tb : TS} {D : Ends} {σ : L2.St} {H : Hp} (Pv : Nat → L2.St → Hp → Prop) (h0 : Pv 0 σ H)
    (hs : ∀ i c σ H, x.cps[i]? = some c → Pv i σ H → g (.str ⟨#[c]⟩) σ H fun σ2 H2 => tb { D with nx := Pv (i + 1), ct := Pv (i + 1), bk := D.nx } σ2 H2) (hd : ∀ σ H, Pv x.cps.size σ H → D.nx σ H) :
    ∃ W : Nat → Nat → L2.St → Hp → Prop, (∃ m, W 0 m σ H) ∧ ∀ i m σ H, W i m σ H → ((Its x).stop i H ∧ D.nx σ H) ∨
      ((Its x).go i H ∧ ∃ N : L2.St → Hp → Prop, (∀ σ' H', N σ' H' → ∃ m', m' < m ∧ W (i + 1) m' σ' H') ∧ ∀ v H', (Its x).yld i H v H' → g v σ H' fun σ2 H2 => tb { D with nx := N, ct := N, bk := D.nx } σ2 H2) := by
  refine ⟨fun i m σ H => m = x.cps.size - i ∧ i ≤ x.cps.size ∧ Pv i σ H, ⟨x.cps.size, rfl, Nat.zero_le _, h0⟩, ?_⟩
  rintro i m σ H ⟨rfl, hi, p⟩
  by_cases lt : i < x.cps.size
  · refine .inr ⟨lt, Pv (i + 1), fun σ' H' p' => ⟨x.cps.size - (i + 1), by omega, rfl, lt, p'⟩, fun v H' y => ?_⟩
    obtain ⟨rfl, c, hc, rfl⟩ := y
    exact hs i c σ _ hc p
  · obtain rfl : i = x.cps.size := by omega
    exact .inl ⟨Nat.le_refl _, hd σ H p⟩
theorem lc_sign {x : Str} {g : TG} {tt : TT} {te : TE} {vs : List Nat} {σ : L2.St} {H1 : Hp} {D : Addr} {Qd : Hp → Prop} (Pv : Nat → Hp → Prop) (h0 : Pv 0 (upd H1 D (.lst [])))
    (hs : ∀ i c H, x.cps[i]? = some c → Pv i H → g (.str ⟨#[c]⟩) (wipe σ vs) H fun σ2 H2 => wipe σ2 vs = wipe σ vs ∧ tt σ2 H2 fun b H3 =>
      if b = true then te σ2 H3 fun y H4 => ∃ acc, H4 D = some (.lst acc) ∧ acc.length < sizeLine ∧ Pv (i + 1) (upd H4 D (.lst (acc ++ [y]))) else Pv (i + 1) H3) (hd : ∀ H, Pv x.cps.size H → Qd H) :
    ∃ W : Nat → Nat → Hp → Prop, (∃ m, W 0 m (upd H1 D (.lst []))) ∧ ∀ i m H, W i m H → ((Its x).stop i H ∧ Qd H) ∨
      ((Its x).go i H ∧ ∃ Nx : Hp → Prop, (∀ H', Nx H' → ∃ m', m' < m ∧ W (i + 1) m' H') ∧ ∀ v H', (Its x).yld i H v H' → g v (wipe σ vs) H' fun σ2 H2 => wipe σ2 vs = wipe σ vs ∧ tt σ2 H2 fun b H3 =>
        if b = true then te σ2 H3 fun y H4 => ∃ acc, H4 D = some (.lst acc) ∧ acc.length < sizeLine ∧ Nx (upd H4 D (.lst (acc ++ [y]))) else Nx H3) := by
  refine ⟨fun i m H => m = x.cps.size - i ∧ i ≤ x.cps.size ∧ Pv i H, ⟨x.cps.size, rfl, Nat.zero_le _, h0⟩, ?_⟩
  rintro i m H ⟨rfl, hi, p⟩
  by_cases lt : i < x.cps.size
  · refine .inr ⟨lt, Pv (i + 1), fun H' p' => ⟨x.cps.size - (i + 1), by omega, rfl, lt, p'⟩, fun v H' y => ?_⟩
    obtain ⟨rfl, c, hc, rfl⟩ := y
    exact hs i c _ hc p
  · obtain rfl : i = x.cps.size := by omega
    exact .inl ⟨Nat.le_refl _, hd H p⟩
/-- the same of a comprehension without a test -/
theorem lcY_sign {x : Str} {g : TG} {te : TE} {vs : List Nat} {σ : L2.St} {H1 : Hp} {D : Addr} {Qd : Hp → Prop} (Pv : Nat → Hp → Prop) (h0 : Pv 0 (upd H1 D (.lst [])))
    (hs : ∀ i c H, x.cps[i]? = some c → Pv i H → g (.str ⟨#[c]⟩) (wipe σ vs) H fun σ2 H2 => wipe σ2 vs = wipe σ vs ∧ te σ2 H2 fun y H4 => ∃ acc, H4 D = some (.lst acc) ∧ acc.length < sizeLine ∧ Pv (i + 1) (upd H4 D (.lst (acc ++ [y])))) (hd : ∀ H, Pv x.cps.size H → Qd H) :
    ∃ W : Nat → Nat → Hp → Prop, (∃ m, W 0 m (upd H1 D (.lst []))) ∧ ∀ i m H, W i m H → ((Its x).stop i H ∧ Qd H) ∨
      ((Its x).go i H ∧ ∃ Nx : Hp → Prop, (∀ H', Nx H' → ∃ m', m' < m ∧ W (i + 1) m' H') ∧ ∀ v H', (Its x).yld i H v H' → g v (wipe σ vs) H' fun σ2 H2 => wipe σ2 vs = wipe σ vs ∧ tYes σ2 H2 fun b H3 =>
        if b = true then te σ2 H3 fun y H4 => ∃ acc, H4 D = some (.lst acc) ∧ acc.length < sizeLine ∧ Nx (upd H4 D (.lst (acc ++ [y]))) else Nx H3) :=
  lc_sign Pv h0 (fun i c H hc p => hs i c H hc p) hd
theorem lcY_list {K : PySem.W.Frag} {a : Addr} {xs : List V} {g : TG} {te : TE} {vs : List Nat} {σ : L2.St} {H1 : Hp} {D : Addr} {Qd : Hp → Prop} (Pv : Nat → Hp → Prop) (h0 : Pv 0 (upd H1 D (.lst []))) (hl : ∀ i H, i ≤ xs.length → Pv i H → SqL K H a xs)
    (hs : ∀ i x H, xs[i]? = some x → Pv i H → g x (wipe σ vs) H fun σ2 H2 => wipe σ2 vs = wipe σ vs ∧ te σ2 H2 fun y H4 => ∃ acc, H4 D = some (.lst acc) ∧ acc.length < sizeLine ∧ Pv (i + 1) (upd H4 D (.lst (acc ++ [y])))) (hd : ∀ H, Pv xs.length H → Qd H) :
    ∃ W : Nat → Nat → Hp → Prop, (∃ m, W 0 m (upd H1 D (.lst []))) ∧ ∀ i m H, W i m H → ((Itl K a).stop i H ∧ Qd H) ∨
      ((Itl K a).go i H ∧ ∃ Nx : Hp → Prop, (∀ H', Nx H' → ∃ m', m' < m ∧ W (i + 1) m' H') ∧ ∀ x H', (Itl K a).yld i H x H' → g x (wipe σ vs) H' fun σ2 H2 => wipe σ2 vs = wipe σ vs ∧ tYes σ2 H2 fun b H3 =>
        if b = true then te σ2 H3 fun y H4 => ∃ acc, H4 D = some (.lst acc) ∧ acc.length < sizeLine ∧ Nx (upd H4 D (.lst (acc ++ [y]))) else Nx H3) :=
  lc_list Pv h0 hl (fun i c H hc p => hs i c H hc p) hd
theorem lcY_tup {K : PySem.W.Frag} {a : Addr} {xs : List V} {g : TG} {te : TE} {vs : List Nat} {σ : L2.St} {H1 : Hp} {D : Addr} {Qd : Hp → Prop} (Pv : Nat → Hp → Prop) (h0 : Pv 0 (upd H1 D (.lst []))) (hl : ∀ i H, i ≤ xs.length → Pv i H → SqT K H a xs)
    (hs : ∀ i x H, xs[i]? = some x → Pv i H → g x (wipe σ vs) H fun σ2 H2 => wipe σ2 vs = wipe σ vs ∧ te σ2 H2 fun y H4 => ∃ acc, H4 D = some (.lst acc) ∧ acc.length < sizeLine ∧ Pv (i + 1) (upd H4 D (.lst (acc ++ [y])))) (hd : ∀ H, Pv xs.length H → Qd H) :
    ∃ W : Nat → Nat → Hp → Prop, (∃ m, W 0 m (upd H1 D (.lst []))) ∧ ∀ i m H, W i m H → ((Itt K a).stop i H ∧ Qd H) ∨
      ((Itt K a).go i H ∧ ∃ Nx : Hp → Prop, (∀ H', Nx H' → ∃ m', m' < m ∧ W (i + 1) m' H') ∧ ∀ x H', (Itt K a).yld i H x H' → g x (wipe σ vs) H' fun σ2 H2 => wipe σ2 vs = wipe σ vs ∧ tYes σ2 H2 fun b H3 =>
        if b = true then te σ2 H3 fun y H4 => ∃ acc, H4 D = some (.lst acc) ∧ acc.length < sizeLine ∧ Nx (upd H4 D (.lst (acc ++ [y]))) else Nx H3) :=
  lc_tup Pv h0 hl (fun i c H hc p => hs i c H hc p) hd
theorem exc_self {K : PySem.W.Frag} {S : Addr} (h1 : PySem.W.subIn K (.ref S) (.type "BaseException") = some true) (h2 : PySem.W.isClsIn K S = true) (h3 : PySem.W.typeIn K (.ref S) = some (.type "type")) (h4 : PySem.W.subIn K (.ref S) (.ref S) = some true) :
    PySem.W.exmOne K (.ref S) (.ref S) = some true := by
  have e1 : (PySem.W.subIn K (.ref S) (.type "BaseException") == some true) = true := by rw [h1] <;> rfl
  have e2 : ((PySem.W.clsIn K S).isSome && PySem.W.typeIn K (.ref S) == some (.type "type")) = true := by
    have h2' : (PySem.W.clsIn K S).isSome = true := h2
    rw [h2', h3] <;> rfl
  show (if (PySem.W.subIn K (.ref S) (.type "BaseException") == some true) = true then (if ((PySem.W.clsIn K S).isSome && PySem.W.typeIn K (.ref S) == some (.type "type")) = true then PySem.W.subIn K (.ref S) (.ref S) else none) else none) = some true
  rw [if_pos e1, if_pos e2]
  exact h4
end EvS
namespace EvS
open PySem PySem.Spec PyProof.Rows L2
theorem r65 {k : Nat} {A : Around} (r : Room k A) : A.units + 65 < cLine := by have := r.un; omega
theorem blkOk_nest {X : Cx} {s : Shared} {H : Hp} {scope inner : Scope} {C : Addr} {cl : List (Str × Addr)} {fp : List Addr} {own : List (Str × Nat)} {N : List Str} {sc : Scope} (hN : X.N = N) (hs : X.env.scope = sc) (h : blkC N (relS scope sc) inner own = true) :
    BlkOk (X.blk s H scope (compEnvC scope cl C X.env) fp).N (X.blk s H scope (compEnvC scope cl C X.env) fp).env.scope inner own := by
  subst hN hs
  exact blkOk_by h
end EvS

set_option Elab.async false
set_option linter.all false
set_option maxRecDepth 100000
set_option maxHeartbeats 4000000
/-! len(set(xs)), xs a list of different tuples of texts (fewer than 64) -/
namespace TxSet
open PySem PySem.Spec PyProof.Rows L2
section
variable {P : Program} {w : World} {A : Around} {E : Value → Shared → Prop} {s : Shared}
abbrev TwAt (P : Program) (w : World) (h : Heap) (k : List Str) (b : Addr) : Prop := IsTupleKey (PySem.strKind P w) h k b
abbrev hs (P : Program) (w : World) (k : List Str) : Int := tupleKeyHash (PySem.strKind P w) k
abbrev go0 (t : SetTable) (h : Int) : SetTable.Probe := runAt t.mask (SetTable.bits h % (t.mask + 1)) (SetTable.bits h)
theorem words_of {k : List Str} {vs : List Value} (h : ItemsAre (PySem.strKind P w) k vs) : ∀ v ∈ vs, ∃ z t, v = Value.str z t := by
  induction h with
  | nil => exact fun v hv => by cases hv
  | @cons k0 u ks us h1 _ ih =>
    intro v hv
    cases hv with
    | head =>
      obtain ⟨t, e⟩ := Value.isStrOf_shape h1
      exact ⟨k0, t, e⟩
    | tail _ q => exact ih v q
theorem noClass (n : Nat) (z : Str) (t : Tok) : ofAClassStatement n (.str z t) = pure false := by cases n <;> rfl
theorem byVal (n : Nat) (z : Str) (t : Tok) : hashByValue n (.str z t) = pure false := by cases n <;> rfl
theorem noClassT {k : List Str} {b : Addr} {Q : Bool → Shared → Prop} (hk : TwAt P w s.heap k b) (q : Q false s) : wpAny (model P w) A (ofAClassStatement 8 (.ref b)) Q E s := by
  have ty := hk.typeIs
  obtain ⟨o, its, n, ho, _, hd, hi⟩ := hk
  have all := words_of hi
  unfold ofAClassStatement
  refine wpAny_bind (wpAny_typeOf ty ?_)
  dsimp only
  simp only [show (("tuple" : String) == "tuple") = true by decide, if_true, Bool.not_true, Bool.false_eq_true, if_false]
  try refine wpAny_bind (wpAny_pure ?_)
  try simp only [Bool.not_true, Bool.false_eq_true, if_false]
  refine wpAny_bind (m := seqItems? (.ref b)) (wpAny_seqItems ho hd ?_)
  dsimp only
  refine wpAny_bind (m := forIn its _ _) ?_
  rw [← Array.forIn_toList]
  refine wpAny_forIn_list _ (fun l r s' => (∀ v ∈ l, ∃ z t, v = Value.str z t) ∧ r.1 = none ∧ s' = s) _ ?_ ?_ _ _ ⟨all, rfl, rfl⟩
  · rintro v l r s' ⟨hl, hr, rfl⟩
    obtain ⟨z, t, rfl⟩ := hl v List.mem_cons_self
    rw [noClass]
    refine wpAny_bind (wpAny_pure ?_)
    simp only [Bool.false_eq_true, if_false]
    exact wpAny_pure ⟨fun u hu => hl u (List.mem_cons_of_mem _ hu), rfl, rfl⟩
  · rintro ⟨r1, r2⟩ s' ⟨_, hr, rfl⟩
    simp only at hr
    subst hr
    exact wpAny_pure q
theorem byValT {k : List Str} {b : Addr} {Q : Bool → Shared → Prop} (hk : TwAt P w s.heap k b) (q : ∀ v, Q v s) : wpAny (model P w) A (hashByValue 8 (.ref b)) Q E s := by
  have ty := hk.typeIs
  obtain ⟨o, its, n, ho, _, hd, hi⟩ := hk
  have all := words_of hi
  unfold hashByValue
  refine wpAny_bind (wpAny_specialOf ty F.slot_tuple_hash.lookup ?_)
  refine wpAny_bind (m := seqItems? (.ref b)) (wpAny_seqItems ho hd ?_)
  refine wpAny_bind (m := forIn its _ _) ?_
  rw [← Array.forIn_toList]
  refine wpAny_forIn_list _ (fun l r s' => (∀ v ∈ l, ∃ z t, v = Value.str z t) ∧ r.1 = none ∧ s' = s) _ ?_ ?_ _ _ ⟨all, rfl, rfl⟩
  · rintro v l r s' ⟨hl, hr, rfl⟩
    obtain ⟨z, t, rfl⟩ := hl v List.mem_cons_self
    rw [byVal]
    refine wpAny_bind (wpAny_pure ?_)
    simp only [Bool.not_false, if_true]
    exact wpAny_pure (wpAny_pure (q false))
  · rintro ⟨r1, r2⟩ s' ⟨_, hr, rfl⟩
    simp only at hr
    subst hr
    exact wpAny_pure (q true)
/-- nothing of the table is shown -/
theorem hidden {k : List Str} {b : Addr} {Q : Bool → Shared → Prop} (hk : TwAt P w s.heap k b) {ys : List Value} (hy : ∀ y ∈ ys, ∃ c k2, y = Value.ref c ∧ TwAt P w s.heap k2 c) (q : Q false s) :
    wpAny (model P w) A (searchCouldBeSeen (.ref b) ys) Q E s := by
  unfold searchCouldBeSeen
  refine wpAny_bind (wpAny_forIn_list _ (fun l r s' => (∀ y ∈ l, ∃ c k2, y = Value.ref c ∧ TwAt P w s.heap k2 c) ∧ r.1 = none ∧ s' = s) _ ?_ ?_ _ _ ⟨hy, rfl, rfl⟩)
  · rintro v l r s' ⟨hl, hr, rfl⟩
    obtain ⟨c, k2, rfl, hc⟩ := hl v List.mem_cons_self
    have more := fun u hu => hl u (List.mem_cons_of_mem _ hu)
    dsimp only
    by_cases e : (b == c || (carriedByValue (.ref b) && carriedByValue (.ref c))) = true
    · exact wp_if_pos e (wpAny_pure ⟨more, rfl, rfl⟩)
    · refine wp_if_neg e (wpAny_bind (wpAny_eqIsQuiet_tuple hk ?_))
      simp only [Bool.not_true, Bool.false_eq_true, if_false]
      refine wpAny_bind (wpAny_eqIsQuiet_tuple hc ?_)
      simp only [Bool.not_true, Bool.false_eq_true, if_false]
      refine wpAny_bind (noClassT hk ?_)
      simp only [Bool.false_eq_true, if_false]
      refine wpAny_bind (noClassT hc ?_)
      simp only [Bool.false_eq_true, if_false]
      exact wpAny_pure ⟨more, rfl, rfl⟩
  · rintro ⟨r1, r2⟩ s' ⟨_, hr, rfl⟩
    simp only at hr
    subst hr
    exact wpAny_pure q
/-! ### the set as it grows -/
def cells (P : Program) (w : World) (L : List (Addr × List Str)) : List (Int × Value) := L.map fun p => (hs P w p.2, Value.ref p.1)
theorem cells_len (L : List (Addr × List Str)) : (cells P w L).length = L.length := List.length_map ..
structure Bag (P : Program) (w : World) (h : Heap) (a : Addr) (L : List (Addr × List Str)) (es : Array (Int × Value)) (ep : Nat) (t : SetTable) : Prop where
  obj : ∃ o, h.get? a = some o ∧ o.ExactSet ∧ o.data = .set es ep t
  cel : es.toList = cells P w L
  tab : TabOk t (L.map fun p => hs P w p.2)
  key : ∀ p ∈ L, TwAt P w h p.2 p.1
  lrn : w.params.followText "set-order" = true ∨ t.led = true
  rom : L.length * 5 < t.mask * 3
  sml : L.length < 64
variable {a : Addr} {L : List (Addr × List Str)} {es : Array (Int × Value)} {ep : Nat} {t : SetTable}
theorem Bag.size (B : Bag P w s.heap a L es ep t) : es.size = L.length := by
  rw [← Array.length_toList, B.cel, cells_len]
theorem Bag.places (B : Bag P w s.heap a L es ep t) : t.place.toList.length = L.length := by
  rw [Array.length_toList, B.tab.sz, List.length_map]
theorem Bag.fit (B : Bag P w s.heap a L es ep t) : t.fits es.size = true := by
  have q1 := B.places
  have q2 := B.size
  have q3 := B.rom
  rw [Array.length_toList] at q1
  unfold SetTable.fits SetTable.fill
  rw [B.tab.dm, Bool.and_eq_true, beq_iff_eq, decide_eq_true_eq]
  constructor
  · omega
  · show t.place.size + 0 ≤ t.mask
    omega
theorem Bag.cell (B : Bag P w s.heap a L es ep t) {i : Nat} {p : Addr × List Str} (h : L[i]? = some p) : es[i]? = some (hs P w p.2, Value.ref p.1) := by
  rw [← Array.getElem?_toList, B.cel]
  unfold cells
  rw [List.getElem?_map, h]
  rfl
theorem nth_plain (m : Nat) : ∀ (n : Nat) (p : SetTable.Probe), p.dummy = none → (nth m p n).dummy = none
  | 0, _, h => h
  | n + 1, p, h => by
    refine nth_plain m n (adv m p) ?_
    unfold adv
    split <;> exact h
/-- the search for what isn't there ends at the first empty slot of its way -/
theorem seek (B : Bag P w s.heap a L es ep t) {x : Addr} {k : List Str} (hx : TwAt P w s.heap k x) (hu : A.units < cLine) (away : ∀ p ∈ L, p.2 ≠ k) {K : Nat} (hK : K < 10 * SetTable.turns t.mask)
    (hfree : way t.mask (hs P w k) K ∉ t.place.toList) (hbusy : ∀ c, c < K → way t.mask (hs P w k) c ∈ t.place.toList) {Q : SetFound → Shared → Prop} (q : Q (.free (way t.mask (hs P w k) K) false) s) :
    ∀ (f c : Nat) (st : Option SetTable.Probe), st.getD (t.probeStart (hs P w k)) = nth t.mask (go0 t (hs P w k)) c → c ≤ K → K - c < f → wpAny (model P w) A (setSearchFrom a (.ref x) (hs P w k) true f st) Q E s := by
  intro f
  induction f with
  | zero => intro c st _ _ h; exact absurd h (Nat.not_lt_zero _)
  | succ f ih =>
    intro c st hst hc hf
    obtain ⟨o, ho, hex, hd⟩ := B.obj
    rw [setSearchFrom_succ]
    refine wpAny_bind (wpAny_setState_of ho hd B.fit ?_)
    dsimp only
    refine wp_if_neg (by unfold SetTable.gaveWay; rw [mask_odd B.tab.mok]; decide) ?_
    try refine wpAny_bind (wpAny_pure ?_)
    have shift : ∀ n, nth t.mask (nth t.mask (go0 t (hs P w k)) c) n = nth t.mask (go0 t (hs P w k)) (c + n) := fun n => (nth_add t.mask c _ n).symm
    have at_ : ∀ n, (nth t.mask (nth t.mask (go0 t (hs P w k)) c) n).j = way t.mask (hs P w k) (c + n) := fun n => congrArg SetTable.Probe.j (shift n)
    have back : c + (K - c) = K := by omega
    rcases go_spec t B.tab.ris B.tab.dm (fun i => (es[i]?.map (·.1)).getD 0) (hs P w k) (10 * SetTable.turns t.mask) (K - c) _ (nth_plain t.mask c _ rfl) (by omega) (fun n hn => by rw [at_]; exact hbusy _ (by omega)) (by rw [at_, back]; exact hfree) with ⟨n, i, hn, hi, _, _, e⟩ | ⟨_, e⟩
    · have e' : t.probe (fun i => (es[i]?.map (·.1)).getD 0) (hs P w k) (st.getD (t.probeStart (hs P w k))) = some (.candidate (way t.mask (hs P w k) (c + n)) i (nth t.mask (go0 t (hs P w k)) (c + (n + 1)))) := by
        rw [hst, ← at_, ← shift]
        exact e
      rw [e']
      dsimp only
      rw [at_] at hi
      have il : i < L.length := by
        rw [← B.places]
        exact (List.getElem?_eq_some_iff.mp hi).1
      obtain ⟨p, hp⟩ : ∃ p, L[i]? = some p := ⟨_, List.getElem?_eq_getElem il⟩
      have pin := List.mem_of_getElem? hp
      have other := away p pin
      have go : wpAny (model P w) A (searchRest a (.ref x) (hs P w k) true f es t (way t.mask (hs P w k) (c + n)) i (nth t.mask (go0 t (hs P w k)) (c + (n + 1)))) Q E s := by
        unfold searchRest
        rw [B.cell hp]
        dsimp only
        refine wpAny_bind (wpAny_holding (wpAny_eqBool_tuple hu (B.key p pin) hx ?_))
        refine wpAny_bind (wpAny_setState_of ho hd B.fit ?_)
        dsimp only
        refine wp_if_neg (by simp [other]) ?_
        try refine wpAny_bind (wpAny_pure ?_)
        rw [sameMem]
        dsimp only
        simp only [if_true, slot_live B.tab.ris hi, B.cell hp]
        refine wpAny_bind (wpAny_isSame_ref_self (wpAny_bind (wpAny_pure ?_)))
        simp only [if_true]
        refine wp_if_neg (by simp [other]) ?_
        exact ih (c + (n + 1)) _ rfl (by omega) (by omega)
      by_cases hl : t.led = true
      · refine wp_if_neg (by simp [hl]) ?_
        try refine wpAny_bind (wpAny_pure ?_)
        exact go
      · refine wp_if_pos (by simp [hl]) (wpAny_bind (hidden hx (fun y hy => ?_) ?_))
        · obtain ⟨d, hd1, hd2⟩ := List.mem_map.mp hy
          have m1 : d ∈ es.toList := by
            have : d ∈ es ∧ d.1 = hs P w k := by simpa using hd1
            simpa using this.1
          rw [B.cel] at m1
          obtain ⟨p2, m2, e2⟩ := List.mem_map.mp m1
          exact ⟨p2.1, p2.2, by rw [← hd2, ← e2], B.key p2 m2⟩
        · refine wp_if_neg (by decide) ?_
          try refine wpAny_bind (wpAny_pure ?_)
          exact go
    · have e' : t.probe (fun i => (es[i]?.map (·.1)).getD 0) (hs P w k) (st.getD (t.probeStart (hs P w k))) = some (.empty (way t.mask (hs P w k) K) none) := by
        have z := at_ (K - c)
        rw [back] at z
        rw [hst, ← z]
        exact e
      rw [e']
      dsimp only
      exact wpAny_pure q
/-! ### the set grows by one -/
theorem still {h h' : Heap} {k : List Str} {c : Addr} {o : Obj} (hk : TwAt P w h k c) (ho : h.get? a = some o) (hd : o.data = .set es ep t) (sb : Heap.SameBut a h h') : TwAt P w h' k c := by
  obtain ⟨u, its, n, hu, hc, hi, hw⟩ := hk
  refine ⟨u, its, n, ?_, hc, hi, hw⟩
  rw [sb.2 c fun z => ?_]
  · exact hu
  · rw [z, ho] at hu
    rw [← Option.some.inj hu, hd] at hi
    cases hi
theorem range_get {α : Type} (L : List α) : ∀ n, n ≤ L.length → (List.range n).filterMap (fun i => L[i]?) = L.take n
  | 0, _ => rfl
  | n + 1, h => by
    have lt : n < L.length := h
    rw [List.range_succ, List.filterMap_append, range_get L n (Nat.le_of_lt lt), List.take_add_one, List.getElem?_eq_getElem lt]
    simp [List.getElem?_eq_getElem lt]
theorem chosen (hc : es.toList = cells P w L) : ∀ l : List Nat, (∀ i ∈ l, i < L.length) → l.filterMap (fun i => es[i]?) = cells P w (l.filterMap fun i => L[i]?) ∧ (l.filterMap fun i => L[i]?).map (fun p => hs P w p.2) = l.map fun i => (es.map (·.1)).getD i 0
  | [], _ => ⟨rfl, rfl⟩
  | i :: l, h => by
    obtain ⟨e1, e2⟩ := chosen hc l fun j hj => h j (List.mem_cons_of_mem _ hj)
    have il := h i List.mem_cons_self
    have gL : L[i]? = some L[i] := List.getElem?_eq_getElem il
    have gE : es[i]? = some (hs P w (L[i]).2, Value.ref (L[i]).1) := by
      rw [← Array.getElem?_toList, hc]
      unfold cells
      rw [List.getElem?_map, gL]
      rfl
    have gD : (es.map (·.1)).getD i 0 = hs P w (L[i]).2 := by
      have z : (es.map (·.1))[i]? = some (hs P w (L[i]).2) := by
        rw [Array.getElem?_map, gE]
        rfl
      rw [Array.getD_eq_getD_getElem?, z]
      rfl
    rw [List.filterMap_cons_some gE, List.filterMap_cons_some gL, e1, List.map_cons, List.map_cons, e2, gD]
    exact ⟨rfl, rfl⟩
/-- the table is laid anew, larger -/
theorem relaid_new {o : Obj} (ho : s.heap.get? a = some o) (hex : o.ExactSet) (hd : o.data = .set es ep t) (hc : es.toList = cells P w L) (hp : t.place.size = es.size) (hdm : t.dummies = #[]) (hfl : es.size ≤ t.mask)
    (key : ∀ p ∈ L, TwAt P w s.heap p.2 p.1) (ld : w.params.followText "set-order" = true ∨ t.led = true) (few : L.length < 64) {wanted M : Nat} (hw : SetTable.sizeAbove wanted - 1 = M) (hM : MaskOk M) (hw2 : SetTable.sizeAbove wanted ≤ 128)
    (hn : L.length * 5 < M * 3) {Q : Unit → Shared → Prop} (q : ∀ h' L' es' ep' t', Heap.SameBut a s.heap h' → Bag P w h' a L' es' ep' t' → L'.Perm L → Q () { s with heap := h' }) : wpAny (model P w) A (setRelay a wanted) Q E s := by
  have hl : es.size = L.length := by rw [← Array.length_toList, hc, cells_len]
  have hfit : t.fits es.size = true := by
    unfold SetTable.fits SetTable.fill
    rw [hdm, Bool.and_eq_true, beq_iff_eq, decide_eq_true_eq]
    exact ⟨hp, by show t.place.size + 0 ≤ t.mask; omega⟩
  have hsz : (es.map (·.1)).size = L.length := by rw [Array.size_map, hl]
  obtain ⟨t', ord, e, pm, T, em, el, _, _⟩ := relaid_ok t (hs := es.map (·.1)) (wanted := wanted) hw hM (by rw [hsz]; omega)
  rw [hsz] at pm
  obtain ⟨c1, c2⟩ := chosen (P := P) (w := w) (L := L) hc ord.toList fun i hi => List.mem_range.mp (pm.mem_iff.mp hi)
  have pL : (ord.toList.filterMap fun i => L[i]?).Perm L := by
    have z := pm.filterMap fun i => L[i]?
    rw [range_get L L.length (Nat.le_refl _), List.take_length] at z
    exact z
  generalize ord.toList.filterMap (fun i => L[i]?) = L2 at c1 c2 pL
  rw [← c2] at T
  have cl : (ord.filterMap (es[·]?)).toList = cells P w L2 := by first | (rw [Array.toList_filterMap]; exact c1) | simpa using c1
  have sz2 : (ord.filterMap (es[·]?)).size = es.size := by rw [← Array.length_toList, cl, cells_len, pL.length_eq, hl]
  rw [setRelay_eq]
  refine wpAny_bind (wpAny_setState_of ho hd hfit ?_)
  dsimp only
  refine wp_if_neg (by rw [sizeLine_eq]; omega) ?_
  try refine wpAny_bind (wpAny_pure ?_)
  rw [e]
  dsimp only
  refine wpAny_bind ?_
  refine wp_if_neg (by rw [sz2]; simp) ?_
  try refine wpAny_bind (wpAny_pure ?_)
  refine wpAny_pure ?_
  dsimp only
  refine wpAny_storeSet_of ho hd ?_ (by rw [sz2, hl, sizeLine_eq]; omega)
  have sb : Heap.SameBut a s.heap (s.heap.update a (Obj.putSet (ord.filterMap (es[·]?)) t')) := Heap.SameBut.update ..
  refine q _ L2 (ord.filterMap (es[·]?)) (ep + 1) t' sb ⟨⟨_, store_at ho hd, ⟨hex.1, hex.2.1, hex.2.2⟩, rfl⟩, cl, T, fun p hp => still (key p (pL.mem_iff.mp hp)) ho hd sb, by rw [el]; exact ld, by rw [pL.length_eq, em]; exact hn, by rw [pL.length_eq]; exact few⟩ pL
theorem add_new (B : Bag P w s.heap a L es ep t) {x : Addr} {k : List Str} (hx : TwAt P w s.heap k x) (hu : A.units < cLine) (away : ∀ p ∈ L, p.2 ≠ k) (few : L.length + 1 < 64) {Q : Bool → Shared → Prop}
    (q : ∀ h' L' es' ep' t', Heap.SameBut a s.heap h' → Bag P w h' a L' es' ep' t' → L'.Perm ((x, k) :: L) → Q true { s with heap := h' }) : wpAny (model P w) A (setAddHashed a (.ref x) (hs P w k)) Q E s := by
  obtain ⟨o, ho, hex, hd⟩ := B.obj
  have hl := B.size
  have rom := B.rom
  have lenT : (L.map fun p => hs P w p.2).length = L.length := List.length_map ..
  obtain ⟨K, hK, hfree, hbusy⟩ := B.tab.first (by rw [lenT]; omega) (hs P w k)
  have big : K < 100000 := by
    have z : 10 * SetTable.turns t.mask ≤ 1420 := by
      unfold SetTable.turns
      rcases B.tab.mok with e | e | e <;> omega
    omega
  unfold setAddHashed
  refine wpAny_holding ?_
  rw [show (100000 : Nat) = 99999 + 1 from rfl, setAddHashedIn_succ]
  refine wpAny_bind (wpAny_setState_of ho hd B.fit ?_)
  dsimp only
  refine wp_if_neg (by simp [byScan, Value.scannable]) ?_
  try refine wpAny_bind (wpAny_pure ?_)
  refine wpAny_bind (m := setSearch a (.ref x) (hs P w k) true) ?_
  unfold setSearch
  refine seek B hx hu away hK hfree hbusy ?_ 100000 0 none rfl (Nat.zero_le _) (by omega)
  dsimp only
  refine wpAny_bind (wpAny_setState_of ho hd B.fit ?_)
  dsimp only
  obtain ⟨g1, g2, g3, g4, g5, _, _, _, g9⟩ := B.tab.put hfree hbusy
  generalize hpt : t.put (way t.mask (hs P w k) K) = pt at g1 g3 g4 g5 g9 ⊢
  obtain ⟨t1, p⟩ := pt
  dsimp only at g1 g3 g4 g5 g9 ⊢
  subst g1
  generalize SetTable.below t.place (way t.mask (hs P w k) K) = p at g2 g3 ⊢
  have pm : (L.take p ++ (x, k) :: L.drop p).Perm ((x, k) :: L) := put_perm L p (x, k)
  have cl : (SetTable.insertAt es p (hs P w k, Value.ref x)).toList = cells P w (L.take p ++ (x, k) :: L.drop p) := by
    rw [SetTable.toList_insertAt, B.cel]
    unfold cells
    rw [List.map_append, List.map_cons, List.map_take, List.map_drop]
  have ht : (L.take p ++ (x, k) :: L.drop p).map (fun p => hs P w p.2) = (L.map fun p => hs P w p.2).take p ++ hs P w k :: (L.map fun p => hs P w p.2).drop p := by
    rw [List.map_append, List.map_cons, List.map_take, List.map_drop]
  rw [← ht] at g3
  rw [lenT] at g9
  generalize L.take p ++ (x, k) :: L.drop p = L1 at pm cl g3
  have len1 : L1.length = L.length + 1 := pm.length_eq
  have sz1 : (SetTable.insertAt es p (hs P w k, Value.ref x)).size = L.length + 1 := by rw [← Array.length_toList, cl, cells_len, len1]
  generalize SetTable.insertAt es p (hs P w k, Value.ref x) = es1 at cl sz1 ⊢
  -- behind the question whether its hash goes by value
  have rest : ∀ t2 : SetTable, TabOk t2 (L1.map fun p => hs P w p.2) → t2.mask = t.mask → t2.led = t.led → t2.fill = L.length + 1 → wpAny (model P w) A (do
      storeSet a es1 t2
      if !false && t2.tooFull then setRelay a (SetTable.grown (es.size + 1))
      return true) Q E s := fun t2 T2 m2 l2 f2 => by
    refine wpAny_bind (wpAny_storeSet_of ho hd ?_ (by rw [sz1, sizeLine_eq]; omega))
    have sb : Heap.SameBut a s.heap (s.heap.update a (Obj.putSet es1 t2)) := Heap.SameBut.update ..
    have ho1 := store_at (es' := es1) (t' := t2) ho hd
    generalize s.heap.update a (Obj.putSet es1 t2) = h1 at sb ho1 ⊢
    have key1 : ∀ p ∈ L1, TwAt P w h1 p.2 p.1 := fun p hp => by
      rcases List.mem_cons.mp (pm.mem_iff.mp hp) with e | hp
      · rw [e]
        exact still hx ho hd sb
      · exact still (B.key p hp) ho hd sb
    have ld1 : w.params.followText "set-order" = true ∨ t2.led = true := by rw [l2]; exact B.lrn
    by_cases hf : t2.tooFull = true
    · have full : (L.length + 1) * 5 ≥ t2.mask * 3 := by
        have z := hf
        unfold SetTable.tooFull at z
        rw [decide_eq_true_eq, f2] at z
        exact z
      have places : t2.place.size = es1.size := by
        have z := T2.sz
        rw [List.length_map, len1] at z
        rw [z, sz1]
      have two : (t.mask = 7 ∧ L.length = 4) ∨ (t.mask = 31 ∧ L.length = 18) := by
        rw [m2] at full
        rcases B.tab.mok with e | e | e <;> rw [e] at full rom
        · exact .inl ⟨e, by omega⟩
        · exact .inr ⟨e, by omega⟩
        · omega
      have laid : ∀ M, SetTable.sizeAbove (SetTable.grown (es.size + 1)) - 1 = M → MaskOk M → SetTable.sizeAbove (SetTable.grown (es.size + 1)) ≤ 128 → (L.length + 1) * 5 < M * 3 →
          wpAny (model P w) A (setRelay a (SetTable.grown (es.size + 1))) (fun _ s' => wpAny (model P w) A (pure true) Q E s') E { s with heap := h1 } := fun M z1 z2 z3 z4 => by
        refine relaid_new (s := { s with heap := h1 }) ho1 ⟨hex.1, hex.2.1, hex.2.2⟩ rfl cl places T2.dm (by rw [sz1, m2]; rcases two with ⟨y1, y2⟩ | ⟨y1, y2⟩ <;> omega) key1 ld1 (by rw [len1]; exact few) z1 z2 z3 (by rw [len1]; exact z4) ?_
        exact fun h2 L2 es2 ep2 t3 sb2 B2 pm2 => wpAny_pure (q h2 L2 es2 ep2 t3 (sb.trans sb2) B2 (pm2.trans pm))
      have fin : wpAny (model P w) A (setRelay a (SetTable.grown (es.size + 1))) (fun _ s' => wpAny (model P w) A (pure true) Q E s') E { s with heap := h1 } := by
        rcases two with ⟨_, y⟩ | ⟨_, y⟩
        · exact laid 31 (by rw [hl, y, size_20]) (.inr (.inl rfl)) (by rw [hl, y, size_20]; decide) (by omega)
        · exact laid 127 (by rw [hl, y, size_76]) (.inr (.inr rfl)) (by rw [hl, y, size_76]; decide) (by omega)
      first
        | (refine wpAny_bind ?_; refine wp_if_pos (by simp [hf]) ?_; exact fin)
        | (refine wp_if_pos (by simp [hf]) ?_; refine wpAny_bind ?_; exact fin)
    · have done := q h1 L1 es1 (ep + 1) t2 sb ⟨⟨_, ho1, ⟨hex.1, hex.2.1, hex.2.2⟩, rfl⟩, cl, T2, key1, ld1, (by
          have z := hf
          unfold SetTable.tooFull at z
          rw [decide_eq_true_eq, f2] at z
          rw [len1]
          omega), by rw [len1]; exact few⟩ pm
      first
        | (refine wp_if_neg (by simp [hf]) ?_; exact wpAny_pure done)
        | (refine wpAny_bind ?_; refine wp_if_neg (by simp [hf]) ?_; refine wpAny_pure ?_; exact wpAny_pure done)
  have both : ∀ v : Bool, wpAny (model P w) A (do
      storeSet a es1 (if v then t1 else { t1 with plain := false })
      if !false && (if v then t1 else { t1 with plain := false }).tooFull then setRelay a (SetTable.grown (es.size + 1))
      return true) Q E s := fun v => by
    cases v with
    | true => exact rest t1 g3 g4 g5 g9
    | false => exact rest { t1 with plain := false } ⟨g3.ris, g3.dm, g3.sz, g3.mok, g3.bd, g3.reach⟩ g4 g5 g9
  by_cases hpl : t1.plain = true
  · first
      | (refine wpAny_bind ?_; refine wp_if_pos hpl ?_; exact byValT hx both)
      | exact wp_if_pos hpl (wpAny_bind (byValT hx both))
  · first
      | (refine wpAny_bind ?_; refine wp_if_neg hpl ?_; exact wpAny_pure (both true))
      | exact wp_if_neg hpl (wpAny_bind (wpAny_pure (both true)))
/-! ### set(xs) -/
def fresh0 (w : World) : Obj := { cls := .type "set", dict := none, data := .set #[] 0 (.fresh 0 0 (!w.params.followText "set-order")) }
theorem bag0 {h : Heap} (ho : h.get? a = some (fresh0 w)) : Bag P w h a [] #[] 0 (.fresh 0 0 (!w.params.followText "set-order")) where
  obj := ⟨_, ho, ⟨rfl, rfl, rfl⟩, rfl⟩
  cel := rfl
  tab := ⟨List.Pairwise.nil, rfl, rfl, .inl rfl, fun x hx => (by cases hx), fun i h j hi => (by simp at hi)⟩
  key := fun p hp => (by cases hp)
  lrn := by
    show _ ∨ (!w.params.followText "set-order") = true
    cases w.params.followText "set-order"
    · exact .inr rfl
    · exact .inl rfl
  rom := by
    show 0 * 5 < 7 * 3
    decide
  sml := by
    show 0 < 64
    decide
theorem there {h h' : Heap} {k : List Str} {c : Addr} (hk : TwAt P w h k c) (kp : ∀ b o, h.get? b = some o → h'.get? b = some o) : TwAt P w h' k c := by
  obtain ⟨u, its, n, hu, more⟩ := hk
  exact ⟨u, its, n, kp c u hu, more⟩
theorem grow {I : Addr} {fp wr : List Addr} {G : Array GenState → Array GenState → Prop} {n : Nat} {Pv : Nat → Value → Prop} {St : Nat → Shared → Prop} {R : Result → Shared → Prop}
    (W : WalksS P w A.in1 I fp wr G n Pv St) (S : Addr) (nf : S ∉ fp) (ks : List (Addr × List Str)) (hn : ks.length = n) (few : n < 64) (diff : (ks.map (·.2)).Nodup) (hat : ∀ i v, Pv i v → ∃ p, ks[i]? = some p ∧ v = .ref p.1)
    (g : Heap) (hk : ∀ p ∈ ks, TwAt P w g p.2 p.1) (gS : g.get? S = none) (gw : ∀ b ∈ wr, g.get? b = none) (hu : A.in1.units < cLine) :
    ∀ (m i : Nat) (s : Shared), n - i = m → i ≤ n → St i s → (∀ b o, g.get? b = some o → s.heap.get? b = some o) → (∃ L es ep t, Bag P w s.heap S L es ep t ∧ L.Perm (ks.take i)) →
      (∀ s' L es ep t, Moved (S :: wr) G s s' → Bag P w s'.heap S L es ep t → L.Perm ks → R (.ok (.ret .none)) s') → codeAny (model P w) A (.builtin "set.update.loop" ⟨[.ref S, .ref I], []⟩) R s := by
  have nw : S ∉ wr := fun q => nf (W.sub _ q)
  have up : ∀ c ∈ wr, c ∈ S :: wr := fun c hc => List.mem_cons_of_mem _ hc
  have onward : ∀ {s s' : Shared}, Moved wr G s s' → (∀ b o, g.get? b = some o → s.heap.get? b = some o) → ∀ b o, g.get? b = some o → s'.heap.get? b = some o := fun mv kp b o e => by
    refine mv.heap b o (fun hb => ?_) (kp b o e)
    rw [gw b hb] at e
    cases e
  have hold : ∀ {s s' : Shared} {L : List (Addr × List Str)} {es : Array (Int × Value)} {ep : Nat} {t : SetTable} {i : Nat}, Moved wr G s s' → (∀ b o, g.get? b = some o → s'.heap.get? b = some o) → L.Perm (ks.take i) → Bag P w s.heap S L es ep t → Bag P w s'.heap S L es ep t := fun {s s' L es ep t i} mv kp pm B => by
    obtain ⟨o, ho, more⟩ := B.obj
    exact ⟨⟨o, mv.heap S o nw ho, more⟩, B.cel, B.tab, fun p hp => there (hk p (List.mem_of_mem_take (pm.mem_iff.mp hp))) kp, B.lrn, B.rom, B.sml⟩
  intro m
  induction m with
  | zero =>
    intro i s hm hi hst kp ⟨L, es, ep, t, B, pm⟩ hR
    obtain rfl : i = n := by omega
    refine codeAny_builtin F.entry_set_update_loop ?_
    rw [Around.under_plainId F.plain_set_update_loop _]
    refine wpAny_bind (m := pyNext (.ref I)) (W.done s _ _ hst fun s1 mv => ?_)
    have B1 := hold mv (onward mv kp) pm B
    rw [← hn, List.take_length] at pm
    exact wpAny_pure (hR s1 L es ep t (mv.mono up) B1 pm)
  | succ m ih =>
    intro i s hm hi hst kp ⟨L, es, ep, t, B, pm⟩ hR
    have lt : i < n := by omega
    refine codeAny_builtin F.entry_set_update_loop ?_
    rw [Around.under_plainId F.plain_set_update_loop _]
    refine wpAny_bind (m := pyNext (.ref I)) (W.item i s _ _ lt hst fun v s1 hP hst1 mv => ?_)
    obtain ⟨p, hp, rfl⟩ := hat i v hP
    have kp1 := onward mv kp
    have B1 := hold mv kp1 pm B
    have hx : TwAt P w s1.heap p.2 p.1 := there (hk p (List.mem_of_getElem? hp)) kp1
    have nxt : ks.take (i + 1) = ks.take i ++ [p] := by
      rw [List.take_add_one, hp]
      rfl
    have away : ∀ q ∈ L, q.2 ≠ p.2 := fun q hq e => by
      have d := diff.sublist (((List.take_sublist (i + 1) ks).map (·.2)))
      rw [nxt, List.map_append, List.nodup_append] at d
      exact d.2.2 q.2 (List.mem_map.mpr ⟨q, pm.mem_iff.mp hq, rfl⟩) p.2 (by simp) e
    have ll : L.length ≤ i := by
      rw [pm.length_eq, List.length_take]
      omega
    show wpAny _ A.in1 (holding [Value.ref p.1] (setAdd S (.ref p.1)) >>= _) _ _ s1
    refine wpAny_bind (wpAny_holding ?_)
    unfold setAdd
    refine wpAny_holding (wpAny_bind (wpAny_pyHash_tuple hu hx ?_))
    refine add_new (s := { s1 with toks := s1.toks + (p.2.length + 1) }) B1 hx hu away (by omega) fun h2 L2 es2 ep2 t2 sb B2 pm2 => ?_
    have pm3 : L2.Perm (ks.take (i + 1)) := by
      rw [nxt]
      exact pm2.trans ((pm.cons p).trans (List.perm_append_singleton p (ks.take i)).symm)
    have kp2 : ∀ b o, g.get? b = some o → h2.get? b = some o := fun b o e => by
      refine (sb.2 b fun z => ?_).trans (kp1 b o e)
      rw [z, gS] at e
      cases e
    refine wpAny_pure ⟨plainId_quiet F.plain_set_update_loop _, ih (i + 1) _ (by omega) lt (W.frame _ s1 _ _ hst1 (Nat.le_add_right _ _) fun c hc o e => ?_) kp2 ⟨L2, es2, ep2, t2, B2, pm3⟩ fun s3 L3 es3 ep3 t3 mv3 B3 pm4 => ?_⟩
    · rw [sb.2 c (fun z : c = S => nf (by rw [← z]; exact hc))]
      exact e
    · refine hR s3 L3 es3 ep3 t3 (Moved.trans W.gtrans ((mv.mono up).then_heap (Nat.le_add_right _ _) fun c o hc e => ?_) mv3) B3 pm4
      rw [sb.2 c (fun z : c = S => hc (by rw [z]; exact List.mem_cons_self))]
      exact e
theorem call_setT {l : Addr} {its : Array Value} (ks : List (Addr × List Str)) {Q : Value → Shared → Prop} (hA : A.handled = none) (hl : s.heap.IsList l its) (hit : its.toList = ks.map fun p => Value.ref p.1) (hk : ∀ p ∈ ks, TwAt P w s.heap p.2 p.1)
    (few : ks.length < 64) (diff : (ks.map (·.2)).Nodup) (hu : A.units + 3 < cLine)
    (q : ∀ (h' : Heap) (tk : Nat) L es ep t, Bag P w h' s.heap.objs.size L es ep t → L.Perm ks → (∀ c o, c < s.heap.objs.size → s.heap.get? c = some o → h'.get? c = some o) → Q (.ref s.heap.objs.size) { s with heap := h', toks := tk }) :
    wpAny (model P w) A (call (.type "set") [.ref l]) Q E s := by
  have hlen : ks.length = its.size := by
    have z := congrArg List.length hit
    rw [Array.length_toList, List.length_map] at z
    exact z.symm
  obtain ⟨c, tl, hmro⟩ := PySem.F.called_set.mro
  have hmade := PySem.F.called_set.made
  have hsub := PySem.F.called_set.sub
  refine wpAny_call (codeAny_of_tree ?_)
  show wpAny _ _ (callAny (.type "set") _) _ _ _
  refine wpAny_pure ⟨Code.quiet_builtin _ (by decide +kernel), codeAny_builtin PySem.F.entry_type_call ?_⟩
  rw [Around.under_plain (weight_type_call_type "set" [.ref l] []) rfl]
  have h1 := PySem.F.called_set.notType
  have h2 := PySem.F.called_set.canCreate
  have hct := PySem.F.typeCall_set_1 (.ref l)
  repeat (any_goals (first | assumption | wp_step))
  refine codeAny_mono (code_set_led1 (.ref l) (E := E) (Q₁ := fun b s₁ => b = .ref s.heap.objs.size ∧ s₁ = { s with heap := s.heap.push (fresh0 w) }) ⟨rfl, rfl⟩) fun r s₁ hr => ?_
  cases r with
  | error e => exact hr
  | ok fl =>
    cases fl with
    | ret b =>
      obtain ⟨rfl, rfl⟩ := hr
      have hS : (s.heap.push (fresh0 w)).get? s.heap.objs.size = some (fresh0 w) := Heap.get?_push_size _ rfl
      have hT : Shared.TypeIs { s with heap := s.heap.push (fresh0 w) } (.ref s.heap.objs.size) "set" := ⟨_, hS, rfl⟩
      have hli := PySem.F.called_set.init.lookup
      have hbi := PySem.F.called_set.init.bind (.ref s.heap.objs.size)
      repeat (any_goals (first | assumption | wp_step))
      refine codeAny_mono (codeAny_call_builtin (R := wants (fun r s₂ => r = .none ∧ ∃ h' tk L es ep t, s₂ = { s with heap := h', toks := tk } ∧ Bag P w h' s.heap.objs.size L es ep t ∧ L.Perm ks ∧
          (∀ c o, c < s.heap.objs.size → s.heap.get? c = some o → h'.get? c = some o)) E) PySem.F.called_set.init.plain PySem.F.entry_set_init (check_set_init_1 hT ?_)) fun r₂ s₂ hr₂ => ?_
      · obtain ⟨ol, hol, hcl, nl, hdl⟩ := hl
        obtain ⟨ocls, odict, odata, oslots⟩ := ol
        simp only at hcl hdl
        subst hcl; subst hdl
        have hol' : (s.heap.push (fresh0 w)).get? l = some { cls := .type "list", dict := odict, data := .seq its nl, slots := oslots } := Heap.get?_push_of_some _ hol
        have hsls := PySem.F.sub_list_set
        have hslf := PySem.F.sub_list_frozenset
        have hne : (Value.type "list" == Value.type "dict") = false := by decide
        have hl1 : (s.heap.push (fresh0 w)).IsList l its := ⟨_, hol', rfl, nl, rfl⟩
        unfold Builtin.«set.__init__» noKeywords Builtin.Frozenset.updateFrom
        generalize hPI : pyIter = PI
        wp_walk
        subst hPI
        refine wpAny_pyIter_list hl1 ?_
        refine wpAny_bind (wpAny_runValue ?_)
        have hlS : l < s.heap.objs.size := Heap.lt_size hol
        have h3 : A.in1.in1.in1.handled = none := by simp [hA]
        have nI : l ≠ (s.heap.push (fresh0 w)).objs.size := by
          rw [Heap.size_push]; exact Nat.ne_of_lt (Nat.lt_succ_of_lt hlS)
        have nS : s.heap.objs.size ∉ [(s.heap.push (fresh0 w)).objs.size, l] := by
          rw [Heap.size_push]; simp only [List.mem_cons, List.mem_singleton, List.not_mem_nil, or_false, not_or]
          exact ⟨Nat.ne_of_lt (Nat.lt_succ_self _), Nat.ne_of_gt hlS⟩
        have none_of : ∀ b, s.heap.objs.size ≤ b → s.heap.get? b = none := fun b hb => by
          cases z : s.heap.get? b with
          | none => rfl
          | some o => exact absurd (Nat.lt_of_lt_of_le (Heap.lt_size z) hb) (Nat.lt_irrefl _)
        have hat : ∀ (i : Nat) (v : Value), its[i]? = some v → ∃ p, ks[i]? = some p ∧ v = .ref p.1 := fun i v hv => by
          have z : its.toList[i]? = some v := by rw [Array.getElem?_toList]; exact hv
          rw [hit, List.getElem?_map] at z
          cases y : ks[i]? with
          | none =>
            rw [y] at z
            cases z
          | some p =>
            rw [y] at z
            exact ⟨p, rfl, (Option.some.inj z).symm⟩
        refine grow ((Walks.list h3 _ l nI its).toS) s.heap.objs.size nS ks hlen (by rw [← hlen]; exact few) diff hat s.heap hk (none_of _ (Nat.le_refl _)) (fun b hb => none_of b (by
            rw [List.mem_singleton.mp hb, Heap.size_push]
            exact Nat.le_succ _)) hu (its.size - 0) 0 _ (by omega) (Nat.zero_le _) ⟨⟨_, Heap.get?_push_size _ rfl, rfl, rfl⟩, (hl1.push _)⟩ (fun b o e => Heap.get?_push_of_some _ (Heap.get?_push_of_some _ e)) ?hS0 ?hR
        case hS0 =>
          have hget : ((s.heap.push (fresh0 w)).push { cls := .type "list_iterator", data := .fields #[.ref l, .int 0 0] }).get? s.heap.objs.size = some (fresh0 w) := Heap.get?_push_of_some _ hS
          exact ⟨[], #[], 0, _, bag0 hget, by rw [List.take_zero]⟩
        case hR =>
          intro s' L es ep t mv B pm
          obtain ⟨h', g', d', tk', os'⟩ := s'
          obtain rfl : g' = s.gens := mv.gens
          obtain rfl : d' = s.drawn := mv.drawn
          obtain rfl : os' = s.os := mv.os
          show wpAny _ _ _ _ _ _
          refine wpAny_pure ?_
          show wpAny _ _ (ret Value.none) _ _ _
          refine wpAny_pure ⟨rfl, h', tk', L, es, ep, t, rfl, B, pm, fun c o hc e => ?_⟩
          have n1 : c ≠ s.heap.objs.size := Nat.ne_of_lt hc
          have n2 : c ≠ (s.heap.push (fresh0 w)).objs.size := by
            rw [Heap.size_push]; exact Nat.ne_of_lt (Nat.lt_succ_of_lt hc)
          exact mv.heap c o (by simp only [List.mem_cons, List.mem_singleton, List.not_mem_nil, or_false, not_or]; exact ⟨n1, n2⟩) (Heap.get?_push_of_some _ (Heap.get?_push_of_some _ e))
      · cases r₂ with
        | error e => exact hr₂
        | ok fl₂ =>
          cases fl₂ with
          | ret r =>
            obtain ⟨rfl, h', tk, L, es, ep, t, rfl, B, pm, hk'⟩ := hr₂
            repeat (any_goals (first | assumption | wp_step))
            exact q _ _ _ _ _ _ B pm hk'
          | _ => exact hr₂.elim
    | _ => exact hr.elim
end
section
variable {X : Cx}
/-- len(set(xs)), xs a list of different tuples of texts -/
def tLenSetT (K : PySem.W.Frag) (ta : TE) : TE := fun σ H Q => ta σ H fun x H1 => ∃ (l : Addr) (ks : List (Addr × List Str)), x = .ref l ∧ SqL K H1 l (ks.map fun p => V.ref p.1) ∧ (∀ p ∈ ks, SqT K H1 p.1 (p.2.map V.str)) ∧ ks.length < 64 ∧ (ks.map (·.2)).Nodup ∧ Q (.int (ks.length : Nat)) H1
theorem words_is {P : Program} {w : World} : ∀ {k : List Str} {us : List Value}, Vals (k.map V.str) us → ItemsAre (PySem.strKind P w) k us
  | [], _, .nil => .nil
  | z :: k, _, .cons r t => by
    obtain ⟨tk, rfl⟩ := r
    exact .cons (strKind_is _ _ _ _) (words_is t)
theorem refs_is : ∀ {ks : List (Addr × List Str)} {us : List Value}, Vals (ks.map fun p => V.ref p.1) us → us = ks.map fun p => Value.ref p.1
  | [], _, .nil => rfl
  | p :: ks, _, .cons r t => by
    cases r
    rw [List.map_cons, ← refs_is t]
theorem pe_lenSetT {a : Expr} {ta : TE} {p p2 q pos : Pos} {k : Nat} (hr : Room k X.A) (hc : X.calm = true) (hg : Gl X "len") (hm : X.mg "len" = none) (hg2 : Gl X "set") (hm2 : X.mg "set" = none) (ha : PE X a ta)
    (na : starEach [a] X.env = (false, eval a X.env) :: starEach [] X.env := by rfl) : PE X (.Call (.Name "len" p) [.Call (.Name "set" p2) [a] [] q] [] pos) (tLenSetT X.K ta) := by
  refine ⟨fun pins s σ H Q I h => ?_⟩
  refine Call_ (ld_blt I hg hm boot_len ?_)
  refine PyProof.Rows.callWith_builtin1 (PyProof.Rows.args_cons ?_ rfl) rfl rfl
  refine Call_ (ld_blt I hg2 hm2 boot_set ?_)
  refine PyProof.Rows.callWith_type1 (PyProof.Rows.args_cons (thn (ha.run pins s σ H _ I h) fun v s1 ⟨x, H1, I1, r1, q1⟩ => PyProof.Rows.args_nil ?_) na) na rfl
  obtain ⟨l, ks, rfl, hq, ht, few, diff, q1⟩ := q1
  cases r1
  obtain ⟨its, r, pl, hz⟩ := I1.list hq
  have hu := hr.units
  refine call_setT (P := X.prog) (w := X.w) ks (I1.ok.hd hc) pl.isList (by simpa using refs_is r) (fun p hp => ?_) few diff (by omega) fun h' tk L es ep t B pm hk => ?_
  · obtain ⟨ts, rt, pt, _⟩ := I1.tuple (ht p hp)
    obtain ⟨o, ho, hcl, n, hd⟩ := pt
    exact ⟨o, ts.toArray, n, ho, hcl, hd, words_is rt⟩
  · refine PyProof.Rows.args_nil ?_
    obtain ⟨o, ho, hex, hd⟩ := B.obj
    have I2 : Inv X pins σ H1 { s1 with heap := h', toks := tk } := I1.kept fun c o e => hk c o (Heap.lt_size e) e
    have hn : es.size = ks.length := by
      have z : es.size = L.length := by rw [← Array.length_toList, B.cel, cells_len]
      rw [z, pm.length_eq]
    refine call_len_set ho hex hd (B.fit (s := { s1 with heap := h', toks := tk })) (by rw [hn] <;> omega) ⟨.int (ks.length : Nat), H1, I2.tok _, ⟨_, by rw [hn]⟩, q1⟩
end
end TxSet

set_option Elab.async false
set_option linter.all false
set_option maxRecDepth 100000
set_option maxHeartbeats 4000000
namespace TX
open PySem PySem.Spec PyProof.Rows L2 EvS Evl
mutual
theorem dp_ex {K : PySem.W.Frag} {H H' : Hp} (e : Ex H H') : ∀ {v : V} {d : PyData}, Dp K H v d → Dp K H' v d
  | _, _, .non => .non
  | _, _, .bl b => .bl b
  | _, _, .int i => .int i
  | _, _, .str x => .str x
  | _, _, .lst h r => .lst (ex_l e h) (dps_ex e r)
  | _, _, .tup h r => .tup (ex_t e h) (dps_ex e r)
theorem dps_ex {K : PySem.W.Frag} {H H' : Hp} (e : Ex H H') : ∀ {vs : List V} {ds : List PyData}, DpAll K H vs ds → DpAll K H' vs ds
  | _, _, .nil => .nil
  | _, _, .cons h r => .cons (dp_ex e h) (dps_ex e r)
end
theorem dps_len {K : PySem.W.Frag} {H : Hp} : ∀ {vs : List V} {ds : List PyData}, DpAll K H vs ds → vs.length = ds.length
  | _, _, .nil => rfl
  | _, _, .cons _ r => congrArg Nat.succ (dps_len r)
theorem dps_at {K : PySem.W.Frag} {H : Hp} : ∀ {vs : List V} {ds : List PyData} {i : Nat} {v : V}, DpAll K H vs ds → vs[i]? = some v → ∃ d, ds[i]? = some d ∧ Dp K H v d
  | _, _, _, _, .nil, h => by simp at h
  | _, _, 0, _, .cons h _, e => by
    simp only [List.getElem?_cons_zero, Option.some.injEq] at e
    subst e
    exact ⟨_, rfl, h⟩
  | _, _, i + 1, _, .cons _ r, e => by
    simp only [List.getElem?_cons_succ] at e
    exact dps_at (i := i) r e
theorem dps_app {K : PySem.W.Frag} {H : Hp} : ∀ {vs us : List V} {ds es : List PyData}, DpAll K H vs ds → DpAll K H us es → DpAll K H (vs ++ us) (ds ++ es)
  | _, _, _, _, .nil, b => b
  | _, _, _, _, .cons h r, b => .cons h (dps_app r b)
theorem dps_one {K : PySem.W.Frag} {H : Hp} {v : V} {d : PyData} (h : Dp K H v d) : DpAll K H [v] [d] := .cons h .nil
theorem dps_str {K : PySem.W.Frag} {H : Hp} : ∀ ns : List Str, DpAll K H (ns.map V.str) (ns.map PyData.str)
  | [] => .nil
  | n :: r => .cons (.str n) (dps_str r)
theorem dps_strs {K : PySem.W.Frag} {H : Hp} : ∀ {ns : List Str} {vs : List V}, DpAll K H vs (ns.map PyData.str) → vs = ns.map V.str
  | [], _, .nil => rfl
  | n :: r, _, .cons h t => by
    cases h
    rw [dps_strs t]
    rfl
def Seq2 (K : PySem.W.Frag) (H : Hp) (p : Addr) (xs : List V) : Prop := SqL K H p xs ∨ SqT K H p xs
theorem Seq2.ex {K : PySem.W.Frag} {H H' : Hp} {p : Addr} {xs : List V} (e : Ex H H') (h : Seq2 K H p xs) : Seq2 K H' p xs := h.elim (fun q => .inl (ex_l e q)) (fun q => .inr (ex_t e q))
mutual
def frozen : PyData → Bool
  | .none => true
  | .bool _ => true
  | .int _ => true
  | .str _ => true
  | .tuple ds => frozenAll ds
  | .list _ => false
  | .dict _ => false
def frozenAll : List PyData → Bool
  | [] => true
  | d :: ds => frozen d && frozenAll ds
end
theorem frozenAll_of : ∀ {ds : List PyData}, (∀ d ∈ ds, frozen d = true) → frozenAll ds = true
  | [], _ => by simp [frozenAll]
  | d :: ds, h => by
    rw [frozenAll, h d List.mem_cons_self, frozenAll_of fun x hx => h x (List.mem_cons_of_mem _ hx)]
    rfl
theorem frozen_strs (ls : List Str) : frozenAll (ls.map PyData.str) = true := frozenAll_of fun d hd => by
  obtain ⟨b, _, rfl⟩ := List.mem_map.mp hd
  simp [frozen]
def ExT (H H' : Hp) : Prop := ∀ a xs, Rd H a (.tup xs) → Rd H' a (.tup xs)
theorem exT_of {H H' : Hp} (e : Ex H H') : ExT H H' := fun _ _ h => ex_rd e h
theorem ExT.trans {H H1 H2 : Hp} (a : ExT H H1) (b : ExT H1 H2) : ExT H H2 := fun x y h => b x y (a x y h)
theorem exT_mut {H : Hp} {l : Addr} {xs ys : List V} (h : H l = some (.lst xs)) : ExT H (upd H l (.lst ys)) := fun a zs r => by
  rcases r with r | ⟨o, r⟩
  · exact .inl (by rw [upd_ne (ne_of r h (by intro z; cases z))]; exact r)
  · exact .inr ⟨o, by rw [upd_ne (ne_of r h (by intro z; cases z))]; exact r⟩
theorem exT_t {K : PySem.W.Frag} {H H' : Hp} {p : Addr} {xs : List V} (e : ExT H H') (h : SqT K H p xs) : SqT K H' p xs := h.elim (fun r => .inl (e _ _ r)) .inr
mutual
theorem dp_exT {K : PySem.W.Frag} {H H' : Hp} (e : ExT H H') : ∀ {v : V} {d : PyData}, Dp K H v d → frozen d = true → Dp K H' v d
  | _, _, .non, _ => .non
  | _, _, .bl b, _ => .bl b
  | _, _, .int i, _ => .int i
  | _, _, .str x, _ => .str x
  | _, _, .lst _ _, f => by simp [frozen] at f
  | _, _, .tup h r, f => .tup (exT_t e h) (dps_exT e r (by simpa [frozen] using f))
theorem dps_exT {K : PySem.W.Frag} {H H' : Hp} (e : ExT H H') : ∀ {vs : List V} {ds : List PyData}, DpAll K H vs ds → frozenAll ds = true → DpAll K H' vs ds
  | _, _, .nil, _ => .nil
  | _, _, .cons h r, f => by
    simp only [frozenAll, Bool.and_eq_true] at f
    exact .cons (dp_exT e h f.1) (dps_exT e r f.2)
end
inductive All2 {α β : Type} (R : α → β → Prop) : List α → List β → Prop
  | nil : All2 R [] []
  | cons {a : α} {b : β} {as : List α} {bs : List β} : R a b → All2 R as bs → All2 R (a :: as) (b :: bs)
theorem All2.len {α β : Type} {R : α → β → Prop} : ∀ {as : List α} {bs : List β}, All2 R as bs → as.length = bs.length
  | _, _, .nil => rfl
  | _, _, .cons _ r => congrArg Nat.succ r.len
def del (H : Hp) (D : Addr) : Hp := fun a => if a = D then none else H a
theorem del_upd {H : Hp} {D : Addr} {o : HO} : del (upd H D o) D = del H D := by
  funext a
  unfold del
  by_cases h : a = D
  · rw [if_pos h, if_pos h]
  · rw [if_neg h, if_neg h, upd_ne h]
theorem del_ex {H : Hp} {D : Addr} : Ex (del H D) H := fun a o h => by
  unfold del at h
  split at h
  · cases h
  · exact h
theorem ex_del {H H' : Hp} {D : Addr} (e : Ex H H') : Ex (del H D) (del H' D) := fun a o h => by
  unfold del at h ⊢
  split at h
  · cases h
  · rename_i n
    rw [if_neg n]
    exact e _ _ h
theorem ex_to_del {H H' : Hp} {D : Addr} (e : Ex H H') (h : H D = none) : Ex H (del H' D) := fun a o q => by
  unfold del
  rw [if_neg (ne_of_none q h)]
  exact e _ _ q
theorem del_at {H : Hp} {D a : Addr} {o : HO} (n : a ≠ D) (h : H a = some o) : del H D a = some o := by
  unfold del
  rw [if_neg n]
  exact h
theorem dps_drop {K : PySem.W.Frag} {H : Hp} : ∀ {vs : List V} {ds : List PyData} (n : Nat), DpAll K H vs ds → DpAll K H (vs.drop n) (ds.drop n)
  | _, _, 0, h => h
  | _, _, _ + 1, .nil => .nil
  | _, _, n + 1, .cons _ r => dps_drop n r
theorem dps_take {K : PySem.W.Frag} {H : Hp} : ∀ {vs : List V} {ds : List PyData} (n : Nat), DpAll K H vs ds → DpAll K H (vs.take n) (ds.take n)
  | _, _, 0, _ => .nil
  | _, _, _ + 1, .nil => .nil
  | _, _, n + 1, .cons h r => .cons h (dps_take n r)
theorem cut_from (xs : List V) (n : Nat) : cutV xs (some (n : Int)) none = xs.drop n := by
  unfold cutV
  rw [HT.sIx_nat, HT.sIx_none]
  rcases Nat.le_total n xs.length with h | h
  · rw [Nat.min_eq_left h, List.take_of_length_le (by rw [List.length_drop]; exact Nat.le_refl _)]
  · rw [Nat.min_eq_right h, List.drop_length, List.drop_eq_nil_of_le h, List.take_nil]
theorem cut_to (xs : List V) (n : Nat) : cutV xs none (some (n : Int)) = xs.take n := by
  unfold cutV
  rw [HT.sIx_nat, HT.sIx_none, List.drop_zero, Nat.sub_zero]
  rcases Nat.le_total n xs.length with h | h
  · rw [Nat.min_eq_left h]
  · rw [Nat.min_eq_right h, List.take_length, List.take_of_length_le h]
theorem lay_of : ∀ {ds : List PyData}, (∀ d ∈ ds, PyData.canLay0 d = true) → PyData.canLayAll0 ds = true
  | [], _ => by simp [PyData.canLayAll0]
  | d :: ds, h => by
    rw [PyData.canLayAll0, h d List.mem_cons_self, lay_of fun x hx => h x (List.mem_cons_of_mem _ hx)]
    rfl
theorem deep_of {n : Nat} : ∀ {ds : List PyData}, (∀ d ∈ ds, PyData.depth d ≤ n) → PyData.depthAll ds ≤ n
  | [], _ => by simp [PyData.depthAll]
  | d :: ds, h => by
    have h1 := h d List.mem_cons_self
    have h2 := deep_of (n := n) (ds := ds) fun x hx => h x (List.mem_cons_of_mem _ hx)
    simp only [PyData.depthAll]
    omega
def Sh (n : Nat) (d : PyData) : Prop := PyData.canLay0 d = true ∧ PyData.depth d ≤ n
theorem sh_tup {n : Nat} {ds : List PyData} (h : ∀ d ∈ ds, Sh n d) : Sh (n + 1) (.tuple ds) := by
  have := deep_of (n := n) fun d hd => (h d hd).2
  exact ⟨by simp only [PyData.canLay0]; exact lay_of fun d hd => (h d hd).1, by simp only [PyData.depth]; omega⟩
theorem sh_lst {n : Nat} {ds : List PyData} (h : ∀ d ∈ ds, Sh n d) : Sh (n + 1) (.list ds) := by
  have := deep_of (n := n) fun d hd => (h d hd).2
  exact ⟨by simp only [PyData.canLay0]; exact lay_of fun d hd => (h d hd).1, by simp only [PyData.depth]; omega⟩
theorem sh_int (i : Int) (n : Nat) : Sh (n + 1) (.int i) := ⟨by simp only [PyData.canLay0], by simp only [PyData.depth]; omega⟩
theorem sh_up {n m : Nat} {d : PyData} (h : n ≤ m) (q : Sh n d) : Sh m d := ⟨q.1, Nat.le_trans q.2 h⟩
theorem sh_shaped {n : Nat} {d : PyData} (h : Sh n d) (hn : n ≤ 64) : SeqAt.shaped d = true := by
  show (PyData.canLay0 d && decide (PyData.depth d ≤ 64)) = true
  rw [Bool.and_eq_true]
  exact ⟨h.1, decide_eq_true (Nat.le_trans h.2 hn)⟩
theorem mem4 {α : Type} {x a b c d : α} (h : x ∈ [a, b, c, d]) : x = a ∨ x = b ∨ x = c ∨ x = d := by simpa using h
theorem eqv_self {d : PyData} (h : SeqAt.shaped d = true) : PyData.eqv d d = true := SeqAt.eqv_refl _ (SeqAt.canLay_of_shaped h)
theorem dps_set {K : PySem.W.Frag} {H : Hp} : ∀ {vs : List V} {ds : List PyData} {v : V} {d : PyData} (i : Nat), DpAll K H vs ds → Dp K H v d → DpAll K H (vs.set i v) (ds.set i d)
  | _, _, _, _, _, .nil, _ => .nil
  | _, _, _, _, 0, .cons _ r, h => .cons h r
  | _, _, _, _, i + 1, .cons a r, h => .cons a (dps_set i r h)
theorem sh_st {z : Str} {n : Nat} (h : PyData.strOk z = true) : Sh (n + 1) (.str z) := ⟨by simp only [PyData.canLay0]; exact h, by simp only [PyData.depth]; omega⟩
theorem sh_none {n : Nat} : Sh (n + 1) .none := ⟨by simp only [PyData.canLay0], by simp only [PyData.depth]; omega⟩
theorem iteNF {A B : Prop} (h : A) : if (!false) = true then A else B := by
  rw [Bool.not_false, if_pos rfl]
  exact h
theorem take_one {α : Type} {l : List α} {i : Nat} {x : α} (h : l[i]? = some x) : l.take (i + 1) = l.take i ++ [x] := by
  rw [List.take_add_one, h]
  rfl
theorem iteNT {A B : Prop} (h : B) : if (!true) = true then A else B := by
  rw [if_neg (by decide)]
  exact h
theorem exT_del {H : Hp} {A : Addr} {xs : List V} (h : H A = some (.lst xs)) : ExT H (del H A) := fun x zs r => by
  have nx : x ≠ A := fun q => by
    rcases r with r | ⟨o, r⟩
    · rw [q, h] at r; cases r
    · rw [q, h] at r; cases r
  rcases r with r | ⟨o, r⟩
  · exact .inl (del_at nx r)
  · exact .inr ⟨o, del_at nx r⟩
theorem at_in {α : Type} {xs : List α} {i : Int} (h0 : 0 ≤ i) (h : i < xs.length) : ∃ v, atI xs i = some v ∧ xs[i.toNat]? = some v ∧ v ∈ xs := by
  have hl : i.toNat < xs.length := by omega
  have e : xs[i.toNat]? = some xs[i.toNat] := List.getElem?_eq_getElem hl
  have z : atI xs ((i.toNat : Nat) : Int) = some xs[i.toNat] := atI_nat e
  rw [show ((i.toNat : Nat) : Int) = i by omega] at z
  exact ⟨xs[i.toNat], z, e, List.getElem_mem hl⟩
/-- the numbers that a law draws -/
structure Nm (K : PySem.W.Frag) (H : Hp) (p : Addr) (ks : List Int) : Prop where
  at_ : SqL K H p (ks.map V.int)
  sm : ∀ n ∈ ks, 0 ≤ n ∧ n < 1009
theorem Nm.ex {K : PySem.W.Frag} {H H' : Hp} {p : Addr} {ks : List Int} (e : Ex H H') (h : Nm K H p ks) : Nm K H' p ks := ⟨ex_l e h.at_, h.sm⟩
theorem Nm.get {K : PySem.W.Frag} {H : Hp} {p : Addr} {ks : List Int} (h : Nm K H p ks) {i : Int} (h0 : 0 ≤ i) (h1 : i < ks.length) : ∃ n, 0 ≤ n ∧ n < 1009 ∧ atI (ks.map V.int) i = some (.int n) := by
  obtain ⟨v, hv, _, hm⟩ := at_in (xs := ks.map V.int) h0 (by rw [List.length_map]; exact h1)
  obtain ⟨n, hn, rfl⟩ := List.mem_map.mp hm
  exact ⟨n, (h.sm n hn).1, (h.sm n hn).2, hv⟩
/-- an f-string as one reading -/
def tJd (ts : List TE) : TE := fun σ H Q => tJs ts Str.empty σ H fun out H1 => Q (.str out) H1
theorem pe_jd {X : Cx} {v1 v2 : Expr} {rest : List Expr} {pos : Pos} {ts : List TE} (h : PJ X (v1 :: v2 :: rest) ts) : PE X (.JoinedStr (v1 :: v2 :: rest) pos) (tJd ts) := pe_joined h
end TX

set_option Elab.async false
set_option linter.all false
set_option maxRecDepth 100000
set_option maxHeartbeats 4000000
/-! A new dict's values walked; dict comprehensions over walks; tables of minutes by place. -/
namespace FD
open PySem PySem.Spec PyProof.Rows L2 Evl
section
variable {X : Cx} {tg e : Expr} {td : TE} {apos cpos : Pos}
/-- for x in e.values(), e's value a dict that is not changed any more -/
def iValsN (td : TE) : TI := fun σ H R => td σ H fun x H1 => ∃ d kvs, x = .ref d ∧ H1 d = some (.dK kvs) ∧ ∀ od, R (Itd d od kvs) (upd H1 d (.frz od (.dK kvs)))
theorem pi_valuesN (he : PE X e td) (hbase : attributeBase e "values" X.env (eval e X.env) = eval e X.env := by rfl) (hline : (apos.endLine == cpos.line) = true := by rfl) : PI X tg (.Call (.Attribute e "values" apos) [] [] cpos) (iValsN td) := by
  refine ⟨fun pins s σ H R I h => ?_⟩
  refine wpAny_Call_method (T := "dict") (id := "dict.values") hbase rfl hline F.plainAttrs_dict F.slot_dict_values F.type_dict_values (thn (he.run pins s σ H _ I h) fun u s1 ⟨x, H1, I0, rx, d, kvs, ex, hd0, q0⟩ => ?_)
  subst ex
  obtain rfl : u = Value.ref d := rx
  obtain ⟨o, I1⟩ := I0.lock hd0 trivial
  have q := q0 o
  have hd : (upd H1 d (.frz o (.dK kvs))) d = some (.frz o (.dK kvs)) := upd_same
  generalize upd H1 d (.frz o (.dK kvs)) = H2 at I1 q hd
  obtain ⟨hs, hgd, hx, es, ep, vs, hdt, hsz, kv, hm⟩ := I1.frzK hd
  have hl : kvs.length = vs.length := Paired.length kv
  refine ⟨hm.dictOf.typeIs, hm.dictOf.mapOf.noDict, ?_⟩
  have I2 : Inv X pins σ H2 { s1 with heap := s1.heap.push { cls := .type "dict_values", data := .fields #[.ref d] } } := I1.kept (t' := s1.toks) fun b ob q => Heap.get?_push_of_some _ q
  have fin : wpAny (model X.prog X.w) X.A (pyIter (.ref s1.heap.objs.size)) (PIE X pins σ tg R) X.xe { s1 with heap := s1.heap.push { cls := .type "dict_values", data := .fields #[.ref d] } } := by
    refine wpAny_pyIter_values (d := d) (knd := mixKind X.prog X.w) ⟨_, Heap.get?_push_size _ rfl, rfl, rfl⟩ (hm.push _) (pi_one (tk := s1.toks) I2 _ (turn_vals _ hdt) ⟨_, Heap.get?_push_size _ rfl, rfl, ?_⟩ q)
    rw [hl] <;> rfl
  show wpAny _ _ (callWith cpos (.builtin "dict.values") [.ref d] [] []) _ X.xe s1
  exact method_meetsIn F.slot_dict_values F.entry_dict_values rfl (PySem.evalArgs_none ⟨rfl, hm.dictOf.typeIs, F.args_dict_values_1 _, _, meets_dict_values (mixKind X.prog X.w) d hs, ⟨vs, hm.dictOf⟩, fin⟩)
end
/-- a dict comprehension without a test over a walk -/
theorem dcY_it {J : It} {n : Nat} {G : Hp → Prop} {Y : Nat → Hp → V → Hp → Prop} (w : Walk J n G Y) {g : TG} {tk tv : TE} {vs : List Nat} {σ : L2.St} {H1 : Hp} {D : Addr} {Qd : Hp → Prop} (Pv : Nat → Hp → Prop) (h0 : Pv 0 (upd H1 D (.dK []))) (hG : ∀ i H, i ≤ n → Pv i H → G H)
    (hs : ∀ i x H H', i < n → Pv i H → Y i H x H' → g x (wipe σ vs) H' fun σ2 H2 => wipe σ2 vs = wipe σ vs ∧ tk σ2 H2 fun y H4 => tv σ2 H4 fun z H5 => ∃ kvs k, y = kV k ∧ H5 D = some (.dK kvs) ∧ kvs.length < sizeLine ∧ Pv (i + 1) (upd H5 D (.dK (putK kvs k z)))) (hd : ∀ H, Pv n H → Qd H) :
    ∃ W : Nat → Nat → Hp → Prop, (∃ m, W 0 m (upd H1 D (.dK []))) ∧ ∀ i m H, W i m H → (J.stop i H ∧ Qd H) ∨
      (J.go i H ∧ ∃ Nx : Hp → Prop, (∀ H', Nx H' → ∃ m', m' < m ∧ W (i + 1) m' H') ∧ ∀ x H', J.yld i H x H' → g x (wipe σ vs) H' fun σ2 H2 => wipe σ2 vs = wipe σ vs ∧ tYes σ2 H2 fun b H3 =>
        if b = true then tk σ2 H3 fun y H4 => tv σ2 H4 fun z H5 => ∃ kvs k, y = kV k ∧ H5 D = some (.dK kvs) ∧ kvs.length < sizeLine ∧ Nx (upd H5 D (.dK (putK kvs k z))) else Nx H3) := by
  refine ⟨fun i m H => m = n - i ∧ i ≤ n ∧ Pv i H, ⟨n, by simp, Nat.zero_le _, h0⟩, ?_⟩
  rintro i m H ⟨rfl, hi, p⟩
  have q := hG i H hi p
  by_cases hlt : i < n
  · refine .inr ⟨w.goes i H hlt q, Pv (i + 1), fun H' p' => ⟨n - (i + 1), by omega, rfl, hlt, p'⟩, fun x H' y => ?_⟩
    exact hs i x H H' hlt p (w.yields i H x H' hlt q y)
  · have e : i = n := by omega
    subst e
    exact .inl ⟨w.stops H q, hd H p⟩
/-! ### a table of minutes -/
/-- at d stands a dict that tells f for places -/
def Tab (H : Hp) (d : Addr) (f : Str → Option Int) : Prop := ∃ kvs : List (Key × V), H d = some (.dK kvs) ∧ kvs.length ≤ 100000 ∧ ∀ p : Str, valV kvs (.inr p) = (f p).map V.int
theorem Tab.ex {H H' : Hp} {d : Addr} {f : Str → Option Int} (e : Ex H H') (h : Tab H d f) : Tab H' d f := by
  obtain ⟨kvs, h1, h2, h3⟩ := h
  exact ⟨kvs, e _ _ h1, h2, h3⟩
def upd1 (f : Str → Option Int) (p : Str) (t : Int) : Str → Option Int := fun q => if q = p then some t else f q
def TabK (kvs : List (Key × V)) (f : Str → Option Int) : Prop := ∀ p : Str, valV kvs (.inr p) = (f p).map V.int
theorem TabK.nil : TabK [] fun _ => none := fun _ => rfl
theorem TabK.put {kvs : List (Key × V)} {f : Str → Option Int} (h : TabK kvs f) (p : Str) (t : Int) : TabK (putK kvs (.inr p) (.int t)) (upd1 f p t) := fun q => by
  rw [valV_put]
  unfold upd1
  by_cases c : q = p
  · rw [if_pos (congrArg Sum.inr c), if_pos c]
    rfl
  · rw [if_neg fun z => c (Sum.inr.inj z), if_neg c]
    exact h q
theorem TabK.same {kvs : List (Key × V)} {f g : Str → Option Int} (h : TabK kvs f) (e : ∀ p, f p = g p) : TabK kvs g := fun p => by rw [h p, e p]
end FD

set_option Elab.async false
set_option linter.all false
set_option maxRecDepth 100000
set_option maxHeartbeats 4000000
/-! Fires, without Python: through a link, what is reached, the first minutes (points 16 to 18). -/
namespace FP
open PySem
/-- a link as one fire passes it: the number for each wind -/
structure Lk where
  o : Str
  t : Str
  row : List (Option Int)
abbrev Wt := List (Int × Nat)
def windAt (ws : Wt) (m : Int) : Nat := ws.foldl (fun z r => if r.1 ≤ m then r.2 else z) (ws.headD (0, 0)).2
def num (row : List (Option Int)) (w : Nat) : Option Int := row.getD w none
def outs (ws : Wt) (m : Int) : List Int := m :: (ws.map (·.1)).filter fun s => decide (m < s)
def cand (ws : Wt) (row : List (Option Int)) (s : Int) : Option Int := (num row (windAt ws s)).map (s + ·)
def least : Option Int → Option Int → Option Int
  | c, none => c
  | none, some x => some x
  | some c, some x => if x < c then some x else some c
def leastL (l : List (Option Int)) : Option Int := l.foldl least none
def thr (ws : Wt) (row : List (Option Int)) (m : Int) : Option Int := leastL ((outs ws m).map (cand ws row))
theorem fold_mem : ∀ {l : List (Option Int)} {c : Option Int} {t : Int}, l.foldl least c = some t → c = some t ∨ some t ∈ l
  | [], _, _, h => .inl h
  | x :: l, c, t, h => by
    rcases fold_mem (l := l) h with q | q
    · cases x with
      | none =>
        refine .inl ?_
        cases c <;> exact q
      | some x =>
        cases c with
        | none => exact .inr (by rw [show some t = some x from q.symm]; exact List.mem_cons_self)
        | some c =>
          have q : (if x < c then some x else some c) = some t := q
          split at q
          · exact .inr (by rw [q]; exact List.mem_cons_self)
          · exact .inl q
    · exact .inr (List.mem_cons_of_mem _ q)
theorem fold_le : ∀ {l : List (Option Int)} {c : Option Int} {x : Int}, (c = some x ∨ some x ∈ l) → ∃ t, l.foldl least c = some t ∧ t ≤ x
  | [], c, x, h => by
    rcases h with h | h
    · exact ⟨x, h, Int.le_refl _⟩
    · cases h
  | y :: l, c, x, h => by
    have step : ∃ z, least c y = some z ∧ z ≤ x ∨ some x ∈ l := by
      rcases h with h | h
      · subst h
        cases y with
        | none => exact ⟨x, .inl ⟨rfl, Int.le_refl _⟩⟩
        | some y =>
          by_cases q : y < x
          · exact ⟨y, .inl ⟨by show (if y < x then _ else _) = _; rw [if_pos q], by omega⟩⟩
          · exact ⟨x, .inl ⟨by show (if y < x then _ else _) = _; rw [if_neg q], Int.le_refl _⟩⟩
      · rcases List.mem_cons.mp h with h | h
        · subst h
          cases c with
          | none => exact ⟨x, .inl ⟨rfl, Int.le_refl _⟩⟩
          | some c =>
            by_cases q : x < c
            · exact ⟨x, .inl ⟨by show (if x < c then _ else _) = _; rw [if_pos q], Int.le_refl _⟩⟩
            · exact ⟨c, .inl ⟨by show (if x < c then _ else _) = _; rw [if_neg q], by omega⟩⟩
        · exact ⟨x, .inr h⟩
    obtain ⟨z, ⟨h1, h2⟩ | h⟩ := step
    · obtain ⟨t, e, le⟩ := fold_le (l := l) (c := least c y) (x := z) (.inl h1)
      exact ⟨t, e, Int.le_trans le h2⟩
    · exact fold_le (l := l) (c := least c y) (.inr h)
theorem thr_mem {ws : Wt} {row : List (Option Int)} {m t : Int} (h : thr ws row m = some t) : ∃ s ∈ outs ws m, cand ws row s = some t := by
  rcases fold_mem h with q | q
  · cases q
  · obtain ⟨s, hs, e⟩ := List.mem_map.mp q
    exact ⟨s, hs, e⟩
theorem thr_le {ws : Wt} {row : List (Option Int)} {m s x : Int} (hs : s ∈ outs ws m) (h : cand ws row s = some x) : ∃ t, thr ws row m = some t ∧ t ≤ x :=
  fold_le (.inr (List.mem_map.mpr ⟨s, hs, h⟩))
theorem outs_le {ws : Wt} {m s : Int} (h : s ∈ outs ws m) : m ≤ s := by
  rcases List.mem_cons.mp h with h | h
  · omega
  · have := of_decide_eq_true (List.mem_filter.mp h).2
    omega
def RowOk (row : List (Option Int)) : Prop := ∀ x, some x ∈ row → 1 ≤ x
theorem num_in {row : List (Option Int)} {w : Nat} {x : Int} (h : num row w = some x) : some x ∈ row := by
  unfold num at h
  rw [List.getD_eq_getElem?_getD] at h
  cases q : row[w]? with
  | none => rw [q] at h; cases h
  | some y =>
    rw [q] at h
    have e : y = some x := h
    rw [← e]
    exact List.mem_of_getElem? q
theorem thr_gt {ws : Wt} {row : List (Option Int)} {m t : Int} (ok : RowOk row) (h : thr ws row m = some t) : m < t := by
  obtain ⟨s, hs, e⟩ := thr_mem h
  have := outs_le hs
  unfold cand at e
  obtain ⟨n, hn, rfl⟩ := Option.map_eq_some_iff.mp e
  have := ok n (num_in hn)
  omega
theorem fold_same {a b : Int} : ∀ {ws : Wt} {z : Nat}, (∀ r ∈ ws, (r.1 ≤ a ↔ r.1 ≤ b)) → ws.foldl (fun z r => if r.1 ≤ a then r.2 else z) z = ws.foldl (fun z r => if r.1 ≤ b then r.2 else z) z
  | [], _, _ => rfl
  | r :: ws, z, h => by
    have e : (if r.1 ≤ a then r.2 else z) = (if r.1 ≤ b then r.2 else z) := by
      have := h r List.mem_cons_self
      by_cases q : r.1 ≤ a
      · rw [if_pos q, if_pos (this.mp q)]
      · rw [if_neg q, if_neg fun y => q (this.mpr y)]
    rw [List.foldl_cons, List.foldl_cons, e]
    exact fold_same fun r hr => h r (List.mem_cons_of_mem _ hr)
theorem wind_same {ws : Wt} {a b : Int} (h : ∀ r ∈ ws, (r.1 ≤ a ↔ r.1 ≤ b)) : windAt ws a = windAt ws b := fold_same h
theorem max_of : ∀ {l : List Int}, l ≠ [] → ∃ x ∈ l, ∀ y ∈ l, y ≤ x
  | [], h => absurd rfl h
  | [x], _ => ⟨x, List.mem_cons_self, fun y hy => by rw [List.mem_singleton.mp hy]; exact Int.le_refl _⟩
  | x :: z :: l, _ => by
    obtain ⟨m, hm, h⟩ := max_of (l := z :: l) (by simp)
    by_cases q : m ≤ x
    · exact ⟨x, List.mem_cons_self, fun y hy => by
        rcases List.mem_cons.mp hy with rfl | hy
        · exact Int.le_refl _
        · exact Int.le_trans (h y hy) q⟩
    · exact ⟨m, List.mem_cons_of_mem _ hm, fun y hy => by
        rcases List.mem_cons.mp hy with rfl | hy
        · omega
        · exact h y hy⟩
theorem outs_back {ws : Wt} {a b : Int} (h : a ≤ b) : ∃ s ∈ outs ws a, s ≤ b ∧ windAt ws s = windAt ws b := by
  by_cases q : ((ws.map (·.1)).filter fun s => decide (a < s ∧ s ≤ b)) = []
  · refine ⟨a, List.mem_cons_self, h, wind_same fun r hr => ⟨fun z => by omega, fun z => ?_⟩⟩
    rw [List.filter_eq_nil_iff] at q
    have := q r.1 (List.mem_map.mpr ⟨r, hr, rfl⟩)
    rw [decide_eq_true_iff] at this
    omega
  · obtain ⟨s, hs, mx⟩ := max_of q
    obtain ⟨h1, h2⟩ := List.mem_filter.mp hs
    have h2 := of_decide_eq_true h2
    refine ⟨s, List.mem_cons_of_mem _ (List.mem_filter.mpr ⟨h1, decide_eq_true h2.1⟩), h2.2, wind_same fun r hr => ⟨fun z => by omega, fun z => ?_⟩⟩
    by_cases c : a < r.1
    · exact mx r.1 (List.mem_filter.mpr ⟨List.mem_map.mpr ⟨r, hr, rfl⟩, decide_eq_true ⟨c, z⟩⟩)
    · omega
theorem thr_mono {ws : Wt} {row : List (Option Int)} {a b t : Int} (le : a ≤ b) (h : thr ws row b = some t) : ∃ t', thr ws row a = some t' ∧ t' ≤ t := by
  obtain ⟨s, hs, e⟩ := thr_mem h
  rcases List.mem_cons.mp hs with rfl | hs
  · obtain ⟨u, hu, ul, uw⟩ := outs_back (ws := ws) le
    unfold cand at e
    obtain ⟨n, hn, rfl⟩ := Option.map_eq_some_iff.mp e
    obtain ⟨t', h1, h2⟩ := thr_le (row := row) (x := u + n) hu (by unfold cand; rw [uw, hn]; rfl)
    exact ⟨t', h1, by omega⟩
  · obtain ⟨h1, h2⟩ := List.mem_filter.mp hs
    have h2 := of_decide_eq_true h2
    exact thr_le (List.mem_cons_of_mem _ (List.mem_filter.mpr ⟨h1, decide_eq_true (by omega)⟩)) e
/-! ### what is reached -/
structure Fire where
  ws : Wt
  ls : List Lk
  st : List (Str × Int)
  stop : Str → Option Int
def ahead (m : Option Int) (t : Int) : Bool := match m with
  | none => true
  | some m => decide (t < m)
theorem ahead_mono {m : Option Int} {a b : Int} (le : a ≤ b) (h : ahead m b = true) : ahead m a = true := by
  cases m with
  | none => rfl
  | some m =>
    have := of_decide_eq_true h
    exact decide_eq_true (by omega)
inductive Reach (F : Fire) : Str → Int → Prop
  | start {p : Str} {t : Int} : (p, t) ∈ F.st → ahead (F.stop p) t = true → Reach F p t
  | step {l : Lk} {t t' : Int} : Reach F l.o t → l ∈ F.ls → thr F.ws l.row t = some t' → ahead (F.stop l.t) t' = true → Reach F l.t t'
structure Ok (F : Fire) (ps : List Str) : Prop where
  nn : ∀ r ∈ F.st, 0 ≤ r.2
  rows : ∀ l ∈ F.ls, RowOk l.row
  sp : ∀ r ∈ F.st, r.1 ∈ ps
  ends : ∀ l ∈ F.ls, l.o ∈ ps ∧ l.t ∈ ps
theorem Reach.nn {F : Fire} {ps : List Str} (ok : Ok F ps) {p : Str} {t : Int} (h : Reach F p t) : 0 ≤ t ∧ p ∈ ps := by
  induction h with
  | start h _ => exact ⟨ok.nn _ h, ok.sp _ h⟩
  | step _ hl ht _ ih =>
    have := thr_gt (ok.rows _ hl) ht
    exact ⟨by omega, (ok.ends _ hl).2⟩
structure IsFire (F : Fire) (f : Str → Option Int) : Prop where
  sound : ∀ p t, f p = some t → Reach F p t
  start : ∀ p t, (p, t) ∈ F.st → ahead (F.stop p) t = true → ∃ s, f p = some s ∧ s ≤ t
  step : ∀ l ∈ F.ls, ∀ t t', f l.o = some t → thr F.ws l.row t = some t' → ahead (F.stop l.t) t' = true → ∃ s, f l.t = some s ∧ s ≤ t'
theorem IsFire.le {F : Fire} {f : Str → Option Int} (h : IsFire F f) {p : Str} {t : Int} (r : Reach F p t) : ∃ s, f p = some s ∧ s ≤ t := by
  induction r with
  | start a b => exact h.start _ _ a b
  | step _ hl ht ha ih =>
    obtain ⟨s, e, le⟩ := ih
    obtain ⟨s', e', le'⟩ := thr_mono le ht
    obtain ⟨u, eu, lu⟩ := h.step _ hl _ _ e e' (ahead_mono le' ha)
    exact ⟨u, eu, Int.le_trans lu le'⟩
theorem IsFire.uniq {F : Fire} {f g : Str → Option Int} (hf : IsFire F f) (hg : IsFire F g) (p : Str) : f p = g p := by
  have one : ∀ {f g : Str → Option Int}, IsFire F f → IsFire F g → ∀ t, f p = some t → ∃ s, g p = some s ∧ s ≤ t := fun hf hg t e => hg.le (hf.sound _ _ e)
  cases ef : f p with
  | none =>
    cases eg : g p with
    | none => rfl
    | some t =>
      obtain ⟨s, e, _⟩ := one hg hf t eg
      rw [ef] at e; cases e
  | some t =>
    obtain ⟨s, e, le⟩ := one hf hg t ef
    obtain ⟨u, eu, lu⟩ := one hg hf s e
    rw [ef] at eu
    cases eu
    rw [e, show s = t by omega]
theorem reach_min {F : Fire} {ps : List Str} (ok : Ok F ps) {p : Str} : ∀ (n : Nat) {t : Int}, Reach F p t → t.toNat ≤ n → ∃ s, Reach F p s ∧ ∀ u, Reach F p u → s ≤ u
  | 0, t, h, le => ⟨t, h, fun u hu => by
    have := (h.nn ok).1
    have := (hu.nn ok).1
    omega⟩
  | n + 1, t, h, le => by
    by_cases q : ∃ u, Reach F p u ∧ u < t
    · obtain ⟨u, hu, lt⟩ := q
      have := (hu.nn ok).1
      exact reach_min ok n hu (by omega)
    · exact ⟨t, h, fun u hu => by
        have : ¬ u < t := fun z => q ⟨u, hu, z⟩
        omega⟩
open Classical in
/-- the first minutes -/
noncomputable def first (F : Fire) (p : Str) : Option Int := if h : ∃ s, Reach F p s ∧ ∀ u, Reach F p u → s ≤ u then some (Classical.choose h) else none
theorem first_some {F : Fire} {p : Str} {t : Int} (h : first F p = some t) : Reach F p t ∧ ∀ u, Reach F p u → t ≤ u := by
  unfold first at h
  split at h
  · rename_i q
    cases h
    exact Classical.choose_spec q
  · cases h
theorem first_le {F : Fire} {ps : List Str} (ok : Ok F ps) {p : Str} {t : Int} (h : Reach F p t) : ∃ s, first F p = some s ∧ s ≤ t := by
  have q := reach_min ok t.toNat h (Nat.le_refl _)
  unfold first
  rw [dif_pos q]
  exact ⟨_, rfl, (Classical.choose_spec q).2 t h⟩
theorem first_is {F : Fire} {ps : List Str} (ok : Ok F ps) : IsFire F (first F) where
  sound := fun p t h => (first_some h).1
  start := fun p t h a => first_le ok (.start h a)
  step := fun l hl t t' h ht a => first_le ok (.step (first_some h).1 hl ht a)
theorem is_first {F : Fire} {ps : List Str} (ok : Ok F ps) {f : Str → Option Int} (h : IsFire F f) (p : Str) : f p = first F p := h.uniq (first_is ok) p
theorem first_in {F : Fire} {ps : List Str} (ok : Ok F ps) {p : Str} {t : Int} (h : first F p = some t) : p ∈ ps ∧ 0 ≤ t := ⟨((first_some h).1.nn ok).2, ((first_some h).1.nn ok).1⟩
/-! ### rounds over all links -/
def Sound (F : Fire) (f : Str → Option Int) : Prop := ∀ p t, f p = some t → Reach F p t
def Starts (F : Fire) (f : Str → Option Int) : Prop := ∀ p t, (p, t) ∈ F.st → ahead (F.stop p) t = true → ∃ s, f p = some s ∧ s ≤ t
/-- g is nowhere later than f -/
def Le (g f : Str → Option Int) : Prop := ∀ p t, f p = some t → ∃ s, g p = some s ∧ s ≤ t
theorem Le.refl (f : Str → Option Int) : Le f f := fun p t h => ⟨t, h, Int.le_refl _⟩
theorem Le.trans {f g h : Str → Option Int} (a : Le h g) (b : Le g f) : Le h f := fun p t e => by
  obtain ⟨s, e1, l1⟩ := b p t e
  obtain ⟨u, e2, l2⟩ := a p s e1
  exact ⟨u, e2, Int.le_trans l2 l1⟩
/-- the links of the list are taken from f to g -/
def Taken (F : Fire) (ls : List Lk) (f g : Str → Option Int) : Prop := ∀ l ∈ ls, ∀ t t', f l.o = some t → thr F.ws l.row t = some t' → ahead (F.stop l.t) t' = true → ∃ s, g l.t = some s ∧ s ≤ t'
open Classical in
noncomputable def bad (F : Fire) (ps : List Str) (f : Str → Option Int) : List Str := ps.filter fun p => decide (f p ≠ first F p)
theorem final_stays {F : Fire} {ps : List Str} (ok : Ok F ps) {f g : Str → Option Int} (sg : Sound F g) (le : Le g f) {p : Str} (h : f p = first F p) : g p = first F p := by
  cases e : first F p with
  | none =>
    cases q : g p with
    | none => rfl
    | some t =>
      obtain ⟨s, e2, _⟩ := first_le ok (sg p t q)
      rw [e] at e2; cases e2
  | some t =>
    rw [e] at h
    obtain ⟨s, e1, l1⟩ := le p t h
    have := (first_some e).2 s (sg p s e1)
    rw [e1, show s = t by omega]
theorem round_step {F : Fire} {ps : List Str} (ok : Ok F ps) {f g : Str → Option Int} (sf : Sound F f) (sg : Sound F g) (st : Starts F f) (le : Le g f) (tk : Taken F F.ls f g) (ne : bad F ps f ≠ []) : (bad F ps g).length < (bad F ps f).length := by
  have vals : ∀ p ∈ bad F ps f, ∃ m, first F p = some m := fun p hp => by
    have hn := of_decide_eq_true (List.mem_filter.mp hp).2
    cases e : first F p with
    | some m => exact ⟨m, rfl⟩
    | none =>
      exfalso
      cases q : f p with
      | none => exact hn (by rw [q, e])
      | some t =>
        obtain ⟨s, e2, _⟩ := first_le ok (sf p t q)
        rw [e] at e2; cases e2
  obtain ⟨p, hp, mn⟩ : ∃ p ∈ bad F ps f, ∀ q ∈ bad F ps f, ∀ a b, first F p = some a → first F q = some b → a ≤ b := by
    have key : ∀ l : List Str, l ≠ [] → (∀ p ∈ l, ∃ m, first F p = some m) → ∃ p ∈ l, ∀ q ∈ l, ∀ a b, first F p = some a → first F q = some b → a ≤ b := fun l => by
      induction l with
      | nil => exact fun h => absurd rfl h
      | cons x l ih =>
        intro _ hv
        cases l with
        | nil => exact ⟨x, List.mem_cons_self, fun q hq a b ha hb => by rw [List.mem_singleton.mp hq, ha] at hb; cases hb; exact Int.le_refl _⟩
        | cons y l =>
          obtain ⟨p, hp, mn⟩ := ih (by simp) fun p hp => hv p (List.mem_cons_of_mem _ hp)
          obtain ⟨mx, ex⟩ := hv x List.mem_cons_self
          obtain ⟨mp, ep⟩ := hv p (List.mem_cons_of_mem _ hp)
          by_cases c : mx ≤ mp
          · refine ⟨x, List.mem_cons_self, fun q hq a b ha hb => ?_⟩
            rw [ex] at ha; cases ha
            rcases List.mem_cons.mp hq with rfl | hq
            · rw [ex] at hb; cases hb; exact Int.le_refl _
            · exact Int.le_trans c (mn q hq _ _ ep hb)
          · refine ⟨p, List.mem_cons_of_mem _ hp, fun q hq a b ha hb => ?_⟩
            rcases List.mem_cons.mp hq with rfl | hq
            · rw [ex] at hb; cases hb
              rw [ep] at ha; cases ha
              omega
            · exact mn q hq a b ha hb
    exact key _ ne vals
  obtain ⟨m, em⟩ := vals p hp
  have pp := (List.mem_filter.mp hp).1
  have good : g p = first F p := by
    obtain ⟨r, mr⟩ := first_some em
    cases r with
    | start a b =>
      obtain ⟨s, e, l⟩ := st _ _ a b
      have := mr s (sf _ _ e)
      exact absurd (show f p = first F p by rw [e, em, show s = m by omega]) (of_decide_eq_true (List.mem_filter.mp hp).2)
    | @step l t _ hr hl ht ha =>
      obtain ⟨t0, e0, l0⟩ := first_le ok hr
      have gt := thr_gt (ok.rows l hl) ht
      have fo : f l.o = first F l.o := Classical.byContradiction fun c => by
        have := mn l.o (List.mem_filter.mpr ⟨(ok.ends l hl).1, decide_eq_true c⟩) _ _ em e0
        omega
      obtain ⟨t1, e1, l1⟩ := thr_mono l0 ht
      obtain ⟨s, e2, l2⟩ := tk l hl t0 t1 (fo.trans e0) e1 (ahead_mono l1 ha)
      have := mr s (sg _ _ e2)
      rw [e2, em, show s = m by omega]
  have sub : ∀ q ∈ bad F ps g, q ∈ bad F ps f := fun q hq => by
    obtain ⟨h1, h2⟩ := List.mem_filter.mp hq
    exact List.mem_filter.mpr ⟨h1, decide_eq_true fun c => of_decide_eq_true h2 (final_stays ok sg le c)⟩
  have lt : ∀ (l : List Str), p ∈ l → (l.filter fun p => decide (¬ g p = first F p)).length + (if f p = first F p then 0 else 1) ≤ (l.filter fun p => decide (¬ f p = first F p)).length := fun l => by
    have all : ∀ l : List Str, (l.filter fun p => decide (¬ g p = first F p)).length ≤ (l.filter fun p => decide (¬ f p = first F p)).length := fun l => by
      induction l with
      | nil => exact Nat.le_refl _
      | cons x l ih =>
        rw [List.filter_cons, List.filter_cons]
        by_cases c : f x = first F x
        · have c2 := final_stays ok sg le c
          simp only [c, c2, not_true_eq_false, decide_false, Bool.false_eq_true, if_false]
          exact ih
        · simp only [c, not_false_eq_true, decide_true, if_true]
          split
          · rw [List.length_cons, List.length_cons]; omega
          · rw [List.length_cons]; omega
    induction l with
    | nil => exact fun h => by cases h
    | cons x l ih =>
      intro h
      have nf : ¬ f p = first F p := of_decide_eq_true (List.mem_filter.mp hp).2
      rw [if_neg nf] at ih ⊢
      rw [List.filter_cons, List.filter_cons]
      rcases List.mem_cons.mp h with rfl | h
      · simp only [good, nf, not_true_eq_false, decide_false, Bool.false_eq_true, if_false, not_false_eq_true, decide_true, if_true]
        rw [List.length_cons]
        have := all l
        omega
      · have ih := ih h
        by_cases c : f x = first F x
        · have c2 := final_stays ok sg le c
          simp only [c, c2, not_true_eq_false, decide_false, Bool.false_eq_true, if_false]
          exact ih
        · simp only [c, not_false_eq_true, decide_true, if_true]
          split
          · rw [List.length_cons, List.length_cons]; omega
          · rw [List.length_cons]; omega
  have := lt ps pp
  rw [if_neg (of_decide_eq_true (List.mem_filter.mp hp).2)] at this
  exact this
theorem bad_stays {F : Fire} {ps : List Str} (ok : Ok F ps) {f g : Str → Option Int} (sg : Sound F g) (le : Le g f) (h : bad F ps f = []) : bad F ps g = [] := by
  unfold bad at h ⊢
  rw [List.filter_eq_nil_iff] at h ⊢
  intro p hp c
  have := h p hp
  rw [decide_eq_true_iff] at this c
  exact c (final_stays ok sg le (Classical.byContradiction this))
theorem bad_none {F : Fire} {ps : List Str} (ok : Ok F ps) {f : Str → Option Int} (sf : Sound F f) (h : bad F ps f = []) (p : Str) : f p = first F p := by
  by_cases hp : p ∈ ps
  · unfold bad at h
    rw [List.filter_eq_nil_iff] at h
    have := h p hp
    rw [decide_eq_true_iff] at this
    exact Classical.byContradiction this
  · have n1 : f p = none := by
      cases e : f p with
      | none => rfl
      | some t => exact absurd ((sf p t e).nn ok).2 hp
    have n2 : first F p = none := by
      cases e : first F p with
      | none => rfl
      | some t => exact absurd (first_in ok e).1 hp
    rw [n1, n2]
theorem bad_len (F : Fire) (ps : List Str) (f : Str → Option Int) : (bad F ps f).length ≤ ps.length := List.length_filter_le _ _
end FP

set_option Elab.async false
set_option linter.all false
set_option maxRecDepth 100000
set_option maxHeartbeats 4000000
/-! Through a link by spells of wind; least minutes of rows; tables of minutes. -/
namespace FP
open PySem
abbrev Spell := Int × Option Int × Nat
def spells : Wt → List Spell
  | [] => []
  | [r] => [(r.1, none, r.2)]
  | r :: q :: l => (r.1, some q.1, r.2) :: spells (q :: l)
def over (e : Option Int) (m : Int) : Bool := match e with
  | none => false
  | some x => decide (x ≤ m)
def candS (row : List (Option Int)) (m : Int) (s : Spell) : Option Int := if over s.2.1 m = true then none else (num row s.2.2).map ((if s.1 < m then m else s.1) + ·)
def early (c : Option Int) (b : Int) : Bool := match c with
  | none => false
  | some f => decide (f ≤ b)
def goThr (row : List (Option Int)) (m : Int) : List Spell → Option Int → Option Int
  | [], c => c
  | s :: r, c => if early c s.1 = true then c else goThr row m r (least c (candS row m s))
def Asc (ws : Wt) : Prop := ws.Pairwise fun a b => a.1 < b.1
theorem spells_begin : ∀ {ws : Wt}, ∀ s ∈ spells ws, ∃ r ∈ ws, s.1 = r.1
  | [], s, h => by cases h
  | [r], s, h => ⟨r, List.mem_cons_self, by rw [List.mem_singleton.mp h]⟩
  | r :: q :: l, s, h => by
    rcases List.mem_cons.mp h with rfl | h
    · exact ⟨r, List.mem_cons_self, rfl⟩
    · obtain ⟨x, hx, e⟩ := spells_begin (ws := q :: l) s h
      exact ⟨x, List.mem_cons_of_mem _ hx, e⟩
theorem cand_ge {row : List (Option Int)} {m t : Int} {s : Spell} (ok : RowOk row) (h : candS row m s = some t) : s.1 < t := by
  unfold candS at h
  split at h
  · cases h
  · obtain ⟨n, hn, rfl⟩ := Option.map_eq_some_iff.mp h
    have := ok n (num_in hn)
    split <;> omega
theorem fold_keep {c : Int} : ∀ {l : List (Option Int)}, (∀ x, some x ∈ l → c ≤ x) → l.foldl least (some c) = some c
  | [], _ => rfl
  | none :: l, h => fold_keep (l := l) fun x hx => h x (List.mem_cons_of_mem _ hx)
  | some y :: l, h => by
    have := h y List.mem_cons_self
    show l.foldl least (if y < c then some y else some c) = _
    rw [if_neg (by omega)]
    exact fold_keep (l := l) fun x hx => h x (List.mem_cons_of_mem _ hx)
/-- to stop early changes nothing -/
theorem go_fold {row : List (Option Int)} {m : Int} (ok : RowOk row) : ∀ {ws : Wt} {c : Option Int}, Asc ws → goThr row m (spells ws) c = ((spells ws).map (candS row m)).foldl least c := by
  have key : ∀ {l : List Spell} {c : Option Int}, l.Pairwise (fun a b => a.1 < b.1) → goThr row m l c = (l.map (candS row m)).foldl least c := fun {l} => by
    induction l with
    | nil => intro c _; rfl
    | cons s r ih =>
      intro c h
      rw [List.pairwise_cons] at h
      unfold goThr
      cases e : early c s.1 with
      | false =>
        simp only [Bool.false_eq_true, if_false]
        rw [ih h.2]
        rfl
      | true =>
        simp only [if_true]
        cases c with
        | none => cases e
        | some f =>
          have le : f ≤ s.1 := of_decide_eq_true e
          refine (fold_keep fun x hx => ?_).symm
          obtain ⟨q, hq, eq⟩ := List.mem_map.mp hx
          have g := cand_ge ok eq
          rcases List.mem_cons.mp hq with rfl | hq
          · omega
          · have := h.1 q hq
            omega
  intro ws c a
  refine key ?_
  clear c
  induction ws with
  | nil => exact List.Pairwise.nil
  | cons r l ih =>
    cases l with
    | nil => exact List.pairwise_singleton _ _
    | cons q l =>
      unfold Asc at a
      rw [List.pairwise_cons] at a
      show List.Pairwise _ ((r.1, some q.1, r.2) :: spells (q :: l))
      rw [List.pairwise_cons]
      refine ⟨fun s hs => ?_, ih a.2⟩
      obtain ⟨x, hx, e⟩ := spells_begin s hs
      show r.1 < s.1
      rw [e]
      exact a.1 x hx
theorem fold_past {s : Int} : ∀ {l : Wt} {z : Nat}, (∀ r ∈ l, s < r.1) → l.foldl (fun z r => if r.1 ≤ s then r.2 else z) z = z
  | [], _, _ => rfl
  | r :: l, z, h => by
    have := h r List.mem_cons_self
    rw [List.foldl_cons, if_neg (by omega)]
    exact fold_past fun x hx => h x (List.mem_cons_of_mem _ hx)
theorem wind_at {A B : Wt} {r : Int × Nat} (a : Asc (A ++ r :: B)) : windAt (A ++ r :: B) r.1 = r.2 := by
  unfold windAt Asc at *
  rw [List.pairwise_append] at a
  obtain ⟨_, a2, _⟩ := a
  rw [List.pairwise_cons] at a2
  rw [List.foldl_append, List.foldl_cons, if_pos (Int.le_refl _), fold_past a2.1]
theorem wind_drop {r q : Int × Nat} {l : Wt} {s : Int} (h1 : r.1 ≤ s) (h2 : q.1 ≤ s) : windAt (r :: q :: l) s = windAt (q :: l) s := by
  unfold windAt
  simp only [List.headD_cons, List.foldl_cons, if_pos h1, if_pos h2]
theorem past_same {row : List (Option Int)} {m : Int} {ws : Wt} (a : Asc ws) : ∀ (A B : Wt), ws = A ++ B → (∀ r ∈ B, m < r.1) → (B.map (·.1)).map (cand ws row) = (spells B).map (candS row m)
  | A, [], _, _ => rfl
  | A, [r], e, h => by
    have := h r List.mem_cons_self
    have w : windAt ws r.1 = r.2 := by rw [e] at a ⊢; exact wind_at a
    show [cand ws row r.1] = [candS row m (r.1, none, r.2)]
    unfold cand candS over
    rw [w]
    simp only [Bool.false_eq_true, if_false]
    rw [if_neg (by omega)]
  | A, r :: q :: l, e, h => by
    have h1 := h r List.mem_cons_self
    have h2 := h q (List.mem_cons_of_mem _ List.mem_cons_self)
    have w : windAt ws r.1 = r.2 := by rw [e] at a ⊢; exact wind_at a
    have ih := past_same (row := row) (m := m) a (A ++ [r]) (q :: l) (by rw [e, List.append_assoc]; rfl) fun x hx => h x (List.mem_cons_of_mem _ hx)
    show cand ws row r.1 :: ((q :: l).map (·.1)).map (cand ws row) = candS row m (r.1, some q.1, r.2) :: (spells (q :: l)).map (candS row m)
    rw [ih]
    congr 1
    unfold cand candS over
    rw [w]
    simp only
    rw [if_neg (by rw [decide_eq_true_iff]; omega), if_neg (by omega)]
theorem thr_spells {row : List (Option Int)} {m : Int} : ∀ {ws : Wt}, Asc ws → (∀ r ∈ ws.head?, r.1 ≤ m) → ws ≠ [] → ((spells ws).map (candS row m)).foldl least none = thr ws row m
  | [], _, _, h => absurd rfl h
  | [r], a, h, _ => by
    have hr := h r rfl
    unfold thr leastL outs
    rw [show ([r].map (·.1)).filter (fun s => decide (m < s)) = [] by
      rw [List.map_cons, List.map_nil, List.filter_cons, if_neg (by rw [decide_eq_true_iff]; omega)]
      rfl]
    show least none (candS row m (r.1, none, r.2)) = least none (cand [r] row m)
    congr 1
    unfold cand candS over windAt
    simp only [List.headD_cons, List.foldl_cons, List.foldl_nil, Bool.false_eq_true, if_false, if_pos hr]
    by_cases c : r.1 < m
    · rw [if_pos c]
    · rw [if_neg c, show r.1 = m by omega]
  | r :: q :: l, a, h, _ => by
    have hr : r.1 ≤ m := h r rfl
    have a' := a
    unfold Asc at a'
    rw [List.pairwise_cons] at a'
    by_cases c : q.1 ≤ m
    · have ih := thr_spells (row := row) (m := m) (ws := q :: l) a'.2 (fun x hx => by cases hx; exact c) (by simp)
      show (candS row m (r.1, some q.1, r.2) :: (spells (q :: l)).map (candS row m)).foldl least none = _
      have e : candS row m (r.1, some q.1, r.2) = none := by
        unfold candS over
        simp only
        rw [if_pos (decide_eq_true c)]
      rw [e, List.foldl_cons]
      show ((spells (q :: l)).map (candS row m)).foldl least none = _
      rw [ih]
      unfold thr outs
      have e2 : ((r :: q :: l).map (·.1)).filter (fun s => decide (m < s)) = ((q :: l).map (·.1)).filter (fun s => decide (m < s)) := by
        rw [List.map_cons, List.filter_cons, if_neg (by rw [decide_eq_true_iff]; omega)]
      rw [e2]
      congr 1
      refine List.map_congr_left fun s hs => ?_
      have : m ≤ s := by
        rcases List.mem_cons.mp hs with z | z
        · omega
        · have := of_decide_eq_true (List.mem_filter.mp z).2
          omega
      unfold cand
      rw [wind_drop (by omega) (by omega)]
    · have big : ∀ x ∈ q :: l, m < x.1 := fun x hx => by
        rcases List.mem_cons.mp hx with rfl | hx
        · omega
        · have z := a'.2
          rw [List.pairwise_cons] at z
          have := z.1 x hx
          omega
      have ih := past_same (row := row) (m := m) a [r] (q :: l) rfl big
      show (candS row m (r.1, some q.1, r.2) :: (spells (q :: l)).map (candS row m)).foldl least none = _
      rw [← ih]
      unfold thr leastL outs
      have e2 : ((r :: q :: l).map (·.1)).filter (fun s => decide (m < s)) = (q :: l).map (·.1) := by
        rw [List.map_cons, List.filter_cons, if_neg (by rw [decide_eq_true_iff]; omega)]
        exact List.filter_eq_self.mpr fun s hs => by
          obtain ⟨x, hx, rfl⟩ := List.mem_map.mp hs
          exact decide_eq_true (big x hx)
      rw [e2, List.map_cons]
      congr 2
      unfold cand candS over windAt
      simp only [List.headD_cons, List.foldl_cons]
      have z := big q List.mem_cons_self
      have c0 : ¬ decide (q.1 ≤ m) = true := by rw [decide_eq_true_iff]; omega
      have c1 : ¬ q.1 ≤ m := by omega
      rw [if_pos hr]
      simp only [if_neg c0, if_neg c1]
      rw [fold_past fun x hx => big x (List.mem_cons_of_mem _ hx)]
      by_cases c2 : r.1 < m
      · simp only [if_pos c2]
      · have er : r.1 = m := by omega
        simp only [if_neg c2]
        rw [er]
theorem go_thr {row : List (Option Int)} {m : Int} {ws : Wt} (ok : RowOk row) (a : Asc ws) (h : ∀ r ∈ ws.head?, r.1 ≤ m) (ne : ws ≠ []) : goThr row m (spells ws) none = thr ws row m := by
  rw [go_fold ok a, thr_spells a h ne]
/-! ### least minutes of rows (place, minute) -/
def minOf (rows : List (Str × Int)) (p : Str) : Option Int := rows.foldl (fun c r => if r.1 = p then least c (some r.2) else c) none
theorem minOf_more (rows : List (Str × Int)) (r : Str × Int) (p : Str) : minOf (rows ++ [r]) p = if r.1 = p then least (minOf rows p) (some r.2) else minOf rows p := by
  unfold minOf
  rw [List.foldl_append]
  rfl
end FP

set_option Elab.async false
set_option linter.all false
set_option maxRecDepth 100000
set_option maxHeartbeats 4000000
namespace EV
open PySem PySem.Spec PyProof.Rows L2 EvS
def top (i : Nat) : Stmt := PySem.Challenge.pw_everyfire_k42_courses_of_hands.main.body.getD i (.Pass ⟨0, 0, 0, 0⟩)
abbrev s_least_minutes : Stmt := top 8
abbrev s_is_name : Stmt := top 18
abbrev s__check_count : Stmt := top 19
abbrev s_check_names_lands : Stmt := top 20
abbrev s__check_ends : Stmt := top 22
abbrev s__as_bounds : Stmt := top 23
abbrev s__as_link : Stmt := top 24
abbrev s__as_path : Stmt := top 25
abbrev s__check_single_paths : Stmt := top 26
abbrev s__is_between : Stmt := top 27
abbrev s_init : Stmt := inClass (top 28) 0
abbrev s_link_names : Stmt := inClass (top 28) 1
abbrev s_check_place : Stmt := inClass (top 28) 2
abbrev s_minutes_between : Stmt := inClass (top 28) 9
abbrev s_Course_init : Stmt := inClass (top 35) 0
abbrev s_Course_follow : Stmt := inClass (top 35) 1
abbrev s_Course_breaks_in : Stmt := inClass (top 35) 2
abbrev s_stays : Stmt := top 36
abbrev s_breaks_of : Stmt := top 37
abbrev s_end_of : Stmt := top 38
abbrev s__course_of : Stmt := top 39
abbrev s_check_names_hands : Stmt := top 40
abbrev s__check_places : Stmt := top 42
abbrev s__check_deeds : Stmt := top 43
abbrev s__is_deed : Stmt := top 44
abbrev s__law_row : Stmt := top 46
abbrev s__law_numbers : Stmt := top 47
abbrev s__law_names : Stmt := top 48
abbrev s__law_parts : Stmt := top 49
abbrev s__law_make : Stmt := top 50
abbrev s__law_walks : Stmt := top 51
abbrev s__law_hands : Stmt := top 52
abbrev s__law_course : Stmt := top 53
abbrev s__law_cut : Stmt := top 54
abbrev s_law : Stmt := top 55
theorem sc_least_minutes : FnScope ["rows", "least", "place", "minute"] ["rows"] (defScope s_least_minutes) := ⟨rfl, rfl, rfl, by decide +kernel, rfl, by decide +kernel, by decide +kernel⟩
theorem sc_is_name : FnScope ["text", "sign"] ["text"] (defScope s_is_name) := ⟨rfl, rfl, rfl, by decide +kernel, rfl, by decide +kernel, by decide +kernel⟩
theorem sc__check_count : FnScope ["sort", "rows", "least", "most"] ["sort", "rows", "least", "most"] (defScope s__check_count) := ⟨rfl, rfl, rfl, by decide +kernel, rfl, by decide +kernel, by decide +kernel⟩
theorem sc_check_names_lands : FnScope ["sort", "names", "name"] ["sort", "names"] (defScope s_check_names_lands) := ⟨rfl, rfl, rfl, by decide +kernel, rfl, by decide +kernel, by decide +kernel⟩
theorem sc__check_ends : FnScope ["sort", "one", "other", "places"] ["sort", "one", "other", "places"] (defScope s__check_ends) := ⟨rfl, rfl, rfl, by decide +kernel, rfl, by decide +kernel, by decide +kernel⟩
theorem sc__as_bounds : FnScope ["bounds", "least", "most"] ["bounds"] (defScope s__as_bounds) := ⟨rfl, rfl, rfl, by decide +kernel, rfl, by decide +kernel, by decide +kernel⟩
theorem sc__as_link : FnScope ["link", "winds", "places", "name", "one", "other", "times", "bounds"] ["link", "winds", "places"] (defScope s__as_link) := ⟨rfl, rfl, rfl, by decide +kernel, rfl, by decide +kernel, by decide +kernel⟩
theorem sc__as_path : FnScope ["path", "places", "one", "other", "minutes"] ["path", "places"] (defScope s__as_path) := ⟨rfl, rfl, rfl, by decide +kernel, rfl, by decide +kernel, by decide +kernel⟩
theorem sc__check_single_paths : FnScope ["paths", "ends", "one", "other", "_"] ["paths"] (defScope s__check_single_paths) := ⟨rfl, rfl, rfl, by decide +kernel, rfl, by decide +kernel, by decide +kernel⟩
theorem sc__is_between : FnScope ["path", "one", "other"] ["path", "one", "other"] (defScope s__is_between) := ⟨rfl, rfl, rfl, by decide +kernel, rfl, by decide +kernel, by decide +kernel⟩
theorem sc_init : FnScope ["self", "winds", "places", "links", "paths", "link", "path"] ["self", "winds", "places", "links", "paths"] (defScope s_init) := ⟨rfl, rfl, rfl, by decide +kernel, rfl, by decide +kernel, by decide +kernel⟩
theorem sc_link_names : FnScope ["self", "link"] ["self"] (defScope s_link_names) := ⟨rfl, rfl, rfl, by decide +kernel, rfl, by decide +kernel, by decide +kernel⟩
theorem sc_check_place : FnScope ["self", "place"] ["self", "place"] (defScope s_check_place) := ⟨rfl, rfl, rfl, by decide +kernel, rfl, by decide +kernel, by decide +kernel⟩
theorem sc_minutes_between : FnScope ["self", "one", "other", "path"] ["self", "one", "other"] (defScope s_minutes_between) := ⟨rfl, rfl, rfl, by decide +kernel, rfl, by decide +kernel, by decide +kernel⟩
theorem sc_Course_init : FnScope ["self"] ["self"] (defScope s_Course_init) := ⟨rfl, rfl, rfl, by decide +kernel, rfl, by decide +kernel, by decide +kernel⟩
theorem sc_Course_follow : FnScope ["self", "land", "number", "hand", "name", "place", "deeds", "since", "now", "word", "told", "minutes"] ["self", "land", "number", "hand"] (defScope s_Course_follow) := ⟨rfl, rfl, rfl, by decide +kernel, rfl, by decide +kernel, by decide +kernel⟩
theorem sc_Course_breaks_in : FnScope ["self", "land", "ready", "place"] ["self", "land"] (defScope s_Course_breaks_in) := ⟨rfl, rfl, rfl, by decide +kernel, rfl, by decide +kernel, by decide +kernel⟩
theorem sc_stays : FnScope ["land", "hands"] ["land", "hands"] (defScope s_stays) := ⟨rfl, rfl, rfl, by decide +kernel, rfl, by decide +kernel, by decide +kernel⟩
theorem sc_breaks_of : FnScope ["land", "hands"] ["land", "hands"] (defScope s_breaks_of) := ⟨rfl, rfl, rfl, by decide +kernel, rfl, by decide +kernel, by decide +kernel⟩
theorem sc_end_of : FnScope ["land", "hands"] ["land", "hands"] (defScope s_end_of) := ⟨rfl, rfl, rfl, by decide +kernel, rfl, by decide +kernel, by decide +kernel⟩
theorem sc__course_of : FnScope ["land", "hands", "course", "number", "hand"] ["land", "hands"] (defScope s__course_of) := ⟨rfl, rfl, rfl, by decide +kernel, rfl, by decide +kernel, by decide +kernel⟩
theorem sc_check_names_hands : FnScope ["hands", "names", "name", "_"] ["hands"] (defScope s_check_names_hands) := ⟨rfl, rfl, rfl, by decide +kernel, rfl, by decide +kernel, by decide +kernel⟩
theorem sc__check_places : FnScope ["land", "hands", "_", "place", "deeds", "deed"] ["land", "hands"] (defScope s__check_places) := ⟨rfl, rfl, rfl, by decide +kernel, rfl, by decide +kernel, by decide +kernel⟩
theorem sc__check_deeds : FnScope ["hands", "name", "_", "deeds", "deed"] ["hands"] (defScope s__check_deeds) := ⟨rfl, rfl, rfl, by decide +kernel, rfl, by decide +kernel, by decide +kernel⟩
theorem sc__is_deed : FnScope ["deed"] ["deed"] (defScope s__is_deed) := ⟨rfl, rfl, rfl, by decide +kernel, rfl, by decide +kernel, by decide +kernel⟩
theorem sc__law_row : FnScope ["cell", "many", "row", "rest", "mixed", "k"] ["cell", "many"] (defScope s__law_row) := ⟨rfl, rfl, rfl, by decide +kernel, rfl, by decide +kernel, by decide +kernel⟩
theorem sc__law_numbers : FnScope ["script", "many", "cells", "each", "numbers", "cell", "number"] ["script", "many"] (defScope s__law_numbers) := ⟨rfl, rfl, rfl, by decide +kernel, rfl, by decide +kernel, by decide +kernel⟩
theorem sc__law_names : FnScope ["number", "many", "letters", "size", "rest", "place", "names", "k", "own", "spot", "step"] ["number", "many"] (defScope s__law_names) := ⟨rfl, rfl, rfl, by decide +kernel, rfl, by decide +kernel, by decide +kernel⟩
theorem sc__law_parts : FnScope ["numbers", "at", "winds", "places", "names", "links", "k", "spot", "one", "other", "times", "j", "least", "paths", "known", "path"] ["numbers", "at"] (defScope s__law_parts) := ⟨rfl, rfl, rfl, by decide +kernel, rfl, by decide +kernel, by decide +kernel⟩
theorem sc__law_make : FnScope ["parts"] ["parts"] (defScope s__law_make) := ⟨rfl, rfl, rfl, by decide +kernel, rfl, by decide +kernel, by decide +kernel⟩
theorem sc__law_walks : FnScope ["parts", "place", "found", "one", "other", "minutes"] ["parts", "place"] (defScope s__law_walks) := ⟨rfl, rfl, rfl, by decide +kernel, rfl, by decide +kernel, by decide +kernel⟩
theorem sc__law_hands : FnScope ["numbers", "at", "parts", "names", "hands", "k", "spot", "start", "here", "deeds", "j", "walks", "kind", "part"] ["numbers", "at", "parts"] (defScope s__law_hands) := ⟨rfl, rfl, rfl, by decide +kernel, rfl, by decide +kernel, by decide +kernel⟩
theorem sc__law_course : FnScope ["parts", "hand", "name", "here", "deeds", "rows", "cuts", "now", "since", "word", "part", "minutes", "walk"] ["parts", "hand"] (defScope s__law_course) := ⟨rfl, rfl, rfl, by decide +kernel, rfl, by decide +kernel, by decide +kernel⟩
theorem sc__law_cut : FnScope ["parts", "hands", "cuts", "hand", "found", "place", "minutes", "cut"] ["parts", "hands"] (defScope s__law_cut) := ⟨rfl, rfl, rfl, by decide +kernel, rfl, by decide +kernel, by decide +kernel⟩
theorem sc_law : FnScope ["script", "numbers", "parts", "hands", "land", "passed", "rows", "end", "hand", "course", "told"] ["script"] (defScope s_law) := ⟨rfl, rfl, rfl, by decide +kernel, rfl, by decide +kernel, by decide +kernel⟩
/-- where the top has put things -/
structure Ad where
  C : Addr
  tl : Addr
  te : Addr
  pr : Addr
  C_Course : Addr
  f_least_minutes : Addr
  d_least_minutes : FuncData
  f_is_name : Addr
  d_is_name : FuncData
  f__check_count : Addr
  d__check_count : FuncData
  f_check_names_lands : Addr
  d_check_names_lands : FuncData
  f__check_ends : Addr
  d__check_ends : FuncData
  f__as_bounds : Addr
  d__as_bounds : FuncData
  f__as_link : Addr
  d__as_link : FuncData
  f__as_path : Addr
  d__as_path : FuncData
  f__check_single_paths : Addr
  d__check_single_paths : FuncData
  f__is_between : Addr
  d__is_between : FuncData
  f_init : Addr
  d_init : FuncData
  f_link_names : Addr
  d_link_names : FuncData
  f_check_place : Addr
  d_check_place : FuncData
  f_minutes_between : Addr
  d_minutes_between : FuncData
  f_Course_init : Addr
  d_Course_init : FuncData
  f_Course_follow : Addr
  d_Course_follow : FuncData
  f_Course_breaks_in : Addr
  d_Course_breaks_in : FuncData
  f_stays : Addr
  d_stays : FuncData
  f_breaks_of : Addr
  d_breaks_of : FuncData
  f_end_of : Addr
  d_end_of : FuncData
  f__course_of : Addr
  d__course_of : FuncData
  f_check_names_hands : Addr
  d_check_names_hands : FuncData
  f__check_places : Addr
  d__check_places : FuncData
  f__check_deeds : Addr
  d__check_deeds : FuncData
  f__is_deed : Addr
  d__is_deed : FuncData
  f__law_row : Addr
  d__law_row : FuncData
  f__law_numbers : Addr
  d__law_numbers : FuncData
  f__law_names : Addr
  d__law_names : FuncData
  f__law_parts : Addr
  d__law_parts : FuncData
  f__law_make : Addr
  d__law_make : FuncData
  f__law_walks : Addr
  d__law_walks : FuncData
  f__law_hands : Addr
  d__law_hands : FuncData
  f__law_course : Addr
  d__law_course : FuncData
  f__law_cut : Addr
  d__law_cut : FuncData
  f_law : Addr
  d_law : FuncData
structure Txt (K : PySem.W.Frag) (mg : Str → Option Value) (a : Ad) : Prop where
  F_least_minutes : Fun K "least_minutes" "least_minutes" s_least_minutes a.f_least_minutes a.d_least_minutes
  B_least_minutes : Binds K a.d_least_minutes ["rows"] []
  k_least_minutes : PySem.W.keepIn K (.ref a.f_least_minutes) = true
  g_least_minutes : mg "least_minutes" = some (.ref a.f_least_minutes)
  F_is_name : Fun K "is_name" "is_name" s_is_name a.f_is_name a.d_is_name
  B_is_name : Binds K a.d_is_name ["text"] []
  k_is_name : PySem.W.keepIn K (.ref a.f_is_name) = true
  g_is_name : mg "is_name" = some (.ref a.f_is_name)
  F__check_count : Fun K "_check_count" "_check_count" s__check_count a.f__check_count a.d__check_count
  B__check_count : Binds K a.d__check_count ["sort", "rows", "least", "most"] []
  k__check_count : PySem.W.keepIn K (.ref a.f__check_count) = true
  g__check_count : mg "_check_count" = some (.ref a.f__check_count)
  F_check_names_lands : Fun K "_check_names" "_check_names" s_check_names_lands a.f_check_names_lands a.d_check_names_lands
  B_check_names_lands : Binds K a.d_check_names_lands ["sort", "names"] []
  k_check_names_lands : PySem.W.keepIn K (.ref a.f_check_names_lands) = true
  g_check_names_lands : mg "check_names_lands" = some (.ref a.f_check_names_lands)
  F__check_ends : Fun K "_check_ends" "_check_ends" s__check_ends a.f__check_ends a.d__check_ends
  B__check_ends : Binds K a.d__check_ends ["sort", "one", "other", "places"] []
  k__check_ends : PySem.W.keepIn K (.ref a.f__check_ends) = true
  g__check_ends : mg "_check_ends" = some (.ref a.f__check_ends)
  F__as_bounds : Fun K "_as_bounds" "_as_bounds" s__as_bounds a.f__as_bounds a.d__as_bounds
  B__as_bounds : Binds K a.d__as_bounds ["bounds"] []
  k__as_bounds : PySem.W.keepIn K (.ref a.f__as_bounds) = true
  g__as_bounds : mg "_as_bounds" = some (.ref a.f__as_bounds)
  F__as_link : Fun K "_as_link" "_as_link" s__as_link a.f__as_link a.d__as_link
  B__as_link : Binds K a.d__as_link ["link", "winds", "places"] []
  k__as_link : PySem.W.keepIn K (.ref a.f__as_link) = true
  g__as_link : mg "_as_link" = some (.ref a.f__as_link)
  F__as_path : Fun K "_as_path" "_as_path" s__as_path a.f__as_path a.d__as_path
  B__as_path : Binds K a.d__as_path ["path", "places"] []
  k__as_path : PySem.W.keepIn K (.ref a.f__as_path) = true
  g__as_path : mg "_as_path" = some (.ref a.f__as_path)
  F__check_single_paths : Fun K "_check_single_paths" "_check_single_paths" s__check_single_paths a.f__check_single_paths a.d__check_single_paths
  B__check_single_paths : Binds K a.d__check_single_paths ["paths"] []
  k__check_single_paths : PySem.W.keepIn K (.ref a.f__check_single_paths) = true
  g__check_single_paths : mg "_check_single_paths" = some (.ref a.f__check_single_paths)
  F__is_between : Fun K "_is_between" "_is_between" s__is_between a.f__is_between a.d__is_between
  B__is_between : Binds K a.d__is_between ["path", "one", "other"] []
  k__is_between : PySem.W.keepIn K (.ref a.f__is_between) = true
  g__is_between : mg "_is_between" = some (.ref a.f__is_between)
  F_init : FunD K "__init__" "Land.__init__" (defArgs s_init) (defBody s_init) (defScope s_init) [] [("links", .ref a.tl), ("paths", .ref a.te)] a.f_init a.d_init
  F_link_names : Fun K "link_names" "Land.link_names" s_link_names a.f_link_names a.d_link_names
  B_link_names : Binds K a.d_link_names ["self"] []
  k_link_names : PySem.W.keepIn K (.ref a.f_link_names) = true
  F_check_place : Fun K "check_place" "Land.check_place" s_check_place a.f_check_place a.d_check_place
  B_check_place : Binds K a.d_check_place ["self", "place"] []
  k_check_place : PySem.W.keepIn K (.ref a.f_check_place) = true
  m_check_place : Meth K a.C "check_place" a.f_check_place
  F_minutes_between : Fun K "minutes_between" "Land.minutes_between" s_minutes_between a.f_minutes_between a.d_minutes_between
  B_minutes_between : Binds K a.d_minutes_between ["self", "one", "other"] []
  k_minutes_between : PySem.W.keepIn K (.ref a.f_minutes_between) = true
  m_minutes_between : Meth K a.C "minutes_between" a.f_minutes_between
  F_Course_init : Fun K "__init__" "Course.__init__" s_Course_init a.f_Course_init a.d_Course_init
  B_Course_init : Binds K a.d_Course_init ["self"] []
  k_Course_init : PySem.W.keepIn K (.ref a.f_Course_init) = true
  mk_Course : Mk K a.C_Course a.f_Course_init
  F_Course_follow : Fun K "follow" "Course.follow" s_Course_follow a.f_Course_follow a.d_Course_follow
  B_Course_follow : Binds K a.d_Course_follow ["self", "land", "number", "hand"] []
  k_Course_follow : PySem.W.keepIn K (.ref a.f_Course_follow) = true
  m_Course_follow : Meth K a.C_Course "follow" a.f_Course_follow
  F_Course_breaks_in : Fun K "breaks_in" "Course.breaks_in" s_Course_breaks_in a.f_Course_breaks_in a.d_Course_breaks_in
  B_Course_breaks_in : Binds K a.d_Course_breaks_in ["self", "land"] []
  k_Course_breaks_in : PySem.W.keepIn K (.ref a.f_Course_breaks_in) = true
  m_Course_breaks_in : Meth K a.C_Course "breaks_in" a.f_Course_breaks_in
  F_stays : Fun K "stays" "stays" s_stays a.f_stays a.d_stays
  B_stays : Binds K a.d_stays ["land", "hands"] []
  k_stays : PySem.W.keepIn K (.ref a.f_stays) = true
  g_stays : mg "stays" = some (.ref a.f_stays)
  F_breaks_of : Fun K "breaks_of" "breaks_of" s_breaks_of a.f_breaks_of a.d_breaks_of
  B_breaks_of : Binds K a.d_breaks_of ["land", "hands"] []
  k_breaks_of : PySem.W.keepIn K (.ref a.f_breaks_of) = true
  g_breaks_of : mg "breaks_of" = some (.ref a.f_breaks_of)
  F_end_of : Fun K "end_of" "end_of" s_end_of a.f_end_of a.d_end_of
  B_end_of : Binds K a.d_end_of ["land", "hands"] []
  k_end_of : PySem.W.keepIn K (.ref a.f_end_of) = true
  g_end_of : mg "end_of" = some (.ref a.f_end_of)
  F__course_of : Fun K "_course_of" "_course_of" s__course_of a.f__course_of a.d__course_of
  B__course_of : Binds K a.d__course_of ["land", "hands"] []
  k__course_of : PySem.W.keepIn K (.ref a.f__course_of) = true
  g__course_of : mg "_course_of" = some (.ref a.f__course_of)
  F_check_names_hands : Fun K "_check_names" "_check_names" s_check_names_hands a.f_check_names_hands a.d_check_names_hands
  B_check_names_hands : Binds K a.d_check_names_hands ["hands"] []
  k_check_names_hands : PySem.W.keepIn K (.ref a.f_check_names_hands) = true
  g_check_names_hands : mg "check_names_hands" = some (.ref a.f_check_names_hands)
  F__check_places : Fun K "_check_places" "_check_places" s__check_places a.f__check_places a.d__check_places
  B__check_places : Binds K a.d__check_places ["land", "hands"] []
  k__check_places : PySem.W.keepIn K (.ref a.f__check_places) = true
  g__check_places : mg "_check_places" = some (.ref a.f__check_places)
  F__check_deeds : Fun K "_check_deeds" "_check_deeds" s__check_deeds a.f__check_deeds a.d__check_deeds
  B__check_deeds : Binds K a.d__check_deeds ["hands"] []
  k__check_deeds : PySem.W.keepIn K (.ref a.f__check_deeds) = true
  g__check_deeds : mg "_check_deeds" = some (.ref a.f__check_deeds)
  F__is_deed : Fun K "_is_deed" "_is_deed" s__is_deed a.f__is_deed a.d__is_deed
  B__is_deed : Binds K a.d__is_deed ["deed"] []
  k__is_deed : PySem.W.keepIn K (.ref a.f__is_deed) = true
  g__is_deed : mg "_is_deed" = some (.ref a.f__is_deed)
  F__law_row : Fun K "_law_row" "_law_row" s__law_row a.f__law_row a.d__law_row
  B__law_row : Binds K a.d__law_row ["cell", "many"] []
  k__law_row : PySem.W.keepIn K (.ref a.f__law_row) = true
  g__law_row : mg "_law_row" = some (.ref a.f__law_row)
  F__law_numbers : Fun K "_law_numbers" "_law_numbers" s__law_numbers a.f__law_numbers a.d__law_numbers
  B__law_numbers : Binds K a.d__law_numbers ["script", "many"] []
  k__law_numbers : PySem.W.keepIn K (.ref a.f__law_numbers) = true
  g__law_numbers : mg "_law_numbers" = some (.ref a.f__law_numbers)
  F__law_names : Fun K "_law_names" "_law_names" s__law_names a.f__law_names a.d__law_names
  B__law_names : Binds K a.d__law_names ["number", "many"] []
  k__law_names : PySem.W.keepIn K (.ref a.f__law_names) = true
  g__law_names : mg "_law_names" = some (.ref a.f__law_names)
  F__law_parts : Fun K "_law_parts" "_law_parts" s__law_parts a.f__law_parts a.d__law_parts
  B__law_parts : Binds K a.d__law_parts ["numbers", "at"] []
  k__law_parts : PySem.W.keepIn K (.ref a.f__law_parts) = true
  g__law_parts : mg "_law_parts" = some (.ref a.f__law_parts)
  F__law_make : Fun K "_law_make" "_law_make" s__law_make a.f__law_make a.d__law_make
  B__law_make : Binds K a.d__law_make ["parts"] []
  k__law_make : PySem.W.keepIn K (.ref a.f__law_make) = true
  g__law_make : mg "_law_make" = some (.ref a.f__law_make)
  F__law_walks : Fun K "_law_walks" "_law_walks" s__law_walks a.f__law_walks a.d__law_walks
  B__law_walks : Binds K a.d__law_walks ["parts", "place"] []
  k__law_walks : PySem.W.keepIn K (.ref a.f__law_walks) = true
  g__law_walks : mg "_law_walks" = some (.ref a.f__law_walks)
  F__law_hands : Fun K "_law_hands" "_law_hands" s__law_hands a.f__law_hands a.d__law_hands
  B__law_hands : Binds K a.d__law_hands ["numbers", "at", "parts"] []
  k__law_hands : PySem.W.keepIn K (.ref a.f__law_hands) = true
  g__law_hands : mg "_law_hands" = some (.ref a.f__law_hands)
  F__law_course : Fun K "_law_course" "_law_course" s__law_course a.f__law_course a.d__law_course
  B__law_course : Binds K a.d__law_course ["parts", "hand"] []
  k__law_course : PySem.W.keepIn K (.ref a.f__law_course) = true
  g__law_course : mg "_law_course" = some (.ref a.f__law_course)
  F__law_cut : Fun K "_law_cut" "_law_cut" s__law_cut a.f__law_cut a.d__law_cut
  B__law_cut : Binds K a.d__law_cut ["parts", "hands"] []
  k__law_cut : PySem.W.keepIn K (.ref a.f__law_cut) = true
  g__law_cut : mg "_law_cut" = some (.ref a.f__law_cut)
  F_law : Fun K "law" "law" s_law a.f_law a.d_law
  B_law : Binds K a.d_law ["script"] []
  k_law : PySem.W.keepIn K (.ref a.f_law) = true
  g_law : mg "law" = some (.ref a.f_law)
  z_abs : mg "abs" = none
  z_all : mg "all" = none
  z_enumerate : mg "enumerate" = none
  z_int : mg "int" = none
  z_isinstance : mg "isinstance" = none
  z_len : mg "len" = none
  z_list : mg "list" = none
  z_max : mg "max" = none
  z_min : mg "min" = none
  z_range : mg "range" = none
  z_set : mg "set" = none
  z_sorted : mg "sorted" = none
  z_tuple : mg "tuple" = none
  c_CUT : ∃ t, mg "CUT" = some (.str "cut" t)
  c_DIGITS : ∃ t, mg "DIGITS" = some (.str "0123456789" t)
  c_LETTERS : ∃ t, mg "LETTERS" = some (.str "abcdefghijklmnopqrstuvwxyz" t)
  c_LONGEST_NAME : ∃ t, mg "LONGEST_NAME" = some (.int 12 t)
  c_MOST_DEEDS : ∃ t, mg "MOST_DEEDS" = some (.int 30 t)
  c_MOST_HANDS : ∃ t, mg "MOST_HANDS" = some (.int 5 t)
  c_MOST_LINKS : ∃ t, mg "MOST_LINKS" = some (.int 60 t)
  c_MOST_MINUTES : ∃ t, mg "MOST_MINUTES" = some (.int 1000 t)
  c_MOST_PATHS : ∃ t, mg "MOST_PATHS" = some (.int 60 t)
  c_MOST_PLACES : ∃ t, mg "MOST_PLACES" = some (.int 24 t)
  c_MOST_WINDS : ∃ t, mg "MOST_WINDS" = some (.int 4 t)
  c_WAIT : ∃ t, mg "WAIT" = some (.str "wait" t)
  c_WALK : ∃ t, mg "WALK" = some (.str "walk" t)
  cl_Course : Cls K a.C_Course
  g_Course : mg "Course" = some (.ref a.C_Course)
  na_Course_stays : NoAttr K a.C_Course "stays"
  na_Course_cuts : NoAttr K a.C_Course "cuts"
  na_Course_end : NoAttr K a.C_Course "end"
  cl : Cls K a.C
  mk_Land : Mk K a.C a.f_init
  g_Land : mg "Land" = some (.ref a.C)
  nW : NoAttr K a.C "winds"
  nP : NoAttr K a.C "places"
  nL : NoAttr K a.C "links"
  nA : NoAttr K a.C "paths"
  p_link_names : PropOf K a.C "link_names" a.pr a.f_link_names
  tlT : ∀ H : Hp, SqT K H a.tl []
  teT : ∀ H : Hp, SqT K H a.te []
end EV

set_option Elab.async false
set_option linter.all false
set_option maxRecDepth 100000
set_option maxHeartbeats 4000000
namespace EV
open PySem PySem.Spec PyProof.Rows L2 EvS Evl
def LETS : List Nat := ("abcdefghijklmnopqrstuvwxyz" : Str).cps.toList
def DIGS : List Nat := ("0123456789" : Str).cps.toList
def okSign (c : Nat) : Bool := decide (c ∈ LETS) || decide (c ∈ DIGS)
/-- point 2 -/
def isName (z : Str) : Bool := decide (1 ≤ z.length ∧ z.length ≤ 12) && (z.cps.toList.head?.any fun c => decide (c ∈ LETS)) && z.cps.toList.all okSign
def sp_is_name : Sp := fun vs H Q _ => ∃ z : Str, vs = [.str z] ∧ z.length ≤ 10000 ∧ ∀ H', Ex H H' → Q (.bl (isName z)) H'
section
variable {P : Program} {w : World} {K : PySem.W.Frag} {mg : Str → Option Value} {base : Heap} {a : Ad}
theorem G_is_name (T : Txt K mg a) : FnOk P w K mg base CX0 1 a.f_is_name a.d_is_name ["text"] sp_is_name := by
  refine T.F_is_name.ok sc_is_name (fun vs H Q E h => ?_) (fun cdv A outer s H vs Q E hr h => ?_)
  · obtain ⟨z, rfl, _⟩ := h
    rfl
  · obtain ⟨z, rfl, hz, k⟩ := h
    have hzs : z.length ≤ sizeLine := sz_of (by omega)
    refine ⟨_, (pss_cons (ps_if (pt_not (pt_chain op_le op_le pe_int (pe_callB call_len_str (by rfl) T.z_len PySem.boot_len (pa_cons (pv 0) pa_nil)) (pe_gI rfl T.c_LONGEST_NAME))) (pss_one (ps_ret pe_bl)) pss_nil)
      (pss_one (ps_ret (pe_and (pe_cmpR op_in_sign (pe_ix ix_str (pv 0) pe_int (fun _ _ => rfl)) (pe_gS rfl T.c_LETTERS) rfl) (pe_one (pe_callB (cr_all rfl) (by rfl) T.z_all (by decide +kernel) (pa_cons (pe_lc (own := [("sign", 1)]) (g := gName 1) (tt := tYes) rfl sc_is_name.nd (pi_str (pv 0)) (blkOk_by (N := ["text", "sign"]) (sc := defScope s_is_name) (by decide +kernel)) (fun _ _ _ _ _ => pg_name (i := 1) sc_is_name.nd rfl (Or.inl rfl)) (fun _ _ _ _ _ => pts_nil) (fun _ _ _ _ _ => (pe_or (pe_cmpR op_in_sign (pv 1) (pe_gS rfl T.c_LETTERS) rfl) (pe_one (pe_cmpR op_in_sign (pv 1) (pe_gS rfl T.c_DIGITS) rfl))))) pa_nil))))))), ?_⟩
    have no : ¬ (1 ≤ z.length ∧ z.length ≤ 12) → Q (.bl false) H := fun n => by
      have e : isName z = false := by
        unfold isName
        rw [decide_eq_false n]
        rfl
      have q := k H (Ex.refl H)
      rw [e] at q
      exact q
    refine ⟨_, rfl, _, rfl, hzs, _, _, rfl, rfl, _, rfl, ?_⟩
    refine ite2 (fun h1 => ?_) (fun h1 => ?_)
    · refine ⟨_, _, rfl, rfl, _, rfl, ?_⟩
      have h1' : 1 ≤ z.length := by
        have := of_decide_eq_true h1
        omega
      refine ite2 (fun h2 => ?_) (fun h2 => ?_)
      · exact no (fun n => by simp at h2; omega)
      · have h2' : z.length ≤ 12 := by
          simp at h2
          omega
        have hsz : z.cps.size = z.length := rfl
        obtain ⟨c0, hc0⟩ : ∃ c, z.cps[0]? = some c := ⟨_, Array.getElem?_eq_getElem (by omega)⟩
        have hl0 : z.cps.toList[0]? = some c0 := by rw [Array.getElem?_toList]; exact hc0
        have hh : z.cps.toList.head? = some c0 := by rw [List.head?_eq_getElem?]; exact hl0
        refine ⟨_, rfl, z, 0, c0, rfl, rfl, hzs, ?_, ?_⟩
        · have := atI_nat (j := 0) hl0
          simpa using this
        · refine ⟨c0, _, rfl, rfl, _, rfl, ?_⟩
          have rest : ∀ H', Ex H H' → Q (.bl (decide (c0 ∈ LETS) && z.cps.toList.all okSign)) H' := fun H' e => by
            have q := k H' e
            have ei : isName z = (decide (c0 ∈ LETS) && z.cps.toList.all okSign) := by
              unfold isName
              rw [decide_eq_true (show 1 ≤ z.length ∧ z.length ≤ 12 from ⟨h1', h2'⟩), hh]
              rfl
            rw [ei] at q
            exact q
          refine ite2 (fun h3 => ?_) (fun h3 => ?_)
          · have h3' : decide (c0 ∈ LETS) = true := h3
            rw [h3', Bool.true_and] at rest
            have hlen : z.cps.toList.length = z.cps.size := Array.length_toList
            refine ⟨_, rfl, z, rfl, fun D hD => lcY_sign (fun i H' => H D = none ∧ Ex H H' ∧ H' D = some (.lst ((z.cps.toList.take i).map fun c => V.bl (okSign c)))) ⟨hD, Ex.new hD, upd_same⟩ (fun i c H' hc p => ?_) (fun H' p => ?_)⟩
            · obtain ⟨p1, p2, p3⟩ := p
              have hil : i < z.cps.size := (Array.getElem?_eq_some_iff.mp hc).1
              have hlc : z.cps.toList[i]? = some c := by rw [Array.getElem?_toList]; exact hc
              have stp : (z.cps.toList.take (i + 1)).map (fun c => V.bl (okSign c)) = (z.cps.toList.take i).map (fun c => V.bl (okSign c)) ++ [V.bl (okSign c)] := by
                rw [List.take_add_one, hlc, List.map_append]
                rfl
              have fin : ∃ acc, H' D = some (.lst acc) ∧ acc.length < sizeLine ∧ H D = none ∧ Ex H (upd H' D (.lst (acc ++ [V.bl (okSign c)]))) ∧ (upd H' D (.lst (acc ++ [V.bl (okSign c)]))) D = some (.lst ((z.cps.toList.take (i + 1)).map fun c => V.bl (okSign c))) := by
                refine ⟨_, p3, sz_lt ?_, p1, Ex.mut p2 p1, ?_⟩
                · rw [List.length_map, List.length_take]
                  omega
                · rw [stp]
                  exact upd_same
              refine ⟨rfl, ?_⟩
              refine ⟨_, rfl, c, _, rfl, rfl, _, rfl, ?_⟩
              refine ite2 (fun h5 => ?_) (fun h5 => ?_)
              · have e : okSign c = true := by
                  unfold okSign
                  rw [show decide (c ∈ LETS) = true from h5]
                  rfl
                rw [e] at fin
                exact fin
              · refine ⟨_, rfl, c, _, rfl, rfl, ?_⟩
                have e : okSign c = decide (c ∈ DIGS) := by
                  unfold okSign
                  rw [show decide (c ∈ LETS) = false from Bool.eq_false_iff.mpr h5]
                  rfl
                rw [e] at fin
                exact fin
            · obtain ⟨p1, p2, p3⟩ := p
              rw [← hlen, List.take_length] at p3
              refine ⟨D, z.cps.toList.map okSign, rfl, ?_, ?_⟩
              · rw [List.map_map]
                exact SqL.of p3
              · have q := rest H' p2
                have e : (z.cps.toList.map okSign).all id = z.cps.toList.all okSign := by
                  rw [List.all_map]
                  rfl
                rw [e]
                exact q
          · have h3' : decide (c0 ∈ LETS) = false := Bool.eq_false_iff.mpr h3
            rw [h3', Bool.false_and] at rest
            exact rest H (Ex.refl H)
    · exact ⟨_, rfl, no (fun n => by simp at h1; omega)⟩
end
end EV

set_option Elab.async false
set_option linter.all false
set_option maxRecDepth 100000
set_option maxHeartbeats 4000000
namespace EV
open PySem PySem.Spec PyProof.Rows L2 EvS Evl
def Small (l : List Int) : Prop := ∀ n ∈ l, 0 ≤ n ∧ n < 1009
theorem small_snoc {l : List Int} {n : Int} (h : Small l) (a : 0 ≤ n) (b : n < 1009) : Small (l ++ [n]) := fun x hx => by
  rcases List.mem_append.mp hx with q | q
  · exact h x q
  · rw [List.mem_singleton] at q
    subst q
    exact ⟨a, b⟩
/-- a new list of m small numbers -/
def NewNums (m : Int) (H : Hp) (Q : VK) : Prop := ∀ H' p (ns : List Int), Ex H H' → H p = none → H' p = some (.lst (ns.map V.int)) → (ns.length : Int) = m → Small ns → Q (.ref p) H'
def sp__law_row : Sp := fun vs H Q _ => ∃ (c m : Int), vs = [.int c, .int m] ∧ 0 ≤ m ∧ m ≤ 10000 ∧ NewNums m H Q
def sp__law_numbers (K : PySem.W.Frag) : Sp := fun vs H Q _ => ∃ (p : Addr) (ns : List Int) (m : Int), vs = [.ref p, .int m] ∧ SqL K H p (ns.map V.int) ∧ 0 ≤ m ∧ m ≤ 1000 ∧ NewNums m H Q
theorem cutV_to (xs : List V) (k : Nat) : cutV xs none (some (k : Int)) = xs.take k := by
  unfold cutV
  rw [HT.sIx_nat, HT.sIx_none, List.drop_zero, Nat.sub_zero]
  rcases Nat.le_total k xs.length with h | h
  · rw [Nat.min_eq_left h]
  · rw [Nat.min_eq_right h, List.take_length, List.take_of_length_le h]
section
variable {P : Program} {w : World} {K : PySem.W.Frag} {mg : Str → Option Value} {base : Heap} {a : Ad}
theorem G__law_row (T : Txt K mg a) : FnOk P w K mg base CX0 1 a.f__law_row a.d__law_row ["cell", "many"] sp__law_row := by
  refine T.F__law_row.ok sc__law_row (fun vs H Q E h => ?_) (fun cdv A outer s H vs Q E hr h => ?_)
  · obtain ⟨c, m, rfl, _⟩ := h
    rfl
  · obtain ⟨c, m, rfl, m0, m1, k⟩ := h
    refine ⟨_, (pss_cons (ps_set (i := 2) sc__law_row.nd rfl (Or.inl rfl) (pe_lst pa_nil))
      (pss_cons (ps_set (i := 3) sc__law_row.nd rfl (Or.inl rfl) (pe_callB call_abs (by rfl) T.z_abs (by decide +kernel) (pa_cons (pv 0) pa_nil)))
      (pss_cons (ps_set (i := 4) sc__law_row.nd rfl (Or.inl rfl) (pe_op op_mod (pe_callTy call_int1 (by rfl) T.z_int (by decide +kernel) (pa_cons (pe_op op_add (pe_op op_mul (pv 3) pe_int) pe_int) pa_nil)) pe_int))
      (pss_cons (ps_for PassesOwn.never rfl (pi_range1 (by rfl) T.z_range (pa_cons (pv 1) pa_nil)) (pg_name (i := 5) sc__law_row.nd rfl (Or.inl rfl)) (pss_cons (ps_set (i := 4) sc__law_row.nd rfl (Or.inl rfl) (pe_op op_mod (pe_callTy call_int1 (by rfl) T.z_int (by decide +kernel) (pa_cons (pe_op op_add (pe_op op_mul (pv 4) pe_int) (pe_op op_mul pe_int (pe_op op_add (pv 5) pe_int))) pa_nil)) pe_int))
        (pss_one (ps_if (pt_cmpR op_ge (pe_callB call_abs (by rfl) T.z_abs (by decide +kernel) (pa_cons (pv 0) pa_nil)) (pe_op op_pow pe_int pe_int) (nomark _)) (pss_cons (ps_expr (pe_bm PySem.F.plainAttrs_list PySem.F.slot_list_append PySem.F.type_list_append mt_append (pv 2) (pa_cons (pe_op op_mod (pe_callTy call_int1 (by rfl) T.z_int (by decide +kernel) (pa_cons (pv 3) pa_nil)) pe_int) pa_nil)))
          (pss_one (ps_set (i := 3) sc__law_row.nd rfl (Or.inl rfl) (pe_op op_fdiv (pv 3) pe_int)))) (pss_one (ps_expr (pe_bm PySem.F.plainAttrs_list PySem.F.slot_list_append PySem.F.type_list_append mt_append (pv 2) (pa_cons (pe_op op_mod (pe_callTy call_int1 (by rfl) T.z_int (by decide +kernel) (pa_cons (pe_op op_fdiv (pv 4) pe_int) pa_nil)) pe_int) pa_nil))))))))
      (pss_one (ps_ret (pv 2))))))), ?_⟩
    refine ⟨Nat.zero_le _, fun l hl => ?_⟩
    refine ⟨_, rfl, _, rfl, ?_⟩
    refine ⟨_, rfl, _, _, rfl, rfl, .inr ⟨by decide, by decide⟩, _, _, rfl, rfl, .inl ⟨_, rfl, _, _, rfl, rfl, (by show (0 : Int) < 2147483647; decide), ?_⟩⟩
    refine ⟨_, rfl, _, rfl, by omega, by omega, for_range (n := m.toNat) (fun i σ H' => ∃ (r x : Int) (ns : List Int) (v : Option V), σ = [some (.int c), some (.int m), some (.ref l), some (.int r), some (.int x), v] ∧ Ex H H' ∧ H' l = some (.lst (ns.map V.int)) ∧ ns.length = i ∧ Small ns) ?_ ?_ ?_⟩
    · exact ⟨_, _, [], none, rfl, Ex.new hl, upd_same, rfl, fun n hn => by cases hn⟩
    · rintro i σ H' hi ⟨r, x, ns, v, rfl, e, hL, hlen, hs⟩
      have room : (ns.map V.int).length < sizeLine := sz_lt (by rw [List.length_map]; omega)
      have nx : ∀ (r' x' y : Int), 0 ≤ y → y < 1009 → ∃ (r x : Int) (ns' : List Int) (v' : Option V), [some (V.int c), some (V.int m), some (V.ref l), some (V.int r'), some (V.int x'), some (V.int (0 + (i : Int)))] = [some (V.int c), some (V.int m), some (V.ref l), some (V.int r), some (V.int x), v'] ∧
          Ex H (upd H' l (.lst (ns.map V.int ++ [V.int y]))) ∧ (upd H' l (.lst (ns.map V.int ++ [V.int y]))) l = some (.lst (ns'.map V.int)) ∧ ns'.length = i + 1 ∧ Small ns' := fun r' x' y h0 h1 =>
        ⟨_, _, ns ++ [y], _, rfl, Ex.mut e hl, by rw [upd_same, List.map_append] <;> rfl, by rw [List.length_append, hlen] <;> rfl, small_snoc hs h0 h1⟩
      refine ⟨_, rfl, _, _, rfl, rfl, .inr ⟨by decide, by decide⟩, _, rfl, _, _, rfl, rfl, _, _, rfl, rfl, .inl ⟨by decide, by decide⟩, _, _, rfl, rfl, .inl ⟨_, rfl, _, _, rfl, rfl, (by show (0 : Int) < 2147483629; decide), ?_⟩⟩
      refine ⟨_, rfl, _, rfl, _, _, rfl, rfl, ⟨by decide, by decide, by decide⟩, _, _, rfl, rfl, _, rfl, ?_⟩
      refine ite2 (fun _ => ?_) (fun _ => ?_)
      · refine ⟨_, rfl, .inl ⟨rfl, _, SqL.of hL⟩, _, rfl, .inl ⟨_, rfl, _, _, rfl, rfl, (by show (0 : Int) < 1009; decide), l, _, _, rfl, rfl, hL, room, ?_⟩⟩
        refine ⟨_, rfl, _, _, rfl, rfl, ⟨by decide, by decide⟩, ?_⟩
        exact nx _ _ _ (Int.emod_nonneg _ (by decide)) (Int.emod_lt_of_pos _ (by decide))
      · refine ⟨_, rfl, .inl ⟨rfl, _, SqL.of hL⟩, _, rfl, _, _, rfl, rfl, ⟨by decide, by decide⟩, .inl ⟨_, rfl, _, _, rfl, rfl, (by show (0 : Int) < 1009; decide), l, _, _, rfl, rfl, hL, room, ?_⟩⟩
        exact nx _ _ _ (Int.emod_nonneg _ (by decide)) (Int.emod_lt_of_pos _ (by decide))
    · rintro σ H' ⟨r, x, ns, v, rfl, e, hL, hlen, hs⟩
      exact ⟨_, rfl, k H' l ns e hl hL (by omega) hs⟩
theorem G__law_numbers (T : Txt K mg a) : FnOk P w K mg base CX0 2 a.f__law_numbers a.d__law_numbers ["script", "many"] (sp__law_numbers K) := by
  refine T.F__law_numbers.ok sc__law_numbers (fun vs H Q E h => ?_) (fun cdv A outer s H vs Q E hr h => ?_)
  · obtain ⟨p, ns, m, rfl, _⟩ := h
    rfl
  · obtain ⟨p, ns, m, rfl, hS, m0, m1, k⟩ := h
    refine ⟨_, (pss_cons (ps_set (i := 2) sc__law_numbers.nd rfl (Or.inl rfl) (pe_slice sl_list (pv 0) po_none (po_some pe_int)))
      (pss_cons (ps_set (i := 3) sc__law_numbers.nd rfl (Or.inl rfl) (pe_op op_add pe_int (pe_op op_fdivN (pv 1) (pe_callB (call_max2 rfl) (by rfl) T.z_max (by decide +kernel) (pa_cons pe_int (pa_cons (pe_callB call_len_seq (by rfl) T.z_len PySem.boot_len (pa_cons (pv 2) pa_nil)) pa_nil))))))
      (pss_cons (ps_set (i := 4) sc__law_numbers.nd rfl (Or.inl rfl) (pe_lst pa_nil))
      (pss_cons (ps_for PassesOwn.never rfl (pi_list (pv 2)) (pg_name (i := 5) sc__law_numbers.nd rfl (Or.inl rfl)) (pss_one (ps_for PassesOwn.never rfl (pi_list (pe_call (G__law_row T) (hr.mono (by decide)) (by rfl) T.g__law_row T.k__law_row T.B__law_row .nil pass0 (pa_cons (pv 5) (pa_cons (pv 3) pa_nil)))) (pg_name (i := 6) sc__law_numbers.nd rfl (Or.inl rfl)) (pss_one (ps_expr (pe_bm PySem.F.plainAttrs_list PySem.F.slot_list_append PySem.F.type_list_append mt_append (pv 4) (pa_cons (pv 6) pa_nil)))))))
      (pss_cons (ps_while PassesOwn.never (pt_cmpR op_lt (pe_callB call_len_seq (by rfl) T.z_len PySem.boot_len (pa_cons (pv 4) pa_nil)) (pv 1) (nomark _)) (pss_one (ps_expr (pe_bm PySem.F.plainAttrs_list PySem.F.slot_list_append PySem.F.type_list_append mt_append (pv 4) (pa_cons pe_int pa_nil)))))
      (pss_one (ps_ret (pe_slice sl_list (pv 4) po_none (po_some (pv 1)))))))))), ?_⟩
    -- cells = script[:63]
    refine ⟨_, rfl, _, rfl, p, _, rfl, hS, fun q hq => ?_⟩
    have hcs : cutV (ns.map V.int) none (some ((63 : Nat) : Int)) = (ns.take 63).map V.int := by
      rw [cutV_to, List.map_take]
    show tSeq _ _ _ _ (upd H q (.lst (cutV (ns.map V.int) none (some ((63 : Nat) : Int)))))
    rw [hcs]
    generalize hcd : ns.take 63 = cs
    have hcl : cs.length ≤ 63 := by
      rw [← hcd, List.length_take]
      omega
    have hlc : (cs.map V.int).length = cs.length := List.length_map ..
    have e1 : Ex H (upd H q (.lst (cs.map V.int))) := Ex.new hq
    -- each = 1 + many // max(1, len(cells))
    refine ⟨_, rfl, _, rfl, q, _, rfl, .inl (SqL.of upd_same), _, _, rfl, _, _, rfl, rfl, ⟨?_, ?_⟩, _, _, rfl, rfl, ?_⟩
    · split <;> omega
    · rw [hlc]
      split <;> omega
    generalize hd : (if ((cs.map V.int).length : Int) > 1 then ((cs.map V.int).length : Int) else 1) = d
    have d1 : 1 ≤ d := by
      rw [← hd]
      split <;> omega
    have f0 : 0 ≤ m.fdiv d := by
      rw [Int.fdiv_eq_ediv_of_nonneg _ (by omega)]
      exact Int.ediv_nonneg m0 (by omega)
    have f1 : m.fdiv d ≤ 1000 := by
      rw [Int.fdiv_eq_ediv_of_nonneg _ (by omega)]
      exact Int.le_trans (Int.ediv_le_self _ m0) m1
    generalize m.fdiv d = f at f0 f1
    -- numbers = []
    refine ⟨Nat.zero_le _, fun l hl => ?_⟩
    have hlH : H l = none := fresh_back e1 hl
    have nql : q ≠ l := ne_of_none upd_same hl
    have nlq : l ≠ q := Ne.symm nql
    refine ⟨_, rfl, q, rfl, ⟨_, SqL.of (by rw [upd_ne nql]; exact upd_same)⟩, for_list (K := K) (a := q) (xs := cs.map V.int) (fun i σ H' => ∃ (ks : List Int) (v5 v6 : Option V), σ = [some (.ref p), some (.int m), some (.ref q), some (.int (1 + f)), some (.ref l), v5, v6] ∧
      Ex H H' ∧ H' q = some (.lst (cs.map V.int)) ∧ H' l = some (.lst (ks.map V.int)) ∧ ks.length ≤ i * 1001 ∧ Small ks) ?_ ?_ ?_ ?_⟩
    · exact ⟨[], none, none, rfl, e1.trans (Ex.new hl), by rw [upd_ne nql]; exact upd_same, upd_same, by simp, fun n hn => by cases hn⟩
    · rintro i σ H' _ ⟨ks, v5, v6, rfl, e, hQ, hL, _⟩
      exact SqL.of hQ
    · rintro i y σ H' hi ⟨ks, v5, v6, rfl, e, hQ, hL, hn, hs⟩
      have hi63 : i < cs.length := by
        have z := (List.getElem?_eq_some_iff.mp hi).1
        rw [hlc] at z
        exact z
      obtain ⟨c, rfl⟩ : ∃ c, y = V.int c := by
        rw [List.getElem?_map] at hi
        cases z : cs[i]? with
        | none =>
          rw [z] at hi
          cases hi
        | some c =>
          rw [z] at hi
          exact ⟨c, (Option.some.inj hi).symm⟩
      -- for number in _law_row(cell, each)
      refine ⟨_, rfl, _, rfl, c, 1 + f, rfl, by omega, by omega, fun H2 r rs e2 hr hR hrl hrs => ⟨r, rfl, ⟨_, SqL.of hR⟩, ?_⟩⟩
      have nrl : r ≠ l := Ne.symm (ne_of_none hL hr)
      have nrq : q ≠ r := ne_of_none hQ hr
      have nlr : l ≠ r := Ne.symm nrl
      refine for_list (K := K) (a := r) (xs := rs.map V.int) (fun j σ H' => ∃ (ks' : List Int) (v6 : Option V), σ = [some (.ref p), some (.int m), some (.ref q), some (.int (1 + f)), some (.ref l), some (.int c), v6] ∧
        Ex H H' ∧ H' q = some (.lst (cs.map V.int)) ∧ H' r = some (.lst (rs.map V.int)) ∧ H' l = some (.lst (ks'.map V.int)) ∧ ks'.length = ks.length + j ∧ Small ks') ?_ ?_ ?_ ?_
      · exact ⟨ks, v6, rfl, e.trans e2, e2 _ _ hQ, hR, e2 _ _ hL, rfl, hs⟩
      · rintro j σ H' _ ⟨ks', v6, rfl, _, _, h3, _⟩
        exact SqL.of h3
      · rintro j y σ H' hj ⟨ks', v6, rfl, e3, hQ3, hR3, hL3, hn3, hs3⟩
        have hjr : j < rs.length := by
          have z := (List.getElem?_eq_some_iff.mp hj).1
          rw [List.length_map] at z
          exact z
        obtain ⟨n, hnm, rfl⟩ : ∃ n, n ∈ rs ∧ y = V.int n := by
          rw [List.getElem?_map] at hj
          cases z : rs[j]? with
          | none =>
            rw [z] at hj
            cases hj
          | some n =>
            rw [z] at hj
            exact ⟨n, List.mem_of_getElem? z, (Option.some.inj hj).symm⟩
        refine ⟨_, rfl, .inl ⟨rfl, _, SqL.of hL3⟩, _, rfl, l, _, _, rfl, rfl, hL3, sz_lt (by rw [List.length_map]; omega), ?_⟩
        exact ⟨ks' ++ [n], _, rfl, Ex.mut e3 hlH, by rw [upd_ne nql]; exact hQ3, by rw [upd_ne nrl]; exact hR3, by rw [upd_same, List.map_append] <;> rfl, by rw [List.length_append, hn3] <;> rfl, small_snoc hs3 (hrs n hnm).1 (hrs n hnm).2⟩
      · rintro σ H' ⟨ks', v6, rfl, e3, hQ3, hR3, hL3, hn3, hs3⟩
        rw [List.length_map] at hn3
        exact ⟨ks', _, _, rfl, e3, hQ3, hL3, by omega, hs3⟩
    · rintro σ H' ⟨ks, v5, v6, rfl, e, hQ, hL, hn, hs⟩
      rw [hlc] at hn
      -- while len(numbers) < many
      refine ⟨fun j σ H' => ∃ ks' : List Int, j = (m.toNat - ks'.length) ∧ σ = [some (.ref p), some (.int m), some (.ref q), some (.int (1 + f)), some (.ref l), v5, v6] ∧ Ex H H' ∧ H' l = some (.lst (ks'.map V.int)) ∧ ks'.length ≤ 70000 ∧ Small ks',
        ⟨_, ks, rfl, rfl, e, hL, by omega, hs⟩, ?_⟩
      rintro j σ H' ⟨ks', rfl, rfl, e3, hL3, hn3, hs3⟩
      have hlk : (ks'.map V.int).length = ks'.length := List.length_map ..
      refine ⟨_, rfl, l, _, rfl, .inl (SqL.of hL3), _, rfl, _, _, rfl, rfl, _, rfl, ?_⟩
      refine ite2 (fun lt => ?_) (fun ge => ?_)
      · have lt' : (ks'.length : Int) < m := by
          have z := of_decide_eq_true lt
          rw [hlk] at z
          exact z
        refine ⟨_, fun σ' H' z => z, ?_⟩
        refine ⟨_, rfl, .inl ⟨rfl, _, SqL.of hL3⟩, l, _, _, rfl, rfl, hL3, sz_lt (by rw [hlk]; omega), ?_⟩
        exact ⟨_, by show m.toNat - (ks' ++ [0]).length < _; rw [List.length_append, List.length_singleton]; omega, ks' ++ [0], rfl, rfl, Ex.mut e3 hlH, by rw [upd_same, List.map_append] <;> rfl, by rw [List.length_append, List.length_singleton]; omega, small_snoc hs3 (by decide) (by decide)⟩
      · have ge' : m ≤ (ks'.length : Int) := by
          have z : ¬ ((ks'.map V.int).length : Int) < m := fun z => ge (decide_eq_true z)
          rw [hlk] at z
          omega
        -- return numbers[:many]
        refine ⟨_, rfl, _, rfl, _, rfl, l, _, rfl, SqL.of hL3, fun u hu => ?_⟩
        have em : m = ((m.toNat : Nat) : Int) := by omega
        have hcu : cutV (ks'.map V.int) none (some m) = (ks'.take m.toNat).map V.int := by
          rw [em, cutV_to, List.map_take]
          rfl
        show Q (.ref u) (upd H' u (.lst (cutV (ks'.map V.int) none (some m))))
        rw [hcu]
        refine k _ u (ks'.take m.toNat) (e3.trans (Ex.new hu)) (fresh_back e3 hu) upd_same ?_ (fun x hx => hs3 x (List.mem_of_mem_take hx))
        rw [List.length_take]
        omega
end
end EV

set_option Elab.async false
set_option linter.all false
set_option maxRecDepth 100000
set_option maxHeartbeats 4000000
namespace EV
open PySem PySem.Spec PyProof.Rows L2 EvS Evl
/-! ### the data of a land -/
structure Link where
  n : Str
  o : Str
  t : Str
  ts : List (Option (Int × Int))
structure LandD where
  ws : List Str
  ps : List Str
  ls : List Link
  pa : List (Str × Str × Int)
def dTime : Option (Int × Int) → PyData
  | none => .none
  | some b => .tuple [.int b.1, .int b.2]
def dRaw (k : Link) : PyData := .tuple [.str k.n, .str k.o, .str k.t, .list (k.ts.map dTime)]
def dLink (k : Link) : PyData := .tuple [.str k.n, .str k.o, .str k.t, .tuple (k.ts.map dTime)]
def dPath (p : Str × Str × Int) : PyData := .tuple [.str p.1, .str p.2.1, .int p.2.2]
def dParts (D : LandD) : PyData := .list [.list (D.ws.map .str), .list (D.ps.map .str), .list (D.ls.map dRaw), .list (D.pa.map dPath)]
def dLand (D : LandD) : PyData := .tuple [.tuple (D.ws.map .str), .tuple (D.ps.map .str), .tuple (D.ls.map dLink), .tuple (D.pa.map dPath)]
def Good (ns : List Str) : Prop := (∀ n ∈ ns, isName n = true) ∧ ns.Nodup
def TimeOk : Option (Int × Int) → Prop
  | none => True
  | some b => 1 ≤ b.1 ∧ b.1 ≤ b.2 ∧ b.2 ≤ 1000
structure LinkOk (ws ps : List Str) (k : Link) : Prop where
  o : k.o ∈ ps
  t : k.t ∈ ps
  ne : k.o ≠ k.t
  len : k.ts.length = ws.length
  ok : ∀ b ∈ k.ts, TimeOk b
structure PathOk (ps : List Str) (p : Str × Str × Int) : Prop where
  o : p.1 ∈ ps
  t : p.2.1 ∈ ps
  ne : p.1 ≠ p.2.1
  lo : 1 ≤ p.2.2
  hi : p.2.2 ≤ 1000
def Apart (p q : Str × Str) : Prop := ¬ [p.1, p.2].Perm [q.1, q.2]
structure LandOk (D : LandD) : Prop where
  w1 : 1 ≤ D.ws.length
  w4 : D.ws.length ≤ 4
  p1 : 1 ≤ D.ps.length
  p24 : D.ps.length ≤ 24
  l60 : D.ls.length ≤ 60
  a60 : D.pa.length ≤ 60
  gw : Good D.ws
  gp : Good D.ps
  gl : Good (D.ls.map (·.n))
  lk : ∀ k ∈ D.ls, LinkOk D.ws D.ps k
  pt : ∀ p ∈ D.pa, PathOk D.ps p
  ap : (D.pa.map fun p => (p.1, p.2.1)).Pairwise Apart
theorem name_len {z : Str} (h : isName z = true) : 1 ≤ z.length ∧ z.length ≤ 12 := by
  unfold isName at h
  rw [Bool.and_eq_true, Bool.and_eq_true] at h
  exact of_decide_eq_true h.1.1
/-! ### data that stands -/
mutual
theorem dp_ex {K : PySem.W.Frag} {H H' : Hp} (e : Ex H H') : ∀ {v : V} {d : PyData}, Dp K H v d → Dp K H' v d
  | _, _, .non => .non
  | _, _, .bl b => .bl b
  | _, _, .int i => .int i
  | _, _, .str x => .str x
  | _, _, .lst h r => .lst (ex_l e h) (dps_ex e r)
  | _, _, .tup h r => .tup (ex_t e h) (dps_ex e r)
theorem dps_ex {K : PySem.W.Frag} {H H' : Hp} (e : Ex H H') : ∀ {vs : List V} {ds : List PyData}, DpAll K H vs ds → DpAll K H' vs ds
  | _, _, .nil => .nil
  | _, _, .cons h r => .cons (dp_ex e h) (dps_ex e r)
end
theorem dps_len {K : PySem.W.Frag} {H : Hp} : ∀ {vs : List V} {ds : List PyData}, DpAll K H vs ds → vs.length = ds.length
  | _, _, .nil => rfl
  | _, _, .cons _ r => congrArg Nat.succ (dps_len r)
theorem dps_at {K : PySem.W.Frag} {H : Hp} : ∀ {vs : List V} {ds : List PyData} {i : Nat} {v : V}, DpAll K H vs ds → vs[i]? = some v → ∃ d, ds[i]? = some d ∧ Dp K H v d
  | _, _, _, _, .nil, h => by simp at h
  | _, _, 0, _, .cons h _, e => by
    simp only [List.getElem?_cons_zero, Option.some.injEq] at e
    subst e
    exact ⟨_, rfl, h⟩
  | _, _, i + 1, _, .cons _ r, e => by
    simp only [List.getElem?_cons_succ] at e
    exact dps_at (i := i) r e
theorem dps_app {K : PySem.W.Frag} {H : Hp} : ∀ {vs us : List V} {ds es : List PyData}, DpAll K H vs ds → DpAll K H us es → DpAll K H (vs ++ us) (ds ++ es)
  | _, _, _, _, .nil, b => b
  | _, _, _, _, .cons h r, b => .cons h (dps_app r b)
theorem dps_one {K : PySem.W.Frag} {H : Hp} {v : V} {d : PyData} (h : Dp K H v d) : DpAll K H [v] [d] := .cons h .nil
theorem dps_str {K : PySem.W.Frag} {H : Hp} : ∀ ns : List Str, DpAll K H (ns.map V.str) (ns.map PyData.str)
  | [] => .nil
  | n :: r => .cons (.str n) (dps_str r)
theorem dps_strs {K : PySem.W.Frag} {H : Hp} : ∀ {ns : List Str} {vs : List V}, DpAll K H vs (ns.map PyData.str) → vs = ns.map V.str
  | [], _, .nil => rfl
  | n :: r, _, .cons h t => by
    cases h
    rw [dps_strs t]
    rfl
def Seq2 (K : PySem.W.Frag) (H : Hp) (p : Addr) (xs : List V) : Prop := SqL K H p xs ∨ SqT K H p xs
theorem Seq2.ex {K : PySem.W.Frag} {H H' : Hp} {p : Addr} {xs : List V} (e : Ex H H') (h : Seq2 K H p xs) : Seq2 K H' p xs := h.elim (fun q => .inl (ex_l e q)) (fun q => .inr (ex_t e q))
/-- a link as it is handed in: its times are a list or a tuple -/
def LinkIn (K : PySem.W.Frag) (H : Hp) (v : V) (k : Link) : Prop := ∃ t u vs, v = .ref t ∧ SqT K H t [.str k.n, .str k.o, .str k.t, .ref u] ∧ Seq2 K H u vs ∧ DpAll K H vs (k.ts.map dTime)
theorem LinkIn.ex {K : PySem.W.Frag} {H H' : Hp} {v : V} {k : Link} (e : Ex H H') (h : LinkIn K H v k) : LinkIn K H' v k := by
  obtain ⟨t, u, vs, rfl, h1, h2, h3⟩ := h
  exact ⟨t, u, vs, rfl, ex_t e h1, h2.ex e, dps_ex e h3⟩
theorem raw_in {K : PySem.W.Frag} {H : Hp} {v : V} {k : Link} (h : Dp K H v (dRaw k)) : LinkIn K H v k := by
  unfold dRaw at h
  cases h with
  | tup hs hr =>
    cases hr with
    | cons a1 hr =>
      cases a1
      cases hr with
      | cons a2 hr =>
        cases a2
        cases hr with
        | cons a3 hr =>
          cases a3
          cases hr with
          | cons a4 hr =>
            cases hr
            cases a4 with
            | lst hl ha => exact ⟨_, _, _, rfl, hs, .inl hl, ha⟩
theorem made_in {K : PySem.W.Frag} {H : Hp} {v : V} {k : Link} (h : Dp K H v (dLink k)) : LinkIn K H v k := by
  unfold dLink at h
  cases h with
  | tup hs hr =>
    cases hr with
    | cons a1 hr =>
      cases a1
      cases hr with
      | cons a2 hr =>
        cases a2
        cases hr with
        | cons a3 hr =>
          cases a3
          cases hr with
          | cons a4 hr =>
            cases hr
            cases a4 with
            | tup hl ha => exact ⟨_, _, _, rfl, hs, .inr hl, ha⟩
theorem path_in {K : PySem.W.Frag} {H : Hp} {v : V} {p : Str × Str × Int} (h : Dp K H v (dPath p)) : ∃ t, v = .ref t ∧ SqT K H t [.str p.1, .str p.2.1, .int p.2.2] := by
  unfold dPath at h
  cases h with
  | tup hs hr =>
    cases hr with
    | cons a1 hr =>
      cases a1
      cases hr with
      | cons a2 hr =>
        cases a2
        cases hr with
        | cons a3 hr =>
          cases a3
          cases hr
          exact ⟨_, rfl, hs⟩
/-- a land as it stands -/
def landFs (wi pl li pa : Addr) : List (Str × V) := putF "paths" (.ref pa) (putF "links" (.ref li) (putF "places" (.ref pl) (putF "winds" (.ref wi) [])))
structure LandAt (K : PySem.W.Frag) (C : Addr) (H : Hp) (x : Addr) (D : LandD) (dx wi pl li pa : Addr) (rows prs : List V) : Prop where
  ob : H x = some (.ins C dx (landFs wi pl li pa))
  wi : SqT K H wi (D.ws.map V.str)
  pl : SqT K H pl (D.ps.map V.str)
  li : SqT K H li rows
  ls : DpAll K H rows (D.ls.map dLink)
  pa : SqT K H pa prs
  ps : DpAll K H prs (D.pa.map dPath)
def IsLand (K : PySem.W.Frag) (C : Addr) (H : Hp) (x : Addr) (D : LandD) : Prop := ∃ dx wi pl li pa rows prs, LandAt K C H x D dx wi pl li pa rows prs
theorem IsLand.ex {K : PySem.W.Frag} {C : Addr} {H H' : Hp} {x : Addr} {D : LandD} (e : Ex H H') (h : IsLand K C H x D) : IsLand K C H' x D := by
  obtain ⟨dx, wi, pl, li, pa, rows, prs, L⟩ := h
  exact ⟨dx, wi, pl, li, pa, rows, prs, e _ _ L.ob, ex_t e L.wi, ex_t e L.pl, ex_t e L.li, dps_ex e L.ls, ex_t e L.pa, dps_ex e L.ps⟩
theorem fs_winds (wi pl li pa : Addr) : (landFs wi pl li pa).lookup ("winds" : Str) = some (V.ref wi) := by
  unfold landFs
  rw [lookup_putF, if_neg (by decide +kernel), lookup_putF, if_neg (by decide +kernel), lookup_putF, if_neg (by decide +kernel), lookup_putF, if_pos rfl]
theorem fs_places (wi pl li pa : Addr) : (landFs wi pl li pa).lookup ("places" : Str) = some (V.ref pl) := by
  unfold landFs
  rw [lookup_putF, if_neg (by decide +kernel), lookup_putF, if_neg (by decide +kernel), lookup_putF, if_pos rfl]
theorem fs_links (wi pl li pa : Addr) : (landFs wi pl li pa).lookup ("links" : Str) = some (V.ref li) := by
  unfold landFs
  rw [lookup_putF, if_neg (by decide +kernel), lookup_putF, if_pos rfl]
theorem fs_paths (wi pl li pa : Addr) : (landFs wi pl li pa).lookup ("paths" : Str) = some (V.ref pa) := by
  unfold landFs
  rw [lookup_putF, if_pos rfl]
/-! ### the checks, where all is well -/
theorem flat_str (ys : List Str) : (ys.map V.str).all flatV = true := by
  rw [List.all_map]
  exact List.all_eq_true.mpr fun _ _ => rfl
theorem inV_str {z : Str} {ys : List Str} (h : z ∈ ys) : inV (.str z) (ys.map V.str) = true := by
  unfold inV
  rw [List.any_map, List.any_eq_true]
  refine ⟨z, h, ?_⟩
  show (z == z) = true
  exact beq_self_eq_true z
def sp__check_count (K : PySem.W.Frag) : Sp := fun vs H Q _ => ∃ (z : Str) (p : Addr) (xs : List V) (lo hi : Int), vs = [.str z, .ref p, .int lo, .int hi] ∧ Seq2 K H p xs ∧ lo ≤ xs.length ∧ (xs.length : Int) ≤ hi ∧ Q .non H
def sp__check_names (K : PySem.W.Frag) : Sp := fun vs H Q _ => ∃ (z : Str) (p : Addr) (ns : List Str), vs = [.str z, .ref p] ∧ Seq2 K H p (ns.map V.str) ∧ ns.length ≤ 1000 ∧ Good ns ∧ ∀ H', Ex H H' → Q .non H'
def sp__check_ends (K : PySem.W.Frag) : Sp := fun vs H Q _ => ∃ (z one other : Str) (p : Addr) (ps : List Str), vs = [.str z, .str one, .str other, .ref p] ∧ Seq2 K H p (ps.map V.str) ∧ one ∈ ps ∧ other ∈ ps ∧ one ≠ other ∧ Q .non H
def sp__as_bounds (K : PySem.W.Frag) : Sp := fun vs H Q _ => ∃ (v : V) (b : Option (Int × Int)), vs = [v] ∧ Dp K H v (dTime b) ∧ TimeOk b ∧ ∀ v' H', Ex H H' → Dp K H' v' (dTime b) → Q v' H'
def sp__as_link (K : PySem.W.Frag) : Sp := fun vs H Q _ => ∃ (v : V) (wi pl : Addr) (ws ps : List Str) (k : Link), vs = [v, .ref wi, .ref pl] ∧ LinkIn K H v k ∧ Seq2 K H wi (ws.map V.str) ∧ Seq2 K H pl (ps.map V.str) ∧ LinkOk ws ps k ∧ ws.length ≤ 100 ∧
  ∀ H' p, Ex H H' → H p = none → Dp K H' (.ref p) (dLink k) → Q (.ref p) H'
def sp__as_path (K : PySem.W.Frag) : Sp := fun vs H Q _ => ∃ (v : V) (pl : Addr) (ps : List Str) (p : Str × Str × Int), vs = [v, .ref pl] ∧ Dp K H v (dPath p) ∧ Seq2 K H pl (ps.map V.str) ∧ PathOk ps p ∧ ∀ H' q, Ex H H' → H q = none → Dp K H' (.ref q) (dPath p) → Q (.ref q) H'
def sp__check_single_paths (K : PySem.W.Frag) : Sp := fun vs H Q _ => ∃ (p : Addr) (prs : List V) (pa : List (Str × Str × Int)), vs = [.ref p] ∧ SqT K H p prs ∧ DpAll K H prs (pa.map dPath) ∧ pa.length ≤ 60 ∧ (pa.map fun p => (p.1, p.2.1)).Pairwise Apart ∧ ∀ H', Ex H H' → Q .non H'
def sp_link_names (K : PySem.W.Frag) (C : Addr) : Sp := fun vs H Q _ => ∃ (x dx : Addr) (fs : List (Str × V)) (l : Addr) (rows : List V) (ls : List Link), vs = [.ref x] ∧ H x = some (.ins C dx fs) ∧ fs.lookup ("links" : Str) = some (V.ref l) ∧ SqT K H l rows ∧ DpAll K H rows (ls.map dLink) ∧ ls.length ≤ 1000 ∧
  ∀ H' p, Ex H H' → H p = none → H' p = some (.tup ((ls.map (·.n)).map V.str)) → Q (.ref p) H'
section
variable {P : Program} {w : World} {K : PySem.W.Frag} {mg : Str → Option Value} {base : Heap} {a : Ad}
theorem G__check_count (T : Txt K mg a) : FnOk P w K mg base CX0 1 a.f__check_count a.d__check_count ["sort", "rows", "least", "most"] (sp__check_count K) := by
  refine T.F__check_count.ok sc__check_count (fun vs H Q E h => ?_) (fun cdv A outer s H vs Q E hr h => ?_)
  · obtain ⟨z, p, xs, lo, hi, rfl, _⟩ := h
    rfl
  · obtain ⟨z, p, xs, lo, hi, rfl, hS, h1, h2, k⟩ := h
    refine ⟨_, (pss_one (ps_if (pt_not (pt_chain op_le op_le (pv 2) (pe_callB call_len_seq (by rfl) T.z_len PySem.boot_len (pa_cons (pv 1) pa_nil)) (pv 3))) pss_any pss_nil)), ?_⟩
    refine ⟨_, rfl, _, rfl, p, _, rfl, hS, _, _, rfl, rfl, _, rfl, ?_⟩
    refine ite2 (fun _ => ?_) (fun n => absurd (decide_eq_true h1) n)
    exact ⟨_, rfl, _, _, rfl, rfl, _, rfl, iteNS h2 k⟩
theorem G_check_names_lands (T : Txt K mg a) : FnOk P w K mg base CX0 2 a.f_check_names_lands a.d_check_names_lands ["sort", "names"] (sp__check_names K) := by
  refine T.F_check_names_lands.ok sc_check_names_lands (fun vs H Q E h => ?_) (fun cdv A outer s H vs Q E hr h => ?_)
  · obtain ⟨z, p, ns, rfl, _⟩ := h
    rfl
  · obtain ⟨z, p, ns, rfl, hS, hl, hg, k⟩ := h
    refine ⟨_, (pss_cons (ps_for PassesOwn.never rfl (pi_or (pi_list (pv 1)) (pi_tup (pv 1))) (pg_name (i := 2) sc_check_names_lands.nd rfl (Or.inl rfl)) (pss_one (ps_if (pt_not (pt_val (pe_call (G_is_name T) (hr.mono (by decide)) (by rfl) T.g_is_name T.k_is_name T.B_is_name .nil pass0 (pa_cons (pv 2) pa_nil)))) pss_any pss_nil)))
      (pss_one (ps_if (pt_cmpR op_ne (pe_lenSetS rfl (by rfl) T.z_len (by rfl) T.z_set (pv 1)) (pe_callB call_len_seq (by rfl) T.z_len PySem.boot_len (pa_cons (pv 1) pa_nil)) (nomark _)) pss_any pss_nil))), ?_⟩
    have hlen : (ns.map V.str).length = ns.length := List.length_map ..
    have pick : ∀ {i : Nat} {y : V}, (ns.map V.str)[i]? = some y → ∃ n, n ∈ ns ∧ y = .str n := fun {i y} hy => by
      rw [List.getElem?_map] at hy
      cases q : ns[i]? with
      | none =>
        rw [q] at hy
        cases hy
      | some n =>
        rw [q] at hy
        exact ⟨n, List.mem_of_getElem? q, (Option.some.inj hy).symm⟩
    have dl := (dd_len_eq ns [] List.nodup_nil).mpr (by rw [List.nil_append]; exact hg.2)
    rw [List.length_nil, Nat.zero_add] at dl
    rcases hS with hS | hS
    · refine .inl ⟨_, rfl, p, rfl, ⟨_, hS⟩, for_list (K := K) (a := p) (xs := ns.map V.str) (fun i σ H' => ∃ v, σ = [some (V.str z), some (V.ref p), v] ∧ Ex H H') ⟨none, rfl, Ex.refl H⟩ ?_ ?_ ?_⟩
      · rintro i σ H' _ ⟨v, rfl, e⟩
        exact ex_l e hS
      · rintro i y σ H' hy ⟨v, rfl, e⟩
        obtain ⟨n, hn, rfl⟩ := pick hy
        have nl := name_len (hg.1 n hn)
        refine ⟨_, rfl, n, rfl, by omega, fun H2 e2 => ⟨_, rfl, ?_⟩⟩
        rw [hg.1 n hn]
        exact iteF ⟨_, rfl, e.trans e2⟩
      · rintro σ H' ⟨v, rfl, e⟩
        refine ⟨_, rfl, p, ns, rfl, .inl (ex_l e hS), by omega, _, rfl, p, _, rfl, .inl (ex_l e hS), rfl, _, rfl, ?_⟩
        rw [hlen, dl]
        exact iteNS rfl (k _ e)
    · refine .inr ⟨_, rfl, p, rfl, ⟨_, hS⟩, for_tup (K := K) (a := p) (xs := ns.map V.str) (fun i σ H' => ∃ v, σ = [some (V.str z), some (V.ref p), v] ∧ Ex H H') ⟨none, rfl, Ex.refl H⟩ ?_ ?_ ?_⟩
      · rintro i σ H' _ ⟨v, rfl, e⟩
        exact ex_t e hS
      · rintro i y σ H' hy ⟨v, rfl, e⟩
        obtain ⟨n, hn, rfl⟩ := pick hy
        have nl := name_len (hg.1 n hn)
        refine ⟨_, rfl, n, rfl, by omega, fun H2 e2 => ⟨_, rfl, ?_⟩⟩
        rw [hg.1 n hn]
        exact iteF ⟨_, rfl, e.trans e2⟩
      · rintro σ H' ⟨v, rfl, e⟩
        refine ⟨_, rfl, p, ns, rfl, .inr (ex_t e hS), by omega, _, rfl, p, _, rfl, .inr (ex_t e hS), rfl, _, rfl, ?_⟩
        rw [hlen, dl]
        exact iteNS rfl (k _ e)
theorem G__check_ends (T : Txt K mg a) : FnOk P w K mg base CX0 1 a.f__check_ends a.d__check_ends ["sort", "one", "other", "places"] (sp__check_ends K) := by
  refine T.F__check_ends.ok sc__check_ends (fun vs H Q E h => ?_) (fun cdv A outer s H vs Q E hr h => ?_)
  · obtain ⟨z, one, other, p, ps, rfl, _⟩ := h
    rfl
  · obtain ⟨z, one, other, p, ps, rfl, hS, h1, h2, h3, k⟩ := h
    refine ⟨_, (pss_cons (ps_if (PW.pt (pw_or (pt_cmpR op_notIn_seq (pv 1) (pv 3) (by rfl)) (pw_or1 (pt_cmpR op_notIn_seq (pv 2) (pv 3) (by rfl))))) pss_any pss_nil)
      (pss_one (ps_if (pt_cmpR op_eq (pv 1) (pv 2) (nomark _)) pss_any pss_nil))), ?_⟩
    refine ⟨_, rfl, _, rfl, p, _, rfl, hS, rfl, flat_str _, _, rfl, ?_⟩
    rw [inV_str h1]
    refine iteF ⟨_, rfl, _, rfl, p, _, rfl, hS, rfl, flat_str _, _, rfl, ?_⟩
    rw [inV_str h2]
    refine iteF ?_
    refine ⟨_, rfl, _, rfl, rfl, _, rfl, ?_⟩
    rw [decide_eq_false (fun q => h3 (V.str.inj q))]
    exact iteF k
theorem G__as_bounds (T : Txt K mg a) : FnOk P w K mg base CX0 1 a.f__as_bounds a.d__as_bounds ["bounds"] (sp__as_bounds K) := by
  refine T.F__as_bounds.ok sc__as_bounds (fun vs H Q E h => ?_) (fun cdv A outer s H vs Q E hr h => ?_)
  · obtain ⟨v, b, rfl, _⟩ := h
    rfl
  · obtain ⟨v, b, rfl, hv, hok, k⟩ := h
    refine ⟨_, (pss_cons (ps_if (pt_cmpR op_isN (pv 0) pe_non (nomark _)) (pss_one (ps_ret pe_non)) pss_nil)
      (pss_cons (ps_if (pt_cmpR op_ne (pe_callB call_len_seq (by rfl) T.z_len PySem.boot_len (pa_cons (pv 0) pa_nil)) pe_int (nomark _)) pss_any pss_nil)
      (pss_cons (ps_asg (pv 0) (pg_tup (by rfl) (pgs_cons (pg_name (i := 1) sc__as_bounds.nd rfl (Or.inl rfl)) (pgs_cons (pg_name (i := 2) sc__as_bounds.nd rfl (Or.inl rfl)) pgs_nil))))
      (pss_cons (ps_if (pt_not (pt_chain3 op_le op_le op_le pe_int (pv 1) (pv 2) (pe_gI rfl T.c_MOST_MINUTES))) pss_any pss_nil)
      (pss_one (ps_ret (pe_tup (pa_cons (pv 1) (pa_cons (pv 2) pa_nil))))))))), ?_⟩
    cases b with
    | none =>
      cases hv
      exact ⟨_, rfl, rfl, _, rfl, iteT (k .non H (Ex.refl H) .non)⟩
    | some b =>
      obtain ⟨lo, hi⟩ := b
      obtain ⟨o1, o2, o3⟩ := hok
      cases hv with
      | tup hs hr =>
        cases hr with
        | cons a1 hr =>
          cases a1
          cases hr with
          | cons a2 hr =>
            cases a2
            cases hr
            rename_i p
            refine ⟨_, rfl, rfl, _, rfl, iteF ?_⟩
            refine ⟨_, rfl, p, _, rfl, .inr hs, rfl, _, rfl, iteNS rfl ?_⟩
            refine ⟨_, rfl, p, _, rfl, hs, rfl, _, _, rfl, _, _, rfl, rfl, ?_⟩
            refine ⟨_, rfl, _, _, rfl, rfl, _, rfl, ?_⟩
            refine ite2 (fun _ => ?_) (fun n => absurd (decide_eq_true o1) n)
            refine ⟨_, rfl, _, _, rfl, rfl, _, rfl, ?_⟩
            refine ite2 (fun _ => ?_) (fun n => absurd (decide_eq_true o2) n)
            refine ⟨_, _, rfl, rfl, _, rfl, iteNS o3 ?_⟩
            refine ⟨_, rfl, _, rfl, by show 2 ≤ sizeLine; decide, fun q hq => ?_⟩
            exact k _ _ (Ex.new hq) (.tup (st_of upd_same) (.cons (.int lo) (.cons (.int hi) .nil)))
theorem G_link_names (T : Txt K mg a) : FnOk P w K mg base CX0 1 a.f_link_names a.d_link_names ["self"] (sp_link_names K a.C) := by
  refine T.F_link_names.ok sc_link_names (fun vs H Q E h => ?_) (fun cdv A outer s H vs Q E hr h => ?_)
  · obtain ⟨x, dx, fs, l, rows, ls, rfl, _⟩ := h
    rfl
  · obtain ⟨x, dx, fs, l, rows, ls, rfl, hx, hf, hl, hd, hmax, k⟩ := h
    have hlen : rows.length = ls.length := by rw [dps_len hd, List.length_map]
    refine ⟨_, (pss_one (ps_ret (pe_callTy call_tupK (by rfl) T.z_tuple (by decide +kernel) (pa_cons (pe_lc (own := [("link", 1)]) (g := gName 1) (tt := tYes) rfl sc_link_names.nd (pi_tup (pe_fld (pv 0) rfl)) (blkOk_by (N := ["self", "link"]) (sc := defScope s_link_names) (by decide +kernel)) (fun _ _ _ _ _ => pg_name (i := 1) sc_link_names.nd rfl (Or.inl rfl)) (fun _ _ _ _ _ => pts_nil) (fun _ _ _ _ _ => (pe_ix (show IxR _ (rIxT K) from ix_tup) (pv 1) pe_int (fun _ _ => rfl)))) pa_nil)))), ?_⟩
    refine ⟨_, rfl, x, _, dx, fs, _, rfl, hx, T.cl, T.nL, hf, l, rfl, ⟨_, hl⟩, fun D hD => lcY_tup (K := K) (a := l) (xs := rows) (fun i H' => Ex H H' ∧ H' D = some (.lst (((ls.map (·.n)).take i).map V.str))) ⟨Ex.new hD, upd_same⟩ (fun i H' _ p => ex_t p.1 hl) (fun i r H' hi p => ?_) (fun H' p => ?_)⟩
    · obtain ⟨d, hd1, hd2⟩ := dps_at hd hi
      have hil : i < rows.length := (List.getElem?_eq_some_iff.mp hi).1
      obtain ⟨k0, hk0⟩ : ∃ k0, ls[i]? = some k0 := ⟨ls[i]'(by omega), List.getElem?_eq_getElem (by omega)⟩
      rw [List.getElem?_map, hk0] at hd1
      obtain rfl : dLink k0 = d := Option.some.inj hd1
      obtain ⟨t, u, vs, rfl, hT, _, _⟩ := made_in hd2
      refine ⟨rfl, _, rfl, t, _, 0, .str k0.n, rfl, rfl, ex_t p.1 hT, atI_nat (j := 0) rfl, _, p.2, sz_lt (by rw [List.length_map, List.length_take, List.length_map]; omega), Ex.mut p.1 hD, ?_⟩
      rw [upd_same, List.take_add_one, List.getElem?_map, hk0, List.map_append]
      rfl
    · rw [hlen, ← List.length_map (f := (·.n)), List.take_length] at p
      refine ⟨D, _, rfl, .inl ⟨SqL.of p.2, fun q hq => ?_⟩⟩
      exact k _ q (p.1.trans (Ex.new hq)) (fresh_back p.1 hq) upd_same
end
end EV

set_option Elab.async false
set_option linter.all false
set_option maxRecDepth 100000
set_option maxHeartbeats 4000000
namespace EV
open PySem PySem.Spec PyProof.Rows L2 EvS Evl
/-! ### data without lists stands while lists change -/
mutual
def frozen : PyData → Bool
  | .none => true
  | .bool _ => true
  | .int _ => true
  | .str _ => true
  | .tuple ds => frozenAll ds
  | .list _ => false
  | .dict _ => false
def frozenAll : List PyData → Bool
  | [] => true
  | d :: ds => frozen d && frozenAll ds
end
theorem frozenAll_of : ∀ {ds : List PyData}, (∀ d ∈ ds, frozen d = true) → frozenAll ds = true
  | [], _ => by simp [frozenAll]
  | d :: ds, h => by
    rw [frozenAll, h d List.mem_cons_self, frozenAll_of fun x hx => h x (List.mem_cons_of_mem _ hx)]
    rfl
theorem frozen_time (b : Option (Int × Int)) : frozen (dTime b) = true := by cases b <;> simp [dTime, frozen, frozenAll]
theorem frozen_times (ts : List (Option (Int × Int))) : frozenAll (ts.map dTime) = true := frozenAll_of fun d hd => by
  obtain ⟨b, _, rfl⟩ := List.mem_map.mp hd
  exact frozen_time b
theorem frozen_link (k : Link) : frozen (dLink k) = true := by simp [dLink, frozen, frozenAll, frozen_times]
theorem frozen_path (p : Str × Str × Int) : frozen (dPath p) = true := by simp [dPath, frozen, frozenAll]
theorem frozen_links (ls : List Link) : frozenAll (ls.map dLink) = true := frozenAll_of fun d hd => by
  obtain ⟨b, _, rfl⟩ := List.mem_map.mp hd
  exact frozen_link b
theorem frozen_paths (ls : List (Str × Str × Int)) : frozenAll (ls.map dPath) = true := frozenAll_of fun d hd => by
  obtain ⟨b, _, rfl⟩ := List.mem_map.mp hd
  exact frozen_path b
theorem frozen_strs (ls : List Str) : frozenAll (ls.map PyData.str) = true := frozenAll_of fun d hd => by
  obtain ⟨b, _, rfl⟩ := List.mem_map.mp hd
  simp [frozen]
theorem frozen_land (D : LandD) : frozen (dLand D) = true := by simp [dLand, frozen, frozenAll, frozen_links, frozen_paths, frozen_strs]
def ExT (H H' : Hp) : Prop := ∀ a xs, Rd H a (.tup xs) → Rd H' a (.tup xs)
theorem exT_of {H H' : Hp} (e : Ex H H') : ExT H H' := fun _ _ h => ex_rd e h
theorem ExT.trans {H H1 H2 : Hp} (a : ExT H H1) (b : ExT H1 H2) : ExT H H2 := fun x y h => b x y (a x y h)
theorem exT_mut {H : Hp} {l : Addr} {xs ys : List V} (h : H l = some (.lst xs)) : ExT H (upd H l (.lst ys)) := fun a zs r => by
  rcases r with r | ⟨o, r⟩
  · exact .inl (by rw [upd_ne (ne_of r h (by intro z; cases z))]; exact r)
  · exact .inr ⟨o, by rw [upd_ne (ne_of r h (by intro z; cases z))]; exact r⟩
theorem exT_t {K : PySem.W.Frag} {H H' : Hp} {p : Addr} {xs : List V} (e : ExT H H') (h : SqT K H p xs) : SqT K H' p xs := h.elim (fun r => .inl (e _ _ r)) .inr
mutual
theorem dp_exT {K : PySem.W.Frag} {H H' : Hp} (e : ExT H H') : ∀ {v : V} {d : PyData}, Dp K H v d → frozen d = true → Dp K H' v d
  | _, _, .non, _ => .non
  | _, _, .bl b, _ => .bl b
  | _, _, .int i, _ => .int i
  | _, _, .str x, _ => .str x
  | _, _, .lst _ _, f => by simp [frozen] at f
  | _, _, .tup h r, f => .tup (exT_t e h) (dps_exT e r (by simpa [frozen] using f))
theorem dps_exT {K : PySem.W.Frag} {H H' : Hp} (e : ExT H H') : ∀ {vs : List V} {ds : List PyData}, DpAll K H vs ds → frozenAll ds = true → DpAll K H' vs ds
  | _, _, .nil, _ => .nil
  | _, _, .cons h r, f => by
    simp only [frozenAll, Bool.and_eq_true] at f
    exact .cons (dp_exT e h f.1) (dps_exT e r f.2)
end
/-! ### side by side -/
inductive All2 {α β : Type} (R : α → β → Prop) : List α → List β → Prop
  | nil : All2 R [] []
  | cons {a : α} {b : β} {as : List α} {bs : List β} : R a b → All2 R as bs → All2 R (a :: as) (b :: bs)
theorem All2.len {α β : Type} {R : α → β → Prop} : ∀ {as : List α} {bs : List β}, All2 R as bs → as.length = bs.length
  | _, _, .nil => rfl
  | _, _, .cons _ r => congrArg Nat.succ r.len
theorem All2.mono {α β : Type} {R S : α → β → Prop} (f : ∀ a b, R a b → S a b) : ∀ {as : List α} {bs : List β}, All2 R as bs → All2 S as bs
  | _, _, .nil => .nil
  | _, _, .cons h r => .cons (f _ _ h) (r.mono f)
theorem All2.app {α β : Type} {R : α → β → Prop} : ∀ {as cs : List α} {bs ds : List β}, All2 R as bs → All2 R cs ds → All2 R (as ++ cs) (bs ++ ds)
  | _, _, _, _, .nil, b => b
  | _, _, _, _, .cons h r, b => .cons h (r.app b)
theorem All2.at {α β : Type} {R : α → β → Prop} : ∀ {as : List α} {bs : List β} (i : Nat) {a : α}, All2 R as bs → as[i]? = some a → ∃ b, bs[i]? = some b ∧ R a b
  | _, _, _, _, .nil, h => by simp at h
  | _, _, 0, _, .cons h _, e => by
    simp only [List.getElem?_cons_zero, Option.some.injEq] at e
    subst e
    exact ⟨_, rfl, h⟩
  | _, _, i + 1, _, .cons _ r, e => by
    simp only [List.getElem?_cons_succ] at e
    exact r.at i e
theorem all2_dps {β : Type} {K : PySem.W.Frag} {H : Hp} {f : β → PyData} {R : V → β → Prop} (g : ∀ v b, Dp K H v (f b) → R v b) : ∀ {vs : List V} {bs : List β}, DpAll K H vs (bs.map f) → All2 R vs bs
  | _, [], .nil => .nil
  | _, _ :: _, .cons h r => .cons (g _ _ h) (all2_dps g r)
theorem take_one {α : Type} {l : List α} {i : Nat} {x : α} (h : l[i]? = some x) : l.take (i + 1) = l.take i ++ [x] := by
  rw [List.take_add_one, h]
  rfl
section
variable {P : Program} {w : World} {K : PySem.W.Frag} {mg : Str → Option Value} {base : Heap} {a : Ad}
theorem G__as_link (T : Txt K mg a) : FnOk P w K mg base CX0 2 a.f__as_link a.d__as_link ["link", "winds", "places"] (sp__as_link K) := by
  refine T.F__as_link.ok sc__as_link (fun vs H Q E h => ?_) (fun cdv A outer s H vs Q E hr h => ?_)
  · obtain ⟨v, wi, pl, ws, ps, k0, rfl, _⟩ := h
    rfl
  · obtain ⟨v, wi, pl, ws, ps, k0, rfl, hv, hW, hP, ok, hmax, k⟩ := h
    obtain ⟨t, u, vs, rfl, hT, hU, hD0⟩ := hv
    have lv : vs.length = k0.ts.length := by rw [dps_len hD0, List.length_map]
    refine ⟨_, (pss_cons (ps_if (pt_cmpR op_ne (pe_callB call_len_seq (by rfl) T.z_len PySem.boot_len (pa_cons (pv 0) pa_nil)) pe_int (nomark _)) pss_any pss_nil)
      (pss_cons (ps_asg (pv 0) (pg_tup (by rfl) (pgs_cons (pg_name (i := 3) sc__as_link.nd rfl (Or.inl rfl)) (pgs_cons (pg_name (i := 4) sc__as_link.nd rfl (Or.inl rfl)) (pgs_cons (pg_name (i := 5) sc__as_link.nd rfl (Or.inl rfl)) (pgs_cons (pg_name (i := 6) sc__as_link.nd rfl (Or.inl rfl)) pgs_nil))))))
      (pss_cons (ps_expr (pe_call (G__check_ends T) (hr.mono (by decide)) (by rfl) T.g__check_ends T.k__check_ends T.B__check_ends .nil pass0 (pa_cons pe_str (pa_cons (pv 4) (pa_cons (pv 5) (pa_cons (pv 2) pa_nil))))))
      (pss_cons (ps_if (pt_cmpR op_ne (pe_callB call_len_seq (by rfl) T.z_len PySem.boot_len (pa_cons (pv 6) pa_nil)) (pe_callB call_len_seq (by rfl) T.z_len PySem.boot_len (pa_cons (pv 1) pa_nil)) (nomark _)) pss_any pss_nil)
      (pss_one (ps_ret (pe_tup (pa_cons (pv 3) (pa_cons (pv 4) (pa_cons (pv 5) (pa_cons (pe_callTy call_tupK (by rfl) T.z_tuple (by decide +kernel) (pa_cons (pe_lc (own := [("bounds", 7)]) (g := gName 7) (tt := tYes) rfl sc__as_link.nd (pi_or (pi_list (pv 6)) (pi_tup (pv 6))) (blkOk_by (N := ["link", "winds", "places", "name", "one", "other", "times", "bounds"]) (sc := defScope s__as_link) (by decide +kernel)) (fun _ _ _ _ _ => pg_name (i := 7) sc__as_link.nd rfl (Or.inl rfl)) (fun _ _ _ _ _ => pts_nil) (fun _ _ _ _ _ => (pe_call (G__as_bounds T) (hr.mono (by decide)) (by rfl) T.g__as_bounds T.k__as_bounds T.B__as_bounds .nil pass0 (pa_cons (pv 7) pa_nil)))) pa_nil)) pa_nil))))))))))), ?_⟩
    refine ⟨_, rfl, t, _, rfl, .inr hT, rfl, _, rfl, iteNS rfl ?_⟩
    refine ⟨_, rfl, t, _, rfl, hT, rfl, _, _, rfl, _, _, rfl, _, _, rfl, _, _, rfl, rfl, ?_⟩
    refine ⟨_, rfl, _, rfl, _, rfl, _, k0.o, k0.t, pl, ps, rfl, hP, ok.o, ok.t, ok.ne, ?_⟩
    refine ⟨_, rfl, u, _, rfl, hU, _, rfl, wi, _, rfl, hW, rfl, _, rfl, iteNS (by rw [lv, ok.len, List.length_map]) ?_⟩
    refine ⟨_, rfl, _, rfl, _, rfl, ?_⟩
    let Pv : Addr → Nat → Hp → Prop := fun D i H' => Ex H H' ∧ ∃ made, H' D = some (.lst made) ∧ made.length = i ∧ DpAll K H' made ((k0.ts.take i).map dTime)
    have start : ∀ {D : Addr}, H D = none → Pv D 0 (upd H D (.lst [])) := fun hD => ⟨Ex.new hD, [], upd_same, rfl, .nil⟩
    have turn : ∀ {D : Addr} (i : Nat) (y : V) (H' : Hp) (σ : L2.St), H D = none → vs[i]? = some y → Pv D i H' → σ[7]? = some (some y) →
        tCall (sp__as_bounds K) [] E0 (tCons (tVar 7) tNil) σ H' fun y H4 => ∃ acc, H4 D = some (.lst acc) ∧ acc.length < sizeLine ∧ Pv D (i + 1) (upd H4 D (.lst (acc ++ [y]))) := by
      rintro D i y H' σ hD hy ⟨e, made, hm, hl, hd⟩ hs
      obtain ⟨d, hd1, hd2⟩ := dps_at hD0 hy
      have hil : i < vs.length := (List.getElem?_eq_some_iff.mp hy).1
      obtain ⟨b, hb⟩ : ∃ b, k0.ts[i]? = some b := ⟨k0.ts[i]'(by omega), List.getElem?_eq_getElem (by omega)⟩
      rw [List.getElem?_map, hb] at hd1
      obtain rfl : dTime b = d := Option.some.inj hd1
      refine ⟨y, hs, y, b, rfl, dp_ex e hd2, ok.ok b (List.mem_of_getElem? hb), fun v' H6 e6 hv' => ⟨made, e6 _ _ hm, sz_lt (by have := ok.len; omega), (e.trans e6).mut hD, _, upd_same, by rw [List.length_append, hl] <;> rfl, ?_⟩⟩
      rw [take_one hb, List.map_append]
      exact dps_app (dps_exT (exT_mut (e6 _ _ hm)) (dps_ex e6 hd) (frozen_times _)) (dps_one (dp_exT (exT_mut (e6 _ _ hm)) hv' (frozen_time _)))
    have fin : ∀ {D : Addr} {H' : Hp}, Pv D vs.length H' → rTupK K [.ref D] H' fun x H2 => (5 : Nat) - 1 ≤ sizeLine ∧ ∀ p, H2 p = none → Q (.ref p) (upd H2 p (.tup [.str k0.n, .str k0.o, .str k0.t, x])) := by
      rintro D H' ⟨e, made, hm, hl, hd⟩
      rw [lv, List.take_length] at hd
      refine ⟨D, made, rfl, .inl ⟨SqL.of hm, fun q hq => ⟨by decide, fun r hr0 => ?_⟩⟩⟩
      have e1 : Ex H' (upd (upd H' q (.tup made)) r (.tup [.str k0.n, .str k0.o, .str k0.t, .ref q])) := (Ex.new hq).trans (Ex.new hr0)
      have nqr : q ≠ r := ne_of_none upd_same hr0
      exact k _ r (e.trans e1) (fresh_back (e.trans (Ex.new hq)) hr0) (.tup (st_of upd_same) (.cons (.str _) (.cons (.str _) (.cons (.str _) (.cons (.tup (st_of (by rw [upd_ne nqr, upd_same])) (dps_ex e1 hd)) .nil)))))
    rcases hU with hU | hU
    · exact .inl ⟨_, rfl, u, rfl, ⟨_, hU⟩, fun D hD => lcY_list (K := K) (a := u) (xs := vs) (Pv D) (start hD) (fun i H' _ p => ex_l p.1 hU) (fun i y H' hi p => ⟨rfl, turn i y H' _ hD hi p rfl⟩) (fun H' p => fin p)⟩
    · exact .inr ⟨_, rfl, u, rfl, ⟨_, hU⟩, fun D hD => lcY_tup (K := K) (a := u) (xs := vs) (Pv D) (start hD) (fun i H' _ p => ex_t p.1 hU) (fun i y H' hi p => ⟨rfl, turn i y H' _ hD hi p rfl⟩) (fun H' p => fin p)⟩
theorem G__as_path (T : Txt K mg a) : FnOk P w K mg base CX0 2 a.f__as_path a.d__as_path ["path", "places"] (sp__as_path K) := by
  refine T.F__as_path.ok sc__as_path (fun vs H Q E h => ?_) (fun cdv A outer s H vs Q E hr h => ?_)
  · obtain ⟨v, pl, ps, p, rfl, _⟩ := h
    rfl
  · obtain ⟨v, pl, ps, p, rfl, hv, hP, ok, k⟩ := h
    obtain ⟨t, rfl, hT⟩ := path_in hv
    have lo := ok.lo
    have hi := ok.hi
    refine ⟨_, (pss_cons (ps_if (pt_cmpR op_ne (pe_callB call_len_seq (by rfl) T.z_len PySem.boot_len (pa_cons (pv 0) pa_nil)) pe_int (nomark _)) pss_any pss_nil)
      (pss_cons (ps_asg (pv 0) (pg_tup (by rfl) (pgs_cons (pg_name (i := 2) sc__as_path.nd rfl (Or.inl rfl)) (pgs_cons (pg_name (i := 3) sc__as_path.nd rfl (Or.inl rfl)) (pgs_cons (pg_name (i := 4) sc__as_path.nd rfl (Or.inl rfl)) pgs_nil)))))
      (pss_cons (ps_expr (pe_call (G__check_ends T) (hr.mono (by decide)) (by rfl) T.g__check_ends T.k__check_ends T.B__check_ends .nil pass0 (pa_cons pe_str (pa_cons (pv 2) (pa_cons (pv 3) (pa_cons (pv 1) pa_nil))))))
      (pss_cons (ps_if (pt_not (pt_chain op_le op_le pe_int (pv 4) (pe_gI rfl T.c_MOST_MINUTES))) pss_any pss_nil)
      (pss_one (ps_ret (pe_tup (pa_cons (pv 2) (pa_cons (pv 3) (pa_cons (pv 4) pa_nil)))))))))), ?_⟩
    refine ⟨_, rfl, t, _, rfl, .inr hT, rfl, _, rfl, iteNS rfl ?_⟩
    refine ⟨_, rfl, t, _, rfl, hT, rfl, _, _, rfl, _, _, rfl, _, _, rfl, rfl, ?_⟩
    refine ⟨_, rfl, _, rfl, _, rfl, _, p.1, p.2.1, pl, ps, rfl, hP, ok.o, ok.t, ok.ne, ?_⟩
    refine ⟨_, rfl, _, _, rfl, rfl, _, rfl, ?_⟩
    refine ite2 (fun _ => ?_) (fun n => absurd (decide_eq_true lo) n)
    refine ⟨_, _, rfl, rfl, _, rfl, iteNS hi ?_⟩
    refine ⟨_, rfl, _, rfl, _, rfl, by show 3 ≤ sizeLine; decide, fun q hq => ?_⟩
    exact k _ q (Ex.new hq) hq (.tup (st_of upd_same) (.cons (.str _) (.cons (.str _) (.cons (.int _) .nil))))
theorem G__check_single_paths (T : Txt K mg a) : FnOk P w K mg base CX0 1 a.f__check_single_paths a.d__check_single_paths ["paths"] (sp__check_single_paths K) := by
  refine T.F__check_single_paths.ok sc__check_single_paths (fun vs H Q E h => ?_) (fun cdv A outer s H vs Q E hr h => ?_)
  · obtain ⟨p, prs, pa, rfl, _⟩ := h
    rfl
  · obtain ⟨p, prs, pa, rfl, hT, hd, h60, hap, k⟩ := h
    have lp : prs.length = pa.length := by rw [dps_len hd, List.length_map]
    refine ⟨_, (pss_cons (ps_setLc (i := 1) (own := [("one", 2), ("other", 3), ("_", 4)]) (g := gTup K 3 (gCons (gName 2) (gCons (gName 3) (gCons (gName 4) gNil)))) (tt := tYes) rfl sc__check_single_paths.nd rfl rfl (sw_true rfl rfl rfl (by decide +kernel)) (pi_tup (pv 0)) (blkOk_by (N := ["paths", "ends", "one", "other", "_"]) (sc := defScope s__check_single_paths) (by decide +kernel)) (fun _ _ _ _ _ => (pg_tup (by rfl) (pgs_cons (pg_name (i := 2) sc__check_single_paths.nd rfl (Or.inl rfl)) (pgs_cons (pg_name (i := 3) sc__check_single_paths.nd rfl (Or.inl rfl)) (pgs_cons (pg_name (i := 4) sc__check_single_paths.nd rfl (Or.inl rfl)) pgs_nil))))) (fun _ _ _ _ _ => pts_nil) (fun _ _ _ _ _ => (pe_callTy (show CallR _ _ (rTupK K) from call_tupK) (by rfl) T.z_tuple (by decide +kernel) (pa_cons (pe_callB (show CallR _ _ (rSortedS K) from cr_sortedS) (by rfl) T.z_sorted (by decide +kernel) (pa_cons (pe_lst (pa_cons (pv 2) (pa_cons (pv 3) pa_nil))) pa_nil)) pa_nil))))
      (pss_one (ps_if (pt_cmpR op_ne (TxSet.pe_lenSetT hr rfl (by rfl) T.z_len (by rfl) T.z_set (pv 1)) (pe_callB call_len_seq (by rfl) T.z_len PySem.boot_len (pa_cons (pv 1) pa_nil)) (nomark _)) pss_any pss_nil))), ?_⟩
    refine ⟨_, rfl, p, rfl, ⟨_, hT⟩, fun D hD => lcY_tup (K := K) (a := p) (xs := prs) (fun i H' => Ex H H' ∧ ∃ ks : List (Addr × List Str), H' D = some (.lst (ks.map fun p => V.ref p.1)) ∧ (∀ p ∈ ks, H' p.1 = some (.tup (p.2.map V.str))) ∧ All2 (fun q r => q.2.Perm [r.1, r.2.1]) ks (pa.take i))
      ⟨Ex.new hD, [], upd_same, fun p hp => (by cases hp), .nil⟩ (fun i H' _ q => ex_t q.1 hT) (fun i y H' hi q => ?_) (fun H' q => ?_)⟩
    · obtain ⟨e, ks, hks, hat, h2⟩ := q
      have hil : i < prs.length := (List.getElem?_eq_some_iff.mp hi).1
      obtain ⟨d, hd1, hd2⟩ := dps_at hd hi
      obtain ⟨b, hb⟩ : ∃ b, pa[i]? = some b := ⟨pa[i]'(by omega), List.getElem?_eq_getElem (by omega)⟩
      rw [List.getElem?_map, hb] at hd1
      obtain rfl : dPath b = d := Option.some.inj hd1
      obtain ⟨t, rfl, hb2⟩ := path_in hd2
      have lk : ks.length = (pa.take i).length := h2.len
      refine ⟨t, _, rfl, ex_t e hb2, rfl, _, _, rfl, _, _, rfl, _, _, rfl, rfl, rfl, ?_⟩
      refine ⟨_, rfl, _, rfl, by show 2 ≤ sizeLine; decide, fun l hl => ?_⟩
      refine ⟨l, [b.1, b.2.1], rfl, SqL.of upd_same, (by show 2 < 64; decide), fun ys m pm _ hm => ?_⟩
      refine ⟨m, _, rfl, .inl ⟨SqL.of upd_same, fun n hn => ?_⟩⟩
      have e3 : Ex H' (upd (upd (upd H' l (.lst [.str b.1, .str b.2.1])) m (.lst (ys.map V.str))) n (.tup (ys.map V.str))) := ((Ex.new hl).trans (Ex.new hm)).trans (Ex.new hn)
      have hD3 := e3 _ _ hks
      refine ⟨_, hD3, sz_lt (by rw [List.length_map, lk, List.length_take]; omega), (e.trans e3).mut hD, ks ++ [(n, ys)], by rw [upd_same, List.map_append] <;> rfl, fun q hq => ?_, ?_⟩
      · rcases List.mem_append.mp hq with z | z
        · have h3 := e3 _ _ (hat q z)
          rw [upd_ne (ne_of h3 hD3 (by intro z; cases z))]
          exact h3
        · rw [List.mem_singleton.mp z]
          have h3 : (upd (upd (upd H' l (.lst [.str b.1, .str b.2.1])) m (.lst (ys.map V.str))) n (.tup (ys.map V.str))) n = some (.tup (ys.map V.str)) := upd_same
          show (upd _ D _) n = _
          rw [upd_ne (ne_of h3 hD3 (by intro z; cases z))]
          exact h3
      · rw [take_one hb]
        exact h2.app (.cons pm .nil)
    · obtain ⟨e, ks, hks, hat, h2⟩ := q
      rw [lp, List.take_length] at h2
      have lk := h2.len
      have diff : (ks.map (·.2)).Nodup := by
        have go : ∀ {ks : List (Addr × List Str)} {pa : List (Str × Str × Int)}, All2 (fun q r => q.2.Perm [r.1, r.2.1]) ks pa → (pa.map fun p => (p.1, p.2.1)).Pairwise Apart → (ks.map (·.2)).Nodup := by
          intro ks pa h
          induction h with
          | nil => intro _; exact List.nodup_nil
          | @cons q r ks pa h hr ih =>
            intro hp
            rw [List.map_cons, List.pairwise_cons] at hp
            rw [List.map_cons, List.nodup_cons]
            refine ⟨fun hm => ?_, ih hp.2⟩
            obtain ⟨q2, hq2, e2⟩ := List.mem_map.mp hm
            obtain ⟨i, hi, ei⟩ := List.getElem_of_mem hq2
            obtain ⟨r2, hr2, p2⟩ := hr.at i (show ks[i]? = some q2 by rw [List.getElem?_eq_getElem hi, ei])
            refine hp.1 (r2.1, r2.2.1) (List.mem_map.mpr ⟨r2, List.mem_of_getElem? hr2, rfl⟩) ?_
            rw [e2] at p2
            exact h.symm.trans p2
        exact go h2 hap
      refine ⟨_, rfl, D, ks, rfl, SqL.of hks, fun q hq => st_of (hat q hq), by omega, diff, _, rfl, D, _, rfl, .inl (SqL.of hks), rfl, _, rfl, ?_⟩
      rw [List.length_map]
      exact iteNS rfl (k _ e)
end
end EV

set_option Elab.async false
set_option linter.all false
set_option maxRecDepth 100000
set_option maxHeartbeats 4000000
namespace EV
open PySem PySem.Spec PyProof.Rows L2 EvS Evl
/-- a new land of well formed parts -/
def sp_init (K : PySem.W.Frag) (C : Addr) : Sp := fun vs H Q _ => ∃ (H0 : Hp) (x dx wi pl li pa : Addr) (D : LandD) (rows prs : List V), vs = [.ref x, .ref wi, .ref pl, .ref li, .ref pa] ∧ Ex H0 H ∧ H0 x = none ∧ H x = some (.ins C dx []) ∧
  Seq2 K H0 wi (D.ws.map V.str) ∧ Seq2 K H0 pl (D.ps.map V.str) ∧ Seq2 K H0 li rows ∧ All2 (LinkIn K H0) rows D.ls ∧ Seq2 K H0 pa prs ∧ DpAll K H0 prs (D.pa.map dPath) ∧ LandOk D ∧ ∀ H', Ex H0 H' → IsLand K C H' x D → Q .non H'
section
variable {P : Program} {w : World} {K : PySem.W.Frag} {mg : Str → Option Value} {base : Heap} {a : Ad}
theorem G_init (T : Txt K mg a) : FnOk P w K mg base CX0 3 a.f_init a.d_init ["self", "winds", "places", "links", "paths"] (sp_init K a.C) := by
  refine T.F_init.ok sc_init (fun vs H Q E h => ?_) (fun cdv A outer s H vs Q E hr h => ?_)
  · obtain ⟨H0, x, dx, wi, pl, li, pa, D, rows, prs, rfl, _⟩ := h
    rfl
  · obtain ⟨H0, x, dx, wi, pl, li, pa, D, rows, prs, rfl, e0, x0, hx, hW, hP, hL, hLs, hA, hAs, ok, k⟩ := h
    have lw : (D.ws.map V.str).length = D.ws.length := List.length_map ..
    have lp : (D.ps.map V.str).length = D.ps.length := List.length_map ..
    have ll := hLs.len
    have la : prs.length = D.pa.length := by rw [dps_len hAs, List.length_map]
    have b1 := ok.w1
    have b2 := ok.w4
    have b3 := ok.p1
    have b4 := ok.p24
    have b5 := ok.l60
    have b6 := ok.a60
    refine ⟨_, (pss_cons (ps_expr (pe_call (G__check_count T) (hr.mono (by decide)) (by rfl) T.g__check_count T.k__check_count T.B__check_count .nil pass0 (pa_cons pe_str (pa_cons (pv 1) (pa_cons pe_int (pa_cons (pe_gI rfl T.c_MOST_WINDS) pa_nil))))))
      (pss_cons (ps_expr (pe_call (G_check_names_lands T) (hr.mono (by decide)) (by rfl) T.g_check_names_lands T.k_check_names_lands T.B_check_names_lands .nil pass0 (pa_cons pe_str (pa_cons (pv 1) pa_nil))))
      (pss_cons (ps_expr (pe_call (G__check_count T) (hr.mono (by decide)) (by rfl) T.g__check_count T.k__check_count T.B__check_count .nil pass0 (pa_cons pe_str (pa_cons (pv 2) (pa_cons pe_int (pa_cons (pe_gI rfl T.c_MOST_PLACES) pa_nil))))))
      (pss_cons (ps_expr (pe_call (G_check_names_lands T) (hr.mono (by decide)) (by rfl) T.g_check_names_lands T.k_check_names_lands T.B_check_names_lands .nil pass0 (pa_cons pe_str (pa_cons (pv 2) pa_nil))))
      (pss_cons (ps_expr (pe_call (G__check_count T) (hr.mono (by decide)) (by rfl) T.g__check_count T.k__check_count T.B__check_count .nil pass0 (pa_cons pe_str (pa_cons (pv 3) (pa_cons pe_int (pa_cons (pe_gI rfl T.c_MOST_LINKS) pa_nil))))))
      (pss_cons (ps_expr (pe_call (G__check_count T) (hr.mono (by decide)) (by rfl) T.g__check_count T.k__check_count T.B__check_count .nil pass0 (pa_cons pe_str (pa_cons (pv 4) (pa_cons pe_int (pa_cons (pe_gI rfl T.c_MOST_PATHS) pa_nil))))))
      (pss_cons (ps_fld (pv 0) (pe_callTy call_tupS (by rfl) T.z_tuple (by decide +kernel) (pa_cons (pv 1) pa_nil)) rfl)
      (pss_cons (ps_fld (pv 0) (pe_callTy call_tupS (by rfl) T.z_tuple (by decide +kernel) (pa_cons (pv 2) pa_nil)) rfl)
      (Evl.pss_cut (ps_fld (pv 0) (pe_callTy call_tupK (by rfl) T.z_tuple (by decide +kernel) (pa_cons (pe_lc (own := [("link", 5)]) (g := gName 5) (tt := tYes) rfl sc_init.nd (pi_or (pi_list (pv 3)) (pi_tup (pv 3))) (blkOk_by (N := ["self", "winds", "places", "links", "paths", "link", "path"]) (sc := defScope s_init) (by decide +kernel)) (fun _ _ _ _ _ => pg_name (i := 5) sc_init.nd rfl (Or.inl rfl)) (fun _ _ _ _ _ => pts_nil) (fun _ _ _ _ _ => (pe_call (G__as_link T) (hr.mono (by decide)) (by rfl) T.g__as_link T.k__as_link T.B__as_link .nil pass0 (pa_cons (pv 5) (pa_cons (show PE _ _ (tFld K (tVar 0) "winds") from pe_fld (pv 0) rfl) (pa_cons (show PE _ _ (tFld K (tVar 0) "places") from pe_fld (pv 0) rfl) pa_nil)))))) pa_nil)) rfl)
      (pss_cons (ps_expr (pe_call (G_check_names_lands T) (hr.mono (by decide)) (by rfl) T.g_check_names_lands T.k_check_names_lands T.B_check_names_lands .nil pass0 (pa_cons pe_str (pa_cons (pe_prop (pv 0) T.cl T.p_link_names (G_link_names T) (hr.mono (by decide)) T.B_link_names .nil pass0 rfl) pa_nil))))
      (Evl.pss_cut (ps_fld (pv 0) (pe_callTy call_tupK (by rfl) T.z_tuple (by decide +kernel) (pa_cons (pe_lc (own := [("path", 6)]) (g := gName 6) (tt := tYes) rfl sc_init.nd (pi_or (pi_list (pv 4)) (pi_tup (pv 4))) (blkOk_by (N := ["self", "winds", "places", "links", "paths", "link", "path"]) (sc := defScope s_init) (by decide +kernel)) (fun _ _ _ _ _ => pg_name (i := 6) sc_init.nd rfl (Or.inl rfl)) (fun _ _ _ _ _ => pts_nil) (fun _ _ _ _ _ => (pe_call (G__as_path T) (hr.mono (by decide)) (by rfl) T.g__as_path T.k__as_path T.B__as_path .nil pass0 (pa_cons (pv 6) (pa_cons (show PE _ _ (tFld K (tVar 0) "places") from pe_fld (pv 0) rfl) pa_nil))))) pa_nil)) rfl)
      (pss_one (ps_expr (pe_call (G__check_single_paths T) (hr.mono (by decide)) (by rfl) T.g__check_single_paths T.k__check_single_paths T.B__check_single_paths .nil pass0 (pa_cons (pe_fld (pv 0) rfl) pa_nil))))))))))))))), ?_⟩
    refine ⟨_, rfl, _, wi, _, _, _, rfl, hW.ex e0, by rw [lw]; omega, by rw [lw]; omega, ?_⟩
    refine ⟨_, rfl, _, wi, D.ws, rfl, hW.ex e0, by omega, ok.gw, fun H1 e1 => ?_⟩
    have f1 : Ex H0 H1 := e0.trans e1
    refine ⟨_, rfl, _, pl, _, _, _, rfl, hP.ex f1, by rw [lp]; omega, by rw [lp]; omega, ?_⟩
    refine ⟨_, rfl, _, pl, D.ps, rfl, hP.ex f1, by omega, ok.gp, fun H2 e2 => ?_⟩
    have f2 : Ex H0 H2 := f1.trans e2
    have hx2 : H2 x = some (.ins a.C dx []) := e2 _ _ (e1 _ _ hx)
    refine ⟨_, rfl, _, li, _, _, _, rfl, hL.ex f2, by omega, by omega, ?_⟩
    refine ⟨_, rfl, _, pa, _, _, _, rfl, hA.ex f2, by omega, by omega, ?_⟩
    -- self.winds
    refine ⟨_, rfl, wi, _, rfl, hW.ex f2, fun u H3 e3 hu => ?_⟩
    have hx3 := e3 _ _ hx2
    refine ⟨_, rfl, x, a.C, dx, [], rfl, hx3, T.cl, T.nW, by show 0 < 1000; decide, ?_⟩
    have ins_t : ∀ {H : Hp} {fs gs : List (Str × V)}, H x = some (.ins a.C dx fs) → ExT H (upd H x (.ins a.C dx gs)) := fun {H fs gs} h b xs r => by
      rcases r with r | ⟨o, r⟩
      · exact .inl (by rw [upd_ne (ne_of r h (by intro z; cases z))]; exact r)
      · exact .inr ⟨o, by rw [upd_ne (ne_of r h (by intro z; cases z))]; exact r⟩
    have f4 : Ex H0 (upd H3 x (.ins a.C dx (putF "winds" (.ref u) []))) := (f2.trans e3).mut x0
    have hu4 := exT_t (ins_t (gs := putF "winds" (.ref u) []) hx3) hu
    have hx4 : (upd H3 x (.ins a.C dx (putF "winds" (.ref u) []))) x = some (.ins a.C dx (putF "winds" (.ref u) [])) := upd_same
    generalize upd H3 x (.ins a.C dx (putF "winds" (.ref u) [])) = H4 at f4 hu4 hx4
    -- self.places
    refine ⟨_, rfl, pl, _, rfl, hP.ex f4, fun q H5 e5 hq => ?_⟩
    have hx5 := e5 _ _ hx4
    refine ⟨_, rfl, x, a.C, dx, _, rfl, hx5, T.cl, T.nP, by show 1 < 1000; decide, ?_⟩
    have f6 : Ex H0 (upd H5 x (.ins a.C dx (putF "places" (.ref q) (putF "winds" (.ref u) [])))) := (f4.trans e5).mut x0
    have hu6 := exT_t (ins_t (gs := putF "places" (.ref q) (putF "winds" (.ref u) [])) hx5) (ex_t e5 hu4)
    have hq6 := exT_t (ins_t (gs := putF "places" (.ref q) (putF "winds" (.ref u) [])) hx5) hq
    have hx6 : (upd H5 x (.ins a.C dx (putF "places" (.ref q) (putF "winds" (.ref u) [])))) x = some (.ins a.C dx (putF "places" (.ref q) (putF "winds" (.ref u) []))) := upd_same
    generalize upd H5 x (.ins a.C dx (putF "places" (.ref q) (putF "winds" (.ref u) []))) = H6 at f6 hu6 hq6 hx6
    have lkW : (putF "places" (.ref q) (putF "winds" (.ref u) [])).lookup ("winds" : Str) = some (V.ref u) := by
      rw [lookup_putF, if_neg (by decide +kernel), lookup_putF, if_pos rfl]
    have lkP : (putF "places" (.ref q) (putF "winds" (.ref u) [])).lookup ("places" : Str) = some (V.ref q) := by
      rw [lookup_putF, if_pos rfl]
    -- self.links
    refine ⟨fun σ H' => σ = [some (.ref x), some (.ref wi), some (.ref pl), some (.ref li), some (.ref pa), none, none] ∧ ∃ v made, Ex H0 H' ∧ H' x = some (.ins a.C dx (putF "links" (.ref v) (putF "places" (.ref q) (putF "winds" (.ref u) [])))) ∧ SqT K H' u (D.ws.map V.str) ∧ SqT K H' q (D.ps.map V.str) ∧ SqT K H' v made ∧ DpAll K H' made (D.ls.map dLink), ?_, ?_⟩
    let Pv : Addr → Nat → Hp → Prop := fun D0 i H' => Ex H6 H' ∧ ∃ made, H' D0 = some (.lst made) ∧ made.length = i ∧ DpAll K H' made ((D.ls.take i).map dLink)
    have start : ∀ {D0 : Addr}, H6 D0 = none → Pv D0 0 (upd H6 D0 (.lst [])) := fun hD => ⟨Ex.new hD, [], upd_same, rfl, .nil⟩
    have turn : ∀ {D0 : Addr} (i : Nat) (y : V) (H' : Hp) (σ : L2.St), H6 D0 = none → rows[i]? = some y → Pv D0 i H' → σ[5]? = some (some y) → σ[0]? = some (some (.ref x)) →
        tCall (sp__as_link K) [] E0 (tCons (tVar 5) (tCons (tFld K (tVar 0) "winds") (tCons (tFld K (tVar 0) "places") tNil))) σ H' fun y H4 => ∃ acc, H4 D0 = some (.lst acc) ∧ acc.length < sizeLine ∧ Pv D0 (i + 1) (upd H4 D0 (.lst (acc ++ [y]))) := by
      rintro D0 i y H' σ hD hy ⟨e, made, hm, hl, hd⟩ s5 s0
      obtain ⟨k0, hk0, hin⟩ := hLs.at i hy
      have hil : i < rows.length := (List.getElem?_eq_some_iff.mp hy).1
      have hx' := e _ _ hx6
      refine ⟨y, s5, _, s0, x, a.C, dx, _, _, rfl, hx', T.cl, T.nW, lkW, _, s0, x, a.C, dx, _, _, rfl, hx', T.cl, T.nP, lkP, ?_⟩
      refine ⟨y, u, q, D.ws, D.ps, k0, rfl, hin.ex (f6.trans e), .inr (ex_t e hu6), .inr (ex_t e hq6), ok.lk k0 (List.mem_of_getElem? hk0), by omega, fun H8 t e8 ht hM => ⟨made, e8 _ _ hm, sz_lt (by omega), (e.trans e8).mut hD, _, upd_same, by rw [List.length_append, hl] <;> rfl, ?_⟩⟩
      rw [take_one hk0, List.map_append]
      exact dps_app (dps_exT (exT_mut (e8 _ _ hm)) (dps_ex e8 hd) (frozen_links _)) (dps_one (dp_exT (exT_mut (e8 _ _ hm)) hM (frozen_link _)))
    · have fin : ∀ {D0 : Addr} {H' : Hp}, Pv D0 rows.length H' → rTupK K [.ref D0] H' fun y H1 => tVar 0 [some (.ref x), some (.ref wi), some (.ref pl), some (.ref li), some (.ref pa), none, none] H1 fun x2 H2 => ∃ (b C2 d2 : Addr) (fs : List (Str × V)), x2 = .ref b ∧ H2 b = some (.ins C2 d2 fs) ∧ Cls K C2 ∧ NoAttr K C2 "links" ∧ fs.length < 1000 ∧
          ∃ v made, Ex H0 (upd H2 b (.ins C2 d2 (putF "links" y fs))) ∧ (upd H2 b (.ins C2 d2 (putF "links" y fs))) x = some (.ins a.C dx (putF "links" (.ref v) (putF "places" (.ref q) (putF "winds" (.ref u) [])))) ∧ SqT K (upd H2 b (.ins C2 d2 (putF "links" y fs))) u (D.ws.map V.str) ∧ SqT K (upd H2 b (.ins C2 d2 (putF "links" y fs))) q (D.ps.map V.str) ∧ SqT K (upd H2 b (.ins C2 d2 (putF "links" y fs))) v made ∧ DpAll K (upd H2 b (.ins C2 d2 (putF "links" y fs))) made (D.ls.map dLink) := by
        rintro D0 H' ⟨e, made, hm, hl, hd⟩
        rw [ll, List.take_length] at hd
        refine ⟨D0, made, rfl, .inl ⟨SqL.of hm, fun v hv => ?_⟩⟩
        have e2 : Ex H6 (upd H' v (.tup made)) := e.trans (Ex.new hv)
        have hx' := e2 _ _ hx6
        refine ⟨_, rfl, x, a.C, dx, _, rfl, hx', T.cl, T.nL, by show 2 < 1000; decide, v, made, (f6.trans e2).mut x0, upd_same, exT_t (ins_t hx') (ex_t e2 hu6), exT_t (ins_t hx') (ex_t e2 hq6), exT_t (ins_t hx') (st_of upd_same), dps_exT (ins_t hx') (dps_ex (Ex.new hv) hd) (frozen_links _)⟩
      rcases hL.ex f6 with hL6 | hL6
      · refine .inl ⟨_, rfl, li, rfl, ⟨_, hL6⟩, fun D0 hD => lcY_list (K := K) (a := li) (xs := rows) (Pv D0) (start hD) (fun i H' _ p => ex_l p.1 hL6) (fun i y H' hi p => ⟨rfl, turn i y H' _ hD hi p rfl rfl⟩) (fun H' p => ?_)⟩
        obtain ⟨p0, ys, y1, y2⟩ := fin p
        refine ⟨p0, ys, y1, ?_⟩
        rcases y2 with ⟨z1, z2⟩ | ⟨z1, z2⟩
        · refine .inl ⟨z1, fun l hl => ?_⟩
          obtain ⟨c1, c2, c3, c4, c5, c6, c7, c8, c9, c10, c11, c12⟩ := z2 l hl
          exact ⟨c1, c2, c3, c4, c5, c6, c7, c8, c9, c10, c11, rfl, c12⟩
        · obtain ⟨c1, c2, c3, c4, c5, c6, c7, c8, c9, c10, c11, c12⟩ := z2
          exact .inr ⟨z1, c1, c2, c3, c4, c5, c6, c7, c8, c9, c10, c11, rfl, c12⟩
      · refine .inr ⟨_, rfl, li, rfl, ⟨_, hL6⟩, fun D0 hD => lcY_tup (K := K) (a := li) (xs := rows) (Pv D0) (start hD) (fun i H' _ p => ex_t p.1 hL6) (fun i y H' hi p => ⟨rfl, turn i y H' _ hD hi p rfl rfl⟩) (fun H' p => ?_)⟩
        obtain ⟨p0, ys, y1, y2⟩ := fin p
        refine ⟨p0, ys, y1, ?_⟩
        rcases y2 with ⟨z1, z2⟩ | ⟨z1, z2⟩
        · refine .inl ⟨z1, fun l hl => ?_⟩
          obtain ⟨c1, c2, c3, c4, c5, c6, c7, c8, c9, c10, c11, c12⟩ := z2 l hl
          exact ⟨c1, c2, c3, c4, c5, c6, c7, c8, c9, c10, c11, rfl, c12⟩
        · obtain ⟨c1, c2, c3, c4, c5, c6, c7, c8, c9, c10, c11, c12⟩ := z2
          exact .inr ⟨z1, c1, c2, c3, c4, c5, c6, c7, c8, c9, c10, c11, rfl, c12⟩
    rintro σ H7 ⟨rfl, v, made, f7, hx7, hu7, hq7, hv7, hM7⟩
    have lkL : (putF "links" (.ref v) (putF "places" (.ref q) (putF "winds" (.ref u) []))).lookup ("links" : Str) = some (V.ref v) := by
      rw [lookup_putF, if_pos rfl]
    -- _check_names('links', self.link_names)
    refine ⟨_, rfl, x, dx, _, rfl, hx7, x, dx, _, v, made, D.ls, rfl, hx7, lkL, hv7, hM7, by omega, fun H8 t e8 ht hT => ?_⟩
    refine ⟨_, t, D.ls.map (·.n), rfl, .inr (st_of hT), by rw [List.length_map]; omega, ok.gl, fun H9 e9 => ?_⟩
    have f9 : Ex H0 H9 := (f7.trans e8).trans e9
    have hx9 := e9 _ _ (e8 _ _ hx7)
    have hu9 := ex_t e9 (ex_t e8 hu7)
    have hq9 := ex_t e9 (ex_t e8 hq7)
    have hv9 := ex_t e9 (ex_t e8 hv7)
    have hM9 := dps_ex e9 (dps_ex e8 hM7)
    -- self.paths
    refine ⟨fun σ H' => σ = [some (.ref x), some (.ref wi), some (.ref pl), some (.ref li), some (.ref pa), none, none] ∧ ∃ y prs', Ex H0 H' ∧ LandAt K a.C H' x D dx u q v y made prs', ?_, ?_⟩
    · let Pw : Addr → Nat → Hp → Prop := fun D0 i H' => Ex H9 H' ∧ ∃ got, H' D0 = some (.lst got) ∧ got.length = i ∧ DpAll K H' got ((D.pa.take i).map dPath)
      have start : ∀ {D0 : Addr}, H9 D0 = none → Pw D0 0 (upd H9 D0 (.lst [])) := fun hD => ⟨Ex.new hD, [], upd_same, rfl, .nil⟩
      have lkP9 : (putF "links" (.ref v) (putF "places" (.ref q) (putF "winds" (.ref u) []))).lookup ("places" : Str) = some (V.ref q) := by
        rw [lookup_putF, if_neg (by decide +kernel), lookup_putF, if_pos rfl]
      have turn : ∀ {D0 : Addr} (i : Nat) (y : V) (H' : Hp) (σ : L2.St), H9 D0 = none → prs[i]? = some y → Pw D0 i H' → σ[6]? = some (some y) → σ[0]? = some (some (.ref x)) →
          tCall (sp__as_path K) [] E0 (tCons (tVar 6) (tCons (tFld K (tVar 0) "places") tNil)) σ H' fun y H4 => ∃ acc, H4 D0 = some (.lst acc) ∧ acc.length < sizeLine ∧ Pw D0 (i + 1) (upd H4 D0 (.lst (acc ++ [y]))) := by
        rintro D0 i y H' σ hD hy ⟨e, got, hm, hl, hd⟩ s6 s0
        obtain ⟨d, hd1, hd2⟩ := dps_at hAs hy
        have hil : i < prs.length := (List.getElem?_eq_some_iff.mp hy).1
        obtain ⟨b, hb⟩ : ∃ b, D.pa[i]? = some b := ⟨D.pa[i]'(by omega), List.getElem?_eq_getElem (by omega)⟩
        rw [List.getElem?_map, hb] at hd1
        obtain rfl : dPath b = d := Option.some.inj hd1
        refine ⟨y, s6, _, s0, x, a.C, dx, _, _, rfl, e _ _ hx9, T.cl, T.nP, lkP9, ?_⟩
        refine ⟨y, q, D.ps, b, rfl, dp_ex (f9.trans e) hd2, .inr (ex_t e hq9), ok.pt b (List.mem_of_getElem? hb), fun H8 t e8 ht hM => ⟨got, e8 _ _ hm, sz_lt (by omega), (e.trans e8).mut hD, _, upd_same, by rw [List.length_append, hl] <;> rfl, ?_⟩⟩
        rw [take_one hb, List.map_append]
        exact dps_app (dps_exT (exT_mut (e8 _ _ hm)) (dps_ex e8 hd) (frozen_paths _)) (dps_one (dp_exT (exT_mut (e8 _ _ hm)) hM (frozen_path _)))
      have fin : ∀ {D0 : Addr} {H' : Hp}, Pw D0 prs.length H' → ∃ got, H' D0 = some (.lst got) ∧ ∀ y, H' y = none → (upd H' y (.tup got)) x = some (.ins a.C dx (putF "links" (.ref v) (putF "places" (.ref q) (putF "winds" (.ref u) [])))) ∧
          ∃ y2 prs', Ex H0 (upd (upd H' y (.tup got)) x (.ins a.C dx (landFs u q v y))) ∧ LandAt K a.C (upd (upd H' y (.tup got)) x (.ins a.C dx (landFs u q v y))) x D dx u q v y2 made prs' := by
        rintro D0 H' ⟨e, got, hm, hl, hd⟩
        rw [la, List.take_length] at hd
        refine ⟨got, hm, fun y hy => ?_⟩
        have e2 : Ex H9 (upd H' y (.tup got)) := e.trans (Ex.new hy)
        have hx' := e2 _ _ hx9
        exact ⟨hx', y, got, (f9.trans e2).mut x0, upd_same, exT_t (ins_t hx') (ex_t e2 hu9), exT_t (ins_t hx') (ex_t e2 hq9), exT_t (ins_t hx') (ex_t e2 hv9), dps_exT (ins_t hx') (dps_ex e2 hM9) (frozen_links _), exT_t (ins_t hx') (st_of upd_same), dps_exT (ins_t hx') (dps_ex (Ex.new hy) hd) (frozen_paths _)⟩
      rcases hA.ex f9 with hA9 | hA9
      · refine .inl ⟨_, rfl, pa, rfl, ⟨_, hA9⟩, fun D0 hD => lcY_list (K := K) (a := pa) (xs := prs) (Pw D0) (start hD) (fun i H' _ p => ex_l p.1 hA9) (fun i y H' hi p => ⟨rfl, turn i y H' _ hD hi p rfl rfl⟩) (fun H' p => ?_)⟩
        obtain ⟨got, hm, z⟩ := fin p
        refine ⟨D0, got, rfl, .inl ⟨SqL.of hm, fun y hy => ?_⟩⟩
        obtain ⟨hx', z2⟩ := z y hy
        exact ⟨_, rfl, x, a.C, dx, _, rfl, hx', T.cl, T.nA, by show 3 < 1000; decide, rfl, z2⟩
      · refine .inr ⟨_, rfl, pa, rfl, ⟨_, hA9⟩, fun D0 hD => lcY_tup (K := K) (a := pa) (xs := prs) (Pw D0) (start hD) (fun i H' _ p => ex_t p.1 hA9) (fun i y H' hi p => ⟨rfl, turn i y H' _ hD hi p rfl rfl⟩) (fun H' p => ?_)⟩
        obtain ⟨got, hm, z⟩ := fin p
        refine ⟨D0, got, rfl, .inl ⟨SqL.of hm, fun y hy => ?_⟩⟩
        obtain ⟨hx', z2⟩ := z y hy
        exact ⟨_, rfl, x, a.C, dx, _, rfl, hx', T.cl, T.nA, by show 3 < 1000; decide, rfl, z2⟩
    rintro σ H10 ⟨rfl, y, prs', f10, L⟩
    refine ⟨_, rfl, x, a.C, dx, _, _, rfl, L.ob, T.cl, T.nA, fs_paths u q v y, y, prs', D.pa, rfl, L.pa, L.ps, ok.a60, ok.ap, fun H11 e11 => ?_⟩
    exact k H11 (f10.trans e11) (IsLand.ex e11 ⟨dx, u, q, v, y, made, prs', L⟩)
/-- which of __init__'s parameters a call names -/
theorem kb_wplp (T : Txt K mg a) : ∃ mv : List Value, KBn K a.d_init ["self", "winds", "places", "links", "paths"] 1 ["winds", "places", "links", "paths"] (fun us ws => us ++ (ws ++ mv)) (fun vs zs => vs ++ (zs ++ [])) :=
  T.F_init.kbinds0 (ps := ["self", "winds", "places", "links", "paths"]) 1 ["winds", "places", "links", "paths"] [] (fun us mv ws => us ++ (ws ++ mv)) (by simp) (fun q hq => by cases hq) (fun r1 r2 r3 => r1.append (r3.append r2))
    (fun D doc pm an cdv ct us mv ws h1 h2 h3 => match us, mv, ws, h1, h2, h3 with
      | [_], [], [_, _, _, _], _, _, _ => rfl)
theorem vals_take : ∀ {vs : List V} {us : List Value} (n : Nat), Vals vs us → Vals (vs.take n) (us.take n)
  | _, _, 0, _ => .nil
  | _, _, _ + 1, .nil => .nil
  | _, _, n + 1, .cons h r => .cons h (vals_take n r)
def turned {α : Type} (l : List α) : List α := (l.drop 2).take 1 ++ (l.take 1 ++ (l.drop 3 ++ (l.drop 1).take 1))
theorem kb_ppwl (T : Txt K mg a) : ∃ mv : List Value, KBn K a.d_init ["self", "winds", "places", "links", "paths"] 1 ["places", "paths", "winds", "links"] (fun us ws => us ++ (turned ws ++ mv)) (fun vs zs => vs ++ (turned zs ++ [])) :=
  T.F_init.kbinds0 (ps := ["self", "winds", "places", "links", "paths"]) 1 ["places", "paths", "winds", "links"] [] (fun us mv ws => us ++ (turned ws ++ mv)) (by simp) (fun q hq => by cases hq)
    (fun r1 r2 r3 => r1.append (((vals_take 1 (r3.drop 2)).append ((vals_take 1 r3).append ((r3.drop 3).append (vals_take 1 (r3.drop 1))))).append r2))
    (fun D doc pm an cdv ct us mv ws h1 h2 h3 => match us, mv, ws, h1, h2, h3 with
      | [_], [], [_, _, _, _], _, _, _ => rfl)
theorem kb_wp (T : Txt K mg a) : ∃ mv : List Value, KBn K a.d_init ["self", "winds", "places", "links", "paths"] 1 ["winds", "places"] (fun us ws => us ++ (ws ++ mv)) (fun vs zs => vs ++ (zs ++ [.ref a.tl, .ref a.te])) :=
  T.F_init.kbinds0 (ps := ["self", "winds", "places", "links", "paths"]) 1 ["winds", "places"] [("links", .ref a.tl), ("paths", .ref a.te)] (fun us mv ws => us ++ (ws ++ mv)) (by simp) (fun q hq => by simpa using hq) (fun r1 r2 r3 => r1.append (r3.append r2))
    (fun D doc pm an cdv ct us mv ws h1 h2 h3 => match us, mv, ws, h1, h2, h3 with
      | [_], [_, _], [_, _], _, _, _ => ⟨_, _, _, _, _, _, rfl, rfl, _, _, _, _, _, _, rfl, rfl, rfl⟩)
end
end EV

set_option Elab.async false
set_option linter.all false
set_option maxRecDepth 100000
set_option maxHeartbeats 4000000
namespace EV
open PySem PySem.Spec PyProof.Rows L2 EvS Evl
theorem num_in {ks : List Int} {i : Int} (h0 : 0 ≤ i) (h : i < ks.length) : ∃ n, n ∈ ks ∧ atI (ks.map V.int) i = some (.int n) ∧ n = ks.getD i.toNat 0 := by
  have hl : i.toNat < ks.length := by omega
  have e : ks[i.toNat]? = some ks[i.toNat] := List.getElem?_eq_getElem hl
  have z : atI (ks.map V.int) ((i.toNat : Nat) : Int) = some (.int ks[i.toNat]) := atI_nat (by rw [List.getElem?_map, e] <;> rfl)
  rw [show ((i.toNat : Nat) : Int) = i by omega] at z
  exact ⟨ks[i.toNat], List.getElem_mem hl, z, by rw [List.getD_eq_getElem?_getD, e] <;> rfl⟩
theorem at3 {α : Type} {x y z : α} {i : Int} (h0 : 0 ≤ i) (h : i < 3) : ∃ v, atI [x, y, z] i = some v ∧ (v = x ∨ v = y ∨ v = z) := by
  have c : i = 0 ∨ i = 1 ∨ i = 2 := by omega
  rcases c with rfl | rfl | rfl
  · exact ⟨x, atI_nat (j := 0) rfl, .inl rfl⟩
  · exact ⟨y, atI_nat (j := 1) rfl, .inr (.inl rfl)⟩
  · exact ⟨z, atI_nat (j := 2) rfl, .inr (.inr rfl)⟩
theorem at4 {α : Type} {x y z u : α} {i : Int} (h0 : 0 ≤ i) (h : i < 4) : ∃ v, atI [x, y, z, u] i = some v ∧ (v = x ∨ v = y ∨ v = z ∨ v = u) := by
  have c : i = 0 ∨ i = 1 ∨ i = 2 ∨ i = 3 := by omega
  rcases c with rfl | rfl | rfl | rfl
  · exact ⟨x, atI_nat (j := 0) rfl, .inl rfl⟩
  · exact ⟨y, atI_nat (j := 1) rfl, .inr (.inl rfl)⟩
  · exact ⟨z, atI_nat (j := 2) rfl, .inr (.inr (.inl rfl))⟩
  · exact ⟨u, atI_nat (j := 3) rfl, .inr (.inr (.inr rfl))⟩
/-- the drawn numbers -/
structure Nums (K : PySem.W.Frag) (H : Hp) (p : Addr) (ks : List Int) : Prop where
  at_ : SqL K H p (ks.map V.int)
  sm : Small ks
  lo : 190 ≤ ks.length
  hi : ks.length ≤ 1000
theorem Nums.ex {K : PySem.W.Frag} {H H' : Hp} {p : Addr} {ks : List Int} (e : Ex H H') (h : Nums K H p ks) : Nums K H' p ks := ⟨ex_l e h.at_, h.sm, h.lo, h.hi⟩
def sp__law_pick (K : PySem.W.Frag) : Sp := fun vs H Q _ => ∃ (p : Addr) (ks : List Int) (k : Int), vs = [.ref p, .int k] ∧ Nums K H p ks ∧ 0 ≤ k ∧ ∀ v, 0 ≤ v → Q (.int v) H
def sp__law_count : Sp := fun vs H Q _ => ∃ n lo hi : Int, vs = [.int n, .int lo, .int hi] ∧ lo ≤ hi ∧ ∀ v, lo ≤ v → v ≤ hi → Q (.int v) H
def sp__law_times (K : PySem.W.Frag) : Sp := fun vs H Q _ => ∃ (p : Addr) (ks : List Int) (k m : Int), vs = [.ref p, .int k, .int m] ∧ Nums K H p ks ∧ 0 ≤ k ∧ 0 ≤ m ∧ m ≤ 1000 ∧
  ∀ H' u us (ts : List (Option (Int × Int))), Ex H H' → H u = none → H' u = some (.lst us) → DpAll K H' us (ts.map dTime) → (ts.length : Int) = m → (∀ b ∈ ts, TimeOk b) → Q (.ref u) H'
section
variable {P : Program} {w : World} {K : PySem.W.Frag} {mg : Str → Option Value} {base : Heap} {a : Ad}
end
end EV

set_option Elab.async false
set_option linter.all false
set_option maxRecDepth 100000
set_option maxHeartbeats 4000000
namespace EV
open PySem PySem.Spec PyProof.Rows L2 EvS Evl
/-! ### names as the law makes them -/
def CH : List Nat := ("abcdefghijklmnopqrstuvwxyz0123456789" : Str).cps.toList
def chAt (i : Int) : Nat := CH.getD i.toNat 0
theorem ch_len : CH.length = 36 := by decide +kernel
theorem ch_slen : ("abcdefghijklmnopqrstuvwxyz0123456789" : Str).length = 36 := by decide +kernel
theorem ch_get {i : Int} (h0 : 0 ≤ i) (h : i < 36) : atI CH i = some (chAt i) := by
  have hl : i.toNat < CH.length := by rw [ch_len]; omega
  have z := atI_nat (xs := CH) (j := i.toNat) (List.getElem?_eq_getElem hl)
  rw [show ((i.toNat : Nat) : Int) = i by omega] at z
  rw [z]
  unfold chAt
  rw [List.getD_eq_getElem?_getD, List.getElem?_eq_getElem hl]
  rfl
theorem ch_all : ∀ i, i < 36 → okSign (CH.getD i 0) = true := by decide +kernel
theorem ch_let : ∀ i, i < 26 → decide (CH.getD i 0 ∈ LETS) = true := by decide +kernel
theorem ch_inj : ∀ i, i < 36 → ∀ j, j < 36 → CH.getD i 0 = CH.getD j 0 → i = j := by decide +kernel
theorem chAt_ok {i : Int} (h0 : 0 ≤ i) (h : i < 36) : okSign (chAt i) = true := ch_all i.toNat (by omega)
theorem chAt_let {i : Int} (h0 : 0 ≤ i) (h : i < 26) : chAt i ∈ LETS := of_decide_eq_true (ch_let i.toNat (by omega))
theorem chAt_inj {i j : Int} (h0 : 0 ≤ i) (h : i < 36) (k0 : 0 ≤ j) (k : j < 36) (e : chAt i = chAt j) : i = j := by
  have := ch_inj i.toNat (by omega) j.toNat (by omega) e
  omega
theorem m36 (x : Int) : 0 ≤ x % 36 ∧ x % 36 < 36 := ⟨Int.emod_nonneg _ (by decide), Int.emod_lt_of_pos _ (by decide)⟩
def bas (ks : List Int) (at_ : Nat) : Nat := if ks.getD 1 0 % 5 = 1 then 2 else at_
def preN (ks : List Int) (b n : Nat) : List Nat := chAt (ks.getD b 0 % 26) :: (List.range n).map fun (k : Nat) => chAt ((ks.getD (b + 2) 0 + (k : Int) * ks.getD (b + 3) 0) % 36)
def pre (ks : List Int) (b : Nat) : List Nat := preN ks b (ks.getD (b + 1) 0 % 10).toNat
def plc (ks : List Int) (b : Nat) : Nat := (1 + (ks.getD (b + 4) 0).fmod (((pre ks b).length : Nat) : Int)).toNat
def tailN (k : Nat) : List Nat := if 36 ≤ k then [113] else []
def codes (ks : List Int) (b k : Nat) : List Nat := (pre ks b).take (plc ks b) ++ ([chAt ((ks.getD (b + 5) 0 + 5 * (k : Int)) % 36)] ++ (tailN k ++ (pre ks b).drop (plc ks b)))
def nameOf (ks : List Int) (at_ k : Nat) : Str := ⟨(codes ks (bas ks at_) k).toArray⟩
def names (ks : List Int) (at_ m : Nat) : List Str := (List.range m).map (nameOf ks at_)
theorem pre_len (ks : List Int) (b : Nat) : 1 ≤ (pre ks b).length ∧ (pre ks b).length ≤ 10 := by
  unfold pre preN
  rw [List.length_cons, List.length_map, List.length_range]
  have := Int.emod_nonneg (ks.getD (b + 1) 0) (show (10 : Int) ≠ 0 by decide)
  have := Int.emod_lt_of_pos (ks.getD (b + 1) 0) (show (0 : Int) < 10 by decide)
  omega
theorem plc_le (ks : List Int) (b : Nat) : 1 ≤ plc ks b ∧ plc ks b ≤ (pre ks b).length := by
  have h := pre_len ks b
  have p : (0 : Int) < (((pre ks b).length : Nat) : Int) := by omega
  have := Int.fmod_nonneg_of_pos (ks.getD (b + 4) 0) p
  have := Int.fmod_lt_of_pos (ks.getD (b + 4) 0) p
  unfold plc
  omega
theorem pre_ok (ks : List Int) (b : Nat) : ∀ c ∈ pre ks b, okSign c = true := by
  intro c hc
  unfold pre preN at hc
  rcases List.mem_cons.mp hc with e | hc
  · rw [e]
    have := Int.emod_lt_of_pos (ks.getD b 0) (show (0 : Int) < 26 by decide)
    exact chAt_ok (Int.emod_nonneg _ (by decide)) (by omega)
  · obtain ⟨k, _, rfl⟩ := List.mem_map.mp hc
    exact chAt_ok (m36 _).1 (m36 _).2
theorem tail_len (k : Nat) : (tailN k).length = if 36 ≤ k then 1 else 0 := by
  unfold tailN
  split <;> rfl
theorem codes_len (ks : List Int) (b k : Nat) : (codes ks b k).length = (pre ks b).length + 1 + if 36 ≤ k then 1 else 0 := by
  have h := plc_le ks b
  unfold codes
  rw [List.length_append, List.length_append, List.length_append, List.length_take, List.length_drop, tail_len, List.length_singleton]
  omega
theorem name_ok (ks : List Int) (at_ k : Nat) : isName (nameOf ks at_ k) = true := by
  have hl := codes_len ks (bas ks at_) k
  have hp := pre_len ks (bas ks at_)
  have hq := plc_le ks (bas ks at_)
  have len : (nameOf ks at_ k).length = (codes ks (bas ks at_) k).length := by
    show (codes ks (bas ks at_) k).toArray.size = _
    rw [List.size_toArray]
  have lst : (nameOf ks at_ k).cps.toList = codes ks (bas ks at_) k := rfl
  unfold isName
  rw [lst, len, Bool.and_eq_true, Bool.and_eq_true]
  refine ⟨⟨decide_eq_true ⟨by omega, by rw [hl]; split <;> omega⟩, ?_⟩, ?_⟩
  · obtain ⟨m, hm⟩ : ∃ m, plc ks (bas ks at_) = m + 1 := ⟨plc ks (bas ks at_) - 1, by omega⟩
    have e : (codes ks (bas ks at_) k).head? = some (chAt (ks.getD (bas ks at_) 0 % 26)) := by
      unfold codes
      rw [hm]
      unfold pre preN
      rfl
    rw [e]
    exact decide_eq_true (chAt_let (Int.emod_nonneg _ (by decide)) (Int.emod_lt_of_pos _ (by decide)))
  · rw [List.all_eq_true]
    intro c hc
    unfold codes at hc
    rcases List.mem_append.mp hc with z | z
    · exact pre_ok _ _ c (List.mem_of_mem_take z)
    rcases List.mem_append.mp z with z | z
    · rw [List.mem_singleton.mp z]
      exact chAt_ok (m36 _).1 (m36 _).2
    rcases List.mem_append.mp z with z | z
    · unfold tailN at z
      split at z
      · rw [List.mem_singleton.mp z]
        decide +kernel
      · cases z
    · exact pre_ok _ _ c (List.mem_of_mem_drop z)
theorem name_inj (ks : List Int) (at_ : Nat) {i j : Nat} (hi : i < 72) (hj : j < 72) (e : nameOf ks at_ i = nameOf ks at_ j) : i = j := by
  have ec : codes ks (bas ks at_) i = codes ks (bas ks at_) j := by
    have z := congrArg (fun s : Str => s.cps.toList) e
    exact z
  have hl := congrArg List.length ec
  rw [codes_len, codes_len] at hl
  have hb : (36 ≤ i) ↔ (36 ≤ j) := by
    constructor
    · intro h
      rw [if_pos h] at hl
      by_cases q : 36 ≤ j
      · exact q
      · rw [if_neg q] at hl
        omega
    · intro h
      rw [if_pos h] at hl
      by_cases q : 36 ≤ i
      · exact q
      · rw [if_neg q] at hl
        omega
  have ht := plc_le ks (bas ks at_)
  have lt : ((pre ks (bas ks at_)).take (plc ks (bas ks at_))).length = plc ks (bas ks at_) := by
    rw [List.length_take]
    omega
  have gi : ∀ k, (codes ks (bas ks at_) k)[plc ks (bas ks at_)]? = some (chAt ((ks.getD (bas ks at_ + 5) 0 + 5 * (k : Int)) % 36)) := fun k => by
    unfold codes
    rw [List.getElem?_append_right (by omega), lt, Nat.sub_self]
    rfl
  have z := gi i
  rw [ec, gi j] at z
  have y := chAt_inj (m36 _).1 (m36 _).2 (m36 _).1 (m36 _).2 (Option.some.inj z)
  omega
theorem names_good (ks : List Int) (at_ : Nat) {m : Nat} (h : m ≤ 72) : Good (names ks at_ m) := by
  refine ⟨fun n hn => ?_, ?_⟩
  · obtain ⟨k, _, rfl⟩ := List.mem_map.mp hn
    exact name_ok ks at_ k
  · unfold names
    refine List.pairwise_map.mpr (List.Pairwise.imp_of_mem (fun ha hb ne e => ?_) (List.nodup_range (n := m)))
    have h1 := List.mem_range.mp ha
    have h2 := List.mem_range.mp hb
    exact ne (name_inj ks at_ (by omega) (by omega) e)
theorem names_len (ks : List Int) (at_ m : Nat) : (names ks at_ m).length = m := by
  unfold names
  rw [List.length_map, List.length_range]
theorem names_more (ks : List Int) (at_ m : Nat) : names ks at_ (m + 1) = names ks at_ m ++ [nameOf ks at_ m] := by
  unfold names
  rw [List.range_succ, List.map_append]
  rfl
/-! texts by their codes -/
abbrev tx (l : List Nat) : Str := ⟨l.toArray⟩
theorem tx_add (l m : List Nat) : tx l ++ tx m = tx (l ++ m) := Str.ext' (by rw [Str.cps_append]; simp)
theorem tx_one (c : Nat) : (⟨#[c]⟩ : Str) = tx [c] := rfl
theorem tx_len (l : List Nat) : (tx l).length = l.length := by
  show l.toArray.size = _
  rw [List.size_toArray]
theorem tx_to (l : List Nat) (n : Nat) : cutS (tx l) none (some (n : Int)) = tx (l.take n) := by
  have e : (tx l).cps.toList = l := rfl
  unfold cutS
  rw [HT.sIx_nat, HT.sIx_none, e, tx_len, List.drop_zero, Nat.sub_zero]
  rcases Nat.le_total n l.length with h | h
  · rw [Nat.min_eq_left h]
  · rw [Nat.min_eq_right h, List.take_length, List.take_of_length_le h]
theorem tx_from (l : List Nat) (n : Nat) : cutS (tx l) (some (n : Int)) none = tx (l.drop n) := by
  have e : (tx l).cps.toList = l := rfl
  unfold cutS
  rw [HT.sIx_nat, HT.sIx_none, e, tx_len]
  rcases Nat.le_total n l.length with h | h
  · rw [Nat.min_eq_left h, List.take_of_length_le (by rw [List.length_drop]; exact Nat.le_refl _)]
  · rw [Nat.min_eq_right h, List.drop_length, List.drop_eq_nil_of_le h, List.take_nil]
theorem one_len (c : Nat) : (⟨#[c]⟩ : Str).length = 1 := rfl
def sp__law_names (K : PySem.W.Frag) : Sp := fun vs H Q _ => ∃ (p : Addr) (ks : List Int) (at_ m : Nat), vs = [.ref p, .int (at_ : Int), .int (m : Int)] ∧ Nums K H p ks ∧ 2 ≤ at_ ∧ at_ ≤ 100 ∧ m ≤ 72 ∧
  ∀ H' q, Ex H H' → H q = none → H' q = some (.lst ((names ks at_ m).map V.str)) → Q (.ref q) H'
section
variable {P : Program} {w : World} {K : PySem.W.Frag} {mg : Str → Option Value} {base : Heap} {a : Ad}
end
end EV

set_option Elab.async false
set_option linter.all false
set_option maxRecDepth 100000
set_option maxHeartbeats 4000000
namespace EV
open PySem PySem.Spec PyProof.Rows L2 EvS Evl
/-! ### a heap without one place -/
def del (H : Hp) (D : Addr) : Hp := fun a => if a = D then none else H a
theorem del_upd {H : Hp} {D : Addr} {o : HO} : del (upd H D o) D = del H D := by
  funext a
  unfold del
  by_cases h : a = D
  · rw [if_pos h, if_pos h]
  · rw [if_neg h, if_neg h, upd_ne h]
theorem del_ex {H : Hp} {D : Addr} : Ex (del H D) H := fun a o h => by
  unfold del at h
  split at h
  · cases h
  · exact h
theorem ex_del {H H' : Hp} {D : Addr} (e : Ex H H') : Ex (del H D) (del H' D) := fun a o h => by
  unfold del at h ⊢
  split at h
  · cases h
  · rename_i n
    rw [if_neg n]
    exact e _ _ h
theorem ex_to_del {H H' : Hp} {D : Addr} (e : Ex H H') (h : H D = none) : Ex H (del H' D) := fun a o q => by
  unfold del
  rw [if_neg (ne_of_none q h)]
  exact e _ _ q
theorem del_at {H : Hp} {D a : Addr} {o : HO} (n : a ≠ D) (h : H a = some o) : del H D a = some o := by
  unfold del
  rw [if_neg n]
  exact h
theorem dps_drop {K : PySem.W.Frag} {H : Hp} : ∀ {vs : List V} {ds : List PyData} (n : Nat), DpAll K H vs ds → DpAll K H (vs.drop n) (ds.drop n)
  | _, _, 0, h => h
  | _, _, _ + 1, .nil => .nil
  | _, _, n + 1, .cons _ r => dps_drop n r
theorem dps_take {K : PySem.W.Frag} {H : Hp} : ∀ {vs : List V} {ds : List PyData} (n : Nat), DpAll K H vs ds → DpAll K H (vs.take n) (ds.take n)
  | _, _, 0, _ => .nil
  | _, _, _ + 1, .nil => .nil
  | _, _, n + 1, .cons h r => .cons h (dps_take n r)
theorem cut_from (xs : List V) (n : Nat) : cutV xs (some (n : Int)) none = xs.drop n := by
  unfold cutV
  rw [HT.sIx_nat, HT.sIx_none]
  rcases Nat.le_total n xs.length with h | h
  · rw [Nat.min_eq_left h, List.take_of_length_le (by rw [List.length_drop]; exact Nat.le_refl _)]
  · rw [Nat.min_eq_right h, List.drop_length, List.drop_eq_nil_of_le h, List.take_nil]
theorem cut_to (xs : List V) (n : Nat) : cutV xs none (some (n : Int)) = xs.take n := by
  unfold cutV
  rw [HT.sIx_nat, HT.sIx_none, List.drop_zero, Nat.sub_zero]
  rcases Nat.le_total n xs.length with h | h
  · rw [Nat.min_eq_left h]
  · rw [Nat.min_eq_right h, List.take_length, List.take_of_length_le h]
/-! ### pairs of places, by their numbers -/
def dIdx (ps : List Str) (q : Nat × Nat) : PyData := .tuple [.str (ps.getD q.1 ""), .str (ps.getD q.2 "")]
theorem getD_in {ps : List Str} {i : Nat} (h : i < ps.length) : ps.getD i "" ∈ ps ∧ ps[i]? = some (ps.getD i "") := by
  rw [List.getD_eq_getElem?_getD, List.getElem?_eq_getElem h]
  exact ⟨List.getElem_mem h, rfl⟩
theorem getD_inj {ps : List Str} (nd : ps.Nodup) {i j : Nat} (hi : i < ps.length) (hj : j < ps.length) (e : ps.getD i "" = ps.getD j "") : i = j := by
  rw [List.getD_eq_getElem?_getD, List.getElem?_eq_getElem hi, List.getD_eq_getElem?_getD, List.getElem?_eq_getElem hj] at e
  rcases Nat.lt_trichotomy i j with h | h | h
  · exact absurd e (List.pairwise_iff_getElem.mp nd i j hi hj h)
  · exact h
  · exact absurd e.symm (List.pairwise_iff_getElem.mp nd j i hj hi h)
theorem idx_ne {ps : List Str} (nd : ps.Nodup) {q r : Nat × Nat} (hq : q.1 < q.2 ∧ q.2 < ps.length) (hr : r.1 < r.2 ∧ r.2 < ps.length) (ne : q ≠ r) : ¬ [ps.getD q.1 "", ps.getD q.2 ""].Perm [ps.getD r.1 "", ps.getD r.2 ""] := fun p => by
  have inj := fun {i j : Nat} (hi : i < ps.length) (hj : j < ps.length) e => getD_inj nd hi hj e
  have h1 : q.1 = r.1 ∨ q.1 = r.2 := by
    have z := p.mem_iff.mp (List.mem_cons_self : ps.getD q.1 "" ∈ _)
    rcases List.mem_cons.mp z with z | z
    · exact .inl (inj (by omega) (by omega) z)
    · exact .inr (inj (by omega) (by omega) (List.mem_singleton.mp z))
  have h2 : q.2 = r.1 ∨ q.2 = r.2 := by
    have z := p.mem_iff.mp (List.mem_cons_of_mem _ (List.mem_singleton.mpr rfl) : ps.getD q.2 "" ∈ [ps.getD q.1 "", ps.getD q.2 ""])
    rcases List.mem_cons.mp z with z | z
    · exact .inl (inj (by omega) (by omega) z)
    · exact .inr (inj (by omega) (by omega) (List.mem_singleton.mp z))
  refine ne (Prod.ext ?_ ?_) <;> omega
theorem idx_apart {ps : List Str} (nd : ps.Nodup) {I : List (Nat × Nat)} : ∀ {pa : List (Str × Str × Int)}, I.Nodup → (∀ q ∈ I, q.1 < q.2 ∧ q.2 < ps.length) → All2 (fun (x : Str × Str × Int) (q : Nat × Nat) => [x.1, x.2.1].Perm [ps.getD q.1 "", ps.getD q.2 ""] ∧ 1 ≤ x.2.2 ∧ x.2.2 ≤ 1000) pa I → (pa.map fun p => (p.1, p.2.1)).Pairwise Apart ∧ ∀ p ∈ pa, PathOk ps p := by
  induction I with
  | nil =>
    intro pa _ _ h
    cases h
    exact ⟨List.Pairwise.nil, fun p hp => by cases hp⟩
  | cons q I ih =>
    intro pa hn hI h
    cases h with
    | @cons x _ xs _ hx r =>
      rw [List.nodup_cons] at hn
      obtain ⟨h1, h2⟩ := ih hn.2 (fun q hq => hI q (List.mem_cons_of_mem _ hq)) r
      have hq := hI q List.mem_cons_self
      refine ⟨?_, fun p hp => ?_⟩
      · rw [List.map_cons, List.pairwise_cons]
        refine ⟨fun y hy pm => ?_, h1⟩
        obtain ⟨z, hz, rfl⟩ := List.mem_map.mp hy
        obtain ⟨i, hi, ei⟩ := List.getElem_of_mem hz
        obtain ⟨r2, hr2, p2⟩ := r.at i (show xs[i]? = some z by rw [List.getElem?_eq_getElem hi, ei])
        have hm := List.mem_of_getElem? hr2
        exact idx_ne nd hq (hI r2 (List.mem_cons_of_mem _ hm)) (fun e => hn.1 (e ▸ hm)) (hx.1.symm.trans (pm.trans p2.1))
      · rcases List.mem_cons.mp hp with rfl | hp
        · have g1 := (getD_in (ps := ps) (i := q.1) (by omega)).1
          have g2 := (getD_in (ps := ps) (i := q.2) (by omega)).1
          have m1 := hx.1.mem_iff.mp (List.mem_cons_self : p.1 ∈ _)
          have m2 := hx.1.mem_iff.mp (List.mem_cons_of_mem _ (List.mem_singleton.mpr rfl) : p.2.1 ∈ [p.1, p.2.1])
          refine ⟨?_, ?_, fun e => ?_, hx.2.1, hx.2.2⟩
          · rcases List.mem_cons.mp m1 with z | z
            · rw [z]; exact g1
            · rw [List.mem_singleton.mp z]; exact g2
          · rcases List.mem_cons.mp m2 with z | z
            · rw [z]; exact g1
            · rw [List.mem_singleton.mp z]; exact g2
          · have z1 := hx.1.symm.mem_iff.mp (List.mem_cons_self : ps.getD q.1 "" ∈ _)
            have z2 := hx.1.symm.mem_iff.mp (List.mem_cons_of_mem _ (List.mem_singleton.mpr rfl) : ps.getD q.2 "" ∈ [ps.getD q.1 "", ps.getD q.2 ""])
            rw [← e] at z1 z2
            have w1 : ps.getD q.1 "" = p.1 := by simpa using z1
            have w2 : ps.getD q.2 "" = p.1 := by simpa using z2
            have := getD_inj nd (by omega) (by omega) (w1.trans w2.symm)
            omega
        · exact h2 p hp
def sp__law_paths (K : PySem.W.Frag) : Sp := fun vs H Q _ => ∃ (p pl : Addr) (ks : List Int) (ps : List Str) (k m : Int), vs = [.ref p, .int k, .ref pl, .int m] ∧ Nums K H p ks ∧ SqL K H pl (ps.map V.str) ∧ Good ps ∧ ps.length ≤ 24 ∧ 0 ≤ k ∧ 0 ≤ m ∧ m ≤ 60 ∧
  ∀ H' q (pa : List (Str × Str × Int)), Ex H H' → H q = none → Dp K H' (.ref q) (.list (pa.map dPath)) → pa.length ≤ 60 → (∀ p ∈ pa, PathOk ps p) → (pa.map fun p => (p.1, p.2.1)).Pairwise Apart → Q (.ref q) H'
section
variable {P : Program} {w : World} {K : PySem.W.Frag} {mg : Str → Option Value} {base : Heap} {a : Ad}
end
end EV

set_option Elab.async false
set_option linter.all false
set_option maxRecDepth 100000
set_option maxHeartbeats 4000000
namespace EV
open PySem PySem.Spec PyProof.Rows L2 EvS Evl
theorem other_ne {o y L : Int} (o0 : 0 ≤ o) (oL : o < L) (y0 : 0 ≤ y) (yL : y < L - 1) : 0 ≤ (o + 1 + y).fmod L ∧ (o + 1 + y).fmod L < L ∧ (o + 1 + y).fmod L ≠ o := by
  rw [Int.fmod_eq_emod_of_nonneg _ (by omega)]
  rcases Int.lt_or_le (o + 1 + y) L with h | h
  · rw [Int.emod_eq_of_lt (by omega) h]
    omega
  · have e : o + 1 + y = (o + 1 + y - L) + L := by omega
    rw [e, Int.add_emod_right, Int.emod_eq_of_lt (by omega) (by omega)]
    omega
def sp__law_parts (K : PySem.W.Frag) : Sp := fun vs H Q _ => ∃ (p : Addr) (ks : List Int), vs = [.ref p] ∧ Nums K H p ks ∧ ∀ H' q D, Ex H H' → H q = none → Dp K H' (.ref q) (dParts D) → LandOk D → Q (.ref q) H'
section
variable {P : Program} {w : World} {K : PySem.W.Frag} {mg : Str → Option Value} {base : Heap} {a : Ad}
end
end EV

set_option Elab.async false
set_option linter.all false
set_option maxRecDepth 100000
set_option maxHeartbeats 4000000
namespace EV
open PySem PySem.Spec PyProof.Rows L2 EvS Evl
/-! ### data that may be compared -/
theorem sign_small : ∀ c ∈ LETS ++ DIGS, c < 1114112 := by decide +kernel
theorem name_strOk {z : Str} (h : isName z = true) : PyData.strOk z = true := by
  unfold isName at h
  rw [Bool.and_eq_true] at h
  unfold PyData.strOk
  rw [Array.all_eq_true_iff_forall_mem]
  intro c hc
  have q := List.all_eq_true.mp h.2 c (Array.mem_toList_iff.mpr hc)
  unfold okSign at q
  rw [Bool.or_eq_true] at q
  refine decide_eq_true (sign_small c ?_)
  rcases q with q | q
  · exact List.mem_append_left _ (of_decide_eq_true q)
  · exact List.mem_append_right _ (of_decide_eq_true q)
theorem lay_of : ∀ {ds : List PyData}, (∀ d ∈ ds, PyData.canLay0 d = true) → PyData.canLayAll0 ds = true
  | [], _ => by simp [PyData.canLayAll0]
  | d :: ds, h => by
    rw [PyData.canLayAll0, h d List.mem_cons_self, lay_of fun x hx => h x (List.mem_cons_of_mem _ hx)]
    rfl
theorem deep_of {n : Nat} : ∀ {ds : List PyData}, (∀ d ∈ ds, PyData.depth d ≤ n) → PyData.depthAll ds ≤ n
  | [], _ => by simp [PyData.depthAll]
  | d :: ds, h => by
    have h1 := h d List.mem_cons_self
    have h2 := deep_of (n := n) (ds := ds) fun x hx => h x (List.mem_cons_of_mem _ hx)
    simp only [PyData.depthAll]
    omega
/-- small data: fit to be laid, and not deep -/
def Sh (n : Nat) (d : PyData) : Prop := PyData.canLay0 d = true ∧ PyData.depth d ≤ n
theorem sh_str {z : Str} {n : Nat} (h : isName z = true) : Sh (n + 1) (.str z) := ⟨by simp only [PyData.canLay0]; exact name_strOk h, by simp only [PyData.depth]; omega⟩
theorem sh_tup {n : Nat} {ds : List PyData} (h : ∀ d ∈ ds, Sh n d) : Sh (n + 1) (.tuple ds) := by
  have := deep_of (n := n) fun d hd => (h d hd).2
  exact ⟨by simp only [PyData.canLay0]; exact lay_of fun d hd => (h d hd).1, by simp only [PyData.depth]; omega⟩
theorem sh_lst {n : Nat} {ds : List PyData} (h : ∀ d ∈ ds, Sh n d) : Sh (n + 1) (.list ds) := by
  have := deep_of (n := n) fun d hd => (h d hd).2
  exact ⟨by simp only [PyData.canLay0]; exact lay_of fun d hd => (h d hd).1, by simp only [PyData.depth]; omega⟩
theorem sh_int (i : Int) (n : Nat) : Sh (n + 1) (.int i) := ⟨by simp only [PyData.canLay0], by simp only [PyData.depth]; omega⟩
theorem sh_up {n m : Nat} {d : PyData} (h : n ≤ m) (q : Sh n d) : Sh m d := ⟨q.1, Nat.le_trans q.2 h⟩
theorem sh_shaped {n : Nat} {d : PyData} (h : Sh n d) (hn : n ≤ 64) : SeqAt.shaped d = true := by
  show (PyData.canLay0 d && decide (PyData.depth d ≤ 64)) = true
  rw [Bool.and_eq_true]
  exact ⟨h.1, decide_eq_true (Nat.le_trans h.2 hn)⟩
theorem sh_time (b : Option (Int × Int)) : Sh 3 (dTime b) := by
  cases b with
  | none => exact ⟨by simp [dTime, PyData.canLay0], by simp [dTime, PyData.depth]⟩
  | some b =>
    refine sh_tup (n := 2) fun d hd => ?_
    rcases List.mem_cons.mp hd with rfl | hd
    · exact sh_int _ _
    · rw [List.mem_singleton.mp hd]
      exact sh_int _ _
theorem sh_strs {ns : List Str} (h : ∀ n ∈ ns, isName n = true) : Sh 6 (.tuple (ns.map .str)) := sh_tup (n := 5) fun d hd => by
  obtain ⟨n, hn, rfl⟩ := List.mem_map.mp hd
  exact sh_str (h n hn)
theorem mem4 {α : Type} {x a b c d : α} (h : x ∈ [a, b, c, d]) : x = a ∨ x = b ∨ x = c ∨ x = d := by simpa using h
theorem sh_link {D : LandD} (ok : LandOk D) {k : Link} (hk : k ∈ D.ls) : Sh 5 (dLink k) := by
  have l := ok.lk k hk
  refine sh_tup (n := 4) fun d hd => ?_
  rcases mem4 hd with rfl | rfl | rfl | rfl
  · exact sh_str (ok.gl.1 _ (List.mem_map.mpr ⟨k, hk, rfl⟩))
  · exact sh_str (ok.gp.1 _ l.o)
  · exact sh_str (ok.gp.1 _ l.t)
  · refine sh_tup (n := 3) fun d hd => ?_
    obtain ⟨b, _, rfl⟩ := List.mem_map.mp hd
    exact sh_time b
theorem sh_path {D : LandD} (ok : LandOk D) {p : Str × Str × Int} (hp : p ∈ D.pa) : Sh 5 (dPath p) := by
  have l := ok.pt p hp
  refine sh_tup (n := 4) fun d hd => ?_
  have q : d = .str p.1 ∨ d = .str p.2.1 ∨ d = .int p.2.2 := by simpa using hd
  rcases q with rfl | rfl | rfl
  · exact sh_str (ok.gp.1 _ l.o)
  · exact sh_str (ok.gp.1 _ l.t)
  · exact sh_int _ _
theorem sh_land {D : LandD} (ok : LandOk D) : Sh 7 (dLand D) := by
  refine sh_tup (n := 6) fun d hd => ?_
  rcases mem4 hd with rfl | rfl | rfl | rfl
  · exact sh_strs ok.gw.1
  · exact sh_strs ok.gp.1
  · refine sh_tup (n := 5) fun d hd => ?_
    obtain ⟨b, hb, rfl⟩ := List.mem_map.mp hd
    exact sh_link ok hb
  · refine sh_tup (n := 5) fun d hd => ?_
    obtain ⟨b, hb, rfl⟩ := List.mem_map.mp hd
    exact sh_path ok hb
theorem shaped_land {D : LandD} (ok : LandOk D) : SeqAt.shaped (dLand D) = true := sh_shaped (sh_land ok) (by decide)
theorem eqv_self {d : PyData} (h : SeqAt.shaped d = true) : PyData.eqv d d = true := SeqAt.eqv_refl _ (SeqAt.canLay_of_shaped h)
/-! ### the parts of a list of parts -/
structure PartsAt (K : PySem.W.Frag) (H : Hp) (p : Addr) (D : LandD) (wi pl li pa : Addr) (rows prs : List V) : Prop where
  ob : SqL K H p [.ref wi, .ref pl, .ref li, .ref pa]
  wi : SqL K H wi (D.ws.map V.str)
  pl : SqL K H pl (D.ps.map V.str)
  li : SqL K H li rows
  ls : DpAll K H rows (D.ls.map dRaw)
  pa : SqL K H pa prs
  ps : DpAll K H prs (D.pa.map dPath)
theorem PartsAt.ex {K : PySem.W.Frag} {H H' : Hp} {p : Addr} {D : LandD} {wi pl li pa : Addr} {rows prs : List V} (e : Ex H H') (h : PartsAt K H p D wi pl li pa rows prs) : PartsAt K H' p D wi pl li pa rows prs :=
  ⟨ex_l e h.ob, ex_l e h.wi, ex_l e h.pl, ex_l e h.li, dps_ex e h.ls, ex_l e h.pa, dps_ex e h.ps⟩
theorem parts_in {K : PySem.W.Frag} {H : Hp} {p : Addr} {D : LandD} (h : Dp K H (.ref p) (dParts D)) : ∃ wi pl li pa rows prs, PartsAt K H p D wi pl li pa rows prs := by
  unfold dParts at h
  cases h with
  | lst hs hr =>
    cases hr with
    | cons a1 hr =>
      cases a1 with
      | lst s1 d1 =>
        cases hr with
        | cons a2 hr =>
          cases a2 with
          | lst s2 d2 =>
            cases hr with
            | cons a3 hr =>
              cases a3 with
              | lst s3 d3 =>
                cases hr with
                | cons a4 hr =>
                  cases a4 with
                  | lst s4 d4 =>
                    cases hr
                    rw [dps_strs d1] at s1
                    rw [dps_strs d2] at s2
                    exact ⟨_, _, _, _, _, _, hs, s1, s2, s3, d3, s4, d4⟩
def sp__law_made (K : PySem.W.Frag) (C : Addr) : Sp := fun vs H Q _ => ∃ (p : Addr) (D : LandD), vs = [.ref p] ∧ Dp K H (.ref p) (dParts D) ∧ LandOk D ∧ ∀ H' x, Ex H H' → H x = none → IsLand K C H' x D → Q (.ref x) H'
def sp__law_frozen (K : PySem.W.Frag) : Sp := fun vs H Q _ => ∃ (p : Addr) (D : LandD), vs = [.ref p] ∧ Dp K H (.ref p) (dParts D) ∧ LandOk D ∧ ∀ H' q, Ex H H' → H q = none → Dp K H' (.ref q) (dLand D) → Q (.ref q) H'
def sp__law_same (K : PySem.W.Frag) (C : Addr) : Sp := fun vs H Q _ => ∃ (x d : Addr) (D : LandD), vs = [.ref x, .ref d] ∧ IsLand K C H x D ∧ Dp K H (.ref d) (dLand D) ∧ LandOk D ∧ ∀ H', Ex H H' → Q (.bl true) H'
section
variable {P : Program} {w : World} {K : PySem.W.Frag} {mg : Str → Option Value} {base : Heap} {a : Ad}
end
end EV

set_option Elab.async false
set_option linter.all false
set_option maxRecDepth 100000
set_option maxHeartbeats 4000000
namespace EV
open PySem PySem.Spec PyProof.Rows L2 EvS Evl
/-! ### names as the law makes them from one number -/
def sizeN (n : Int) : Nat := (n % 11).toNat
def restTo (n : Int) (m : Nat) : List Nat := (List.range m).map fun (k : Nat) => chAt ((n + 7 * (k : Int) * (k : Int)) % 36)
def restN (n : Int) : List Nat := restTo n (sizeN n)
def ownN (n : Int) (k : Nat) : List Nat := if (n / 121 + (k : Int)) % 3 = 0 then (restN n).drop 1 else restN n
def plcN (n : Int) : Nat := ((n / 11).fmod ((sizeN n : Int) + 1)).toNat
def spotN (n : Int) (k : Nat) : Nat := min (plcN n) (ownN n k).length
def stpN (n : Int) : Int := if (n / 363) % 2 = 1 then 31 else 5
def codesN (n : Int) (k : Nat) : List Nat := chAt ((n + 3 * (k : Int)) % 26) :: ((ownN n k).take (spotN n k) ++ (chAt ((n + stpN n * (k : Int)) % 36) :: (ownN n k).drop (spotN n k)))
def nameN (n : Int) (k : Nat) : Str := tx (codesN n k)
def namesN (n : Int) (m : Nat) : List Str := (List.range m).map (nameN n)
theorem sizeN_le (n : Int) : sizeN n ≤ 10 := by
  have := Int.emod_lt_of_pos n (show (0 : Int) < 11 by decide)
  unfold sizeN
  omega
theorem restTo_len (n : Int) (m : Nat) : (restTo n m).length = m := by unfold restTo; rw [List.length_map, List.length_range]
theorem restN_len (n : Int) : (restN n).length = sizeN n := restTo_len _ _
theorem ownN_len (n : Int) (k : Nat) : (ownN n k).length ≤ 10 := by
  have := sizeN_le n
  unfold ownN
  split
  · rw [List.length_drop, restN_len]; omega
  · rw [restN_len]; omega
theorem ownN_ok (n : Int) (k : Nat) : ∀ c ∈ ownN n k, okSign c = true := by
  have r : ∀ c ∈ restN n, okSign c = true := fun c hc => by
    obtain ⟨j, _, rfl⟩ := List.mem_map.mp hc
    exact chAt_ok (m36 _).1 (m36 _).2
  intro c hc
  unfold ownN at hc
  split at hc
  · exact r c (List.mem_of_mem_drop hc)
  · exact r c hc
theorem codesN_len (n : Int) (k : Nat) : (codesN n k).length = (ownN n k).length + 2 := by
  have h : spotN n k ≤ (ownN n k).length := Nat.min_le_right _ _
  unfold codesN
  rw [List.length_cons, List.length_append, List.length_take, List.length_cons, List.length_drop]
  omega
theorem nameN_ok (n : Int) (k : Nat) : isName (nameN n k) = true := by
  have hl := codesN_len n k
  have ho := ownN_len n k
  have len : (nameN n k).length = (codesN n k).length := by
    show (codesN n k).toArray.size = _
    rw [List.size_toArray]
  have lst : (nameN n k).cps.toList = codesN n k := rfl
  unfold isName
  rw [lst, len, Bool.and_eq_true, Bool.and_eq_true]
  refine ⟨⟨decide_eq_true ⟨by omega, by omega⟩, ?_⟩, ?_⟩
  · have e : (codesN n k).head? = some (chAt ((n + 3 * (k : Int)) % 26)) := rfl
    rw [e]
    exact decide_eq_true (chAt_let (Int.emod_nonneg _ (by decide)) (Int.emod_lt_of_pos _ (by decide)))
  · rw [List.all_eq_true]
    intro c hc
    unfold codesN at hc
    rcases List.mem_cons.mp hc with z | z
    · rw [z]
      have := Int.emod_lt_of_pos (n + 3 * (k : Int)) (show (0 : Int) < 26 by decide)
      exact chAt_ok (Int.emod_nonneg _ (by decide)) (by omega)
    rcases List.mem_append.mp z with z | z
    · exact ownN_ok _ _ c (List.mem_of_mem_take z)
    rcases List.mem_cons.mp z with z | z
    · rw [z]
      exact chAt_ok (m36 _).1 (m36 _).2
    · exact ownN_ok _ _ c (List.mem_of_mem_drop z)
theorem nameN_inj (n : Int) {i j : Nat} (hi : i < 36) (hj : j < 36) (e : nameN n i = nameN n j) : i = j := by
  have ec : codesN n i = codesN n j := congrArg (fun s : Str => s.cps.toList) e
  have hl := congrArg List.length ec
  rw [codesN_len, codesN_len] at hl
  have eo : ownN n i = ownN n j := by
    have hs := restN_len n
    unfold ownN at hl ⊢
    split <;> split
    · rfl
    · rename_i h1 h2
      rw [if_pos h1, if_neg h2, List.length_drop] at hl
      have z : (restN n).length = 0 := by omega
      rw [List.length_eq_zero_iff] at z
      rw [z]
      rfl
    · rename_i h1 h2
      rw [if_neg h1, if_pos h2, List.length_drop] at hl
      have z : (restN n).length = 0 := by omega
      rw [List.length_eq_zero_iff] at z
      rw [z]
      rfl
    · rfl
  have es : spotN n i = spotN n j := by unfold spotN; rw [eo]
  have hle : spotN n j ≤ (ownN n j).length := Nat.min_le_right _ _
  unfold codesN at ec
  rw [eo, es] at ec
  have z := (List.cons.inj ec).2
  have z2 := List.append_cancel_left z
  have z3 := (List.cons.inj z2).1
  have y := chAt_inj (m36 _).1 (m36 _).2 (m36 _).1 (m36 _).2 z3
  unfold stpN at y
  split at y <;> omega
theorem namesN_good (n : Int) {m : Nat} (h : m ≤ 36) : Good (namesN n m) := by
  refine ⟨fun z hz => ?_, ?_⟩
  · obtain ⟨k, _, rfl⟩ := List.mem_map.mp hz
    exact nameN_ok n k
  · unfold namesN
    refine List.pairwise_map.mpr (List.Pairwise.imp_of_mem (fun ha hb ne e => ?_) (List.nodup_range (n := m)))
    have h1 := List.mem_range.mp ha
    have h2 := List.mem_range.mp hb
    exact ne (nameN_inj n (by omega) (by omega) e)
theorem namesN_len (n : Int) (m : Nat) : (namesN n m).length = m := by unfold namesN; rw [List.length_map, List.length_range]
theorem namesN_more (n : Int) (m : Nat) : namesN n (m + 1) = namesN n m ++ [nameN n m] := by
  unfold namesN
  rw [List.range_succ, List.map_append]
  rfl
theorem join_ones : ∀ l : List Nat, Txt.join "" (l.map fun c => tx [c]) = tx l := fun l => by
  rw [show Txt.join "" (l.map fun c => tx [c]) = Str.join "" (l.map fun c => tx [c]) from StrLaws.glued_eq_join _ _]
  induction l with
  | nil => rfl
  | cons c r ih =>
    cases r with
    | nil => rfl
    | cons d r =>
      show tx [c] ++ "" ++ Str.join "" ((d :: r).map fun c => tx [c]) = tx (c :: d :: r)
      rw [ih]
      have e : (tx [c] ++ ("" : Str)) = tx [c] := Str.ext' (by rw [Str.cps_append]; simp; rfl)
      rw [e, tx_add]
      rfl
theorem ones_sum : ∀ l : List Nat, ((l.map fun c => tx [c]).map (·.length)).sum = l.length
  | [] => rfl
  | c :: r => by
    have ih := ones_sum r
    rw [List.map_cons, List.map_cons, List.sum_cons, ih, List.length_cons]
    show 1 + r.length = _
    omega
def sp2__law_names : Sp := fun vs H Q _ => ∃ (n : Int) (m : Nat), vs = [.int n, .int (m : Int)] ∧ 0 ≤ n ∧ n < 1009 ∧ m ≤ 36 ∧
  ∀ H' q, Ex H H' → H q = none → H' q = some (.lst ((namesN n m).map V.str)) → Q (.ref q) H'
end EV

set_option Elab.async false
set_option linter.all false
set_option maxRecDepth 100000
set_option maxHeartbeats 4000000
namespace EV
open PySem PySem.Spec PyProof.Rows L2 EvS Evl
section
variable {P : Program} {w : World} {K : PySem.W.Frag} {mg : Str → Option Value} {base : Heap} {a : Ad}
theorem G__law_names (T : Txt K mg a) : FnOk P w K mg base CX0 1 a.f__law_names a.d__law_names ["number", "many"] sp2__law_names := by
  refine T.F__law_names.ok sc__law_names (fun vs H Q E h => ?_) (fun cdv A outer s H vs Q E hr h => ?_)
  · obtain ⟨n, m, rfl, _⟩ := h
    rfl
  · obtain ⟨n, m, rfl, n0, n1, m36', k⟩ := h
    refine ⟨_, (pss_cons (ps_set (i := 2) sc__law_names.nd rfl (Or.inr rfl) pe_str)
      (pss_cons (ps_set (i := 3) sc__law_names.nd rfl (Or.inl rfl) (pe_op op_mod (pe_callTy call_int1 (by rfl) T.z_int (by decide +kernel) (pa_cons (pv 0) pa_nil)) pe_int))
      (pss_cons (ps_set (i := 4) sc__law_names.nd rfl (Or.inl rfl) (pe_join pe_str (pe_lc (own := [("k", 7)]) (g := gName 7) (tt := tYes) rfl sc__law_names.nd (pi_range1 (by rfl) T.z_range (pa_cons (pv 3) pa_nil)) (blkOk_by (N := ["number", "many", "letters", "size", "rest", "place", "names", "k", "own", "spot", "step"]) (sc := defScope s__law_names) (by decide +kernel)) (fun _ _ _ _ _ => pg_name (i := 7) sc__law_names.nd rfl (Or.inl rfl)) (fun _ _ _ _ _ => pts_nil) (fun _ _ _ _ _ => (pe_ix ix_str (pv 2) (pe_op op_mod (pe_callTy call_int1 (by rfl) T.z_int (by decide +kernel) (pa_cons (pe_op op_add (pv 0) (pe_op op_mul (pe_op op_mul pe_int (pv 7)) (pv 7))) pa_nil)) pe_int) (fun _ _ => rfl))))))
      (pss_cons (ps_set (i := 5) sc__law_names.nd rfl (Or.inl rfl) (pe_op op_modN (pe_op op_fdiv (pv 0) pe_int) (pe_op op_add (pv 3) pe_int)))
      (pss_cons (ps_set (i := 6) sc__law_names.nd rfl (Or.inl rfl) (pe_lst pa_nil))
      (pss_cons (ps_for PassesOwn.never rfl (pi_range1 (by rfl) T.z_range (pa_cons (pv 1) pa_nil)) (pg_name (i := 7) sc__law_names.nd rfl (Or.inl rfl)) (pss_cons (ps_set (i := 8) sc__law_names.nd rfl (Or.inl rfl) (pv 4))
        (Evl.pss_cut (ps_if (pt_cmpR op_eq (pe_op op_mod (pe_callTy call_int1 (by rfl) T.z_int (by decide +kernel) (pa_cons (pe_op op_add (pe_op op_fdiv (pv 0) pe_int) (pv 7)) pa_nil)) pe_int) pe_int (nomark _)) (pss_one (ps_set (i := 8) sc__law_names.nd rfl (Or.inl rfl) (pe_slice sl_str (pv 4) (po_some pe_int) po_none))) pss_nil)
        (pss_cons (ps_set (i := 9) sc__law_names.nd rfl (Or.inl rfl) (pe_callB (call_min2 rfl) (by rfl) T.z_min (by decide +kernel) (pa_cons (pv 5) (pa_cons (pe_callB call_len_str (by rfl) T.z_len PySem.boot_len (pa_cons (pv 8) pa_nil)) pa_nil))))
        (pss_cons (ps_set (i := 10) sc__law_names.nd rfl (Or.inl rfl) pe_int)
        (Evl.pss_cut (ps_if (pt_cmpR op_eq (pe_op op_mod (pe_op op_fdiv (pv 0) pe_int) pe_int) pe_int (nomark _)) (pss_one (ps_set (i := 10) sc__law_names.nd rfl (Or.inl rfl) pe_int)) pss_nil)
        (pss_one (ps_expr (pe_bm PySem.F.plainAttrs_list PySem.F.slot_list_append PySem.F.type_list_append mt_append (pv 6) (pa_cons (pe_op op_add_str (pe_op op_add_str (pe_op op_add_str (pe_ix ix_str (pv 2) (pe_op op_mod (pe_callTy call_int1 (by rfl) T.z_int (by decide +kernel) (pa_cons (pe_op op_add (pv 0) (pe_op op_mul pe_int (pv 7))) pa_nil)) pe_int) (fun _ _ => rfl)) (pe_slice sl_str (pv 8) po_none (po_some (pv 9)))) (pe_ix ix_str (pv 2) (pe_op op_mod (pe_callTy call_int1 (by rfl) T.z_int (by decide +kernel) (pa_cons (pe_op op_add (pv 0) (pe_op op_mul (pv 10) (pv 7))) pa_nil)) pe_int) (fun _ _ => rfl))) (pe_slice sl_str (pv 8) (po_some (pv 9)) po_none)) pa_nil))))))))))
      (pss_one (ps_ret (pv 6))))))))), ?_⟩
    have s36 : ("abcdefghijklmnopqrstuvwxyz0123456789" : Str).length ≤ sizeLine := by decide +kernel
    have z0 := Int.emod_nonneg n (show (11 : Int) ≠ 0 by decide)
    have z1 := Int.emod_lt_of_pos n (show (0 : Int) < 11 by decide)
    have es : n % 11 = ((sizeN n : Nat) : Int) := by unfold sizeN; omega
    have sl := sizeN_le n
    refine ⟨_, rfl, .inl ⟨_, rfl, _, _, rfl, rfl, (by show (0 : Int) < 11; decide), ?_⟩⟩
    -- rest
    refine ⟨⟨_, rfl⟩, _, rfl, _, rfl, by omega, by omega, fun D hD => lc_range (lo := 0) (n := (n % 11).toNat) (fun i H' => Ex H H' ∧ H' D = some (.lst (((restTo n i).map fun c => tx [c]).map V.str))) ⟨Ex.new hD, upd_same⟩ ?_ ?_⟩
    · rintro i H' hi ⟨e, hL⟩
      refine ⟨rfl, _, rfl, _, rfl, _, rfl, _, _, rfl, rfl, .inl ⟨by decide, by decide⟩, _, rfl, _, _, rfl, rfl, .inl ⟨by omega, by omega⟩, _, _, rfl, rfl, .inl ⟨_, rfl, _, _, rfl, rfl, (by show (0 : Int) < 36; decide), _, _, _, rfl, rfl, s36, ch_get (m36 _).1 (m36 _).2, _, hL, sz_lt ?_, e.mut hD, ?_⟩⟩
      · rw [List.length_map, List.length_map, restTo_len]; omega
      · rw [upd_same]
        have st : restTo n (i + 1) = restTo n i ++ [chAt ((n + 7 * (0 + (i : Int)) * (0 + (i : Int))) % 36)] := by
          unfold restTo
          rw [List.range_succ, List.map_append, Int.zero_add]
          rfl
        rw [st, List.map_append, List.map_append]
        rfl
    rintro H1 ⟨e1, hL1⟩
    refine ⟨_, D, _, rfl, rfl, .inl (SqL.of hL1), ?_, ?_⟩
    · rw [ones_sum, List.length_map, restTo_len]
      show _ + _ * 0 ≤ _
      omega
    have ej : Txt.join "" ((restTo n (n % 11).toNat).map fun c => tx [c]) = tx (restN n) := by rw [join_ones]; rfl
    clear hL1
    have er : restTo n (sizeN n) = restN n := rfl
    have rl := restN_len n
    -- place
    have pd : (0 : Int) < ((sizeN n : Nat) : Int) + 1 := by omega
    have pq := Int.fmod_nonneg_of_pos (n / 11) pd
    have ep : (n / 11).fmod (((sizeN n : Nat) : Int) + 1) = ((plcN n : Nat) : Int) := by unfold plcN; omega
    have pl : plcN n ≤ sizeN n := by
      have := Int.fmod_lt_of_pos (n / 11) pd
      omega
    refine ⟨_, rfl, _, _, rfl, rfl, ⟨by decide, by decide⟩, _, rfl, _, _, rfl, rfl, _, _, rfl, rfl, by omega, ?_⟩
    have ep' : (n / 11).fmod (n % 11 + 1) = ((plcN n : Nat) : Int) := by rw [es]; exact ep
    -- names
    refine ⟨Nat.zero_le _, fun q hq => ?_⟩
    have e2 : Ex H (upd H1 q (.lst [])) := e1.trans (Ex.new hq)
    have hqH := fresh_back e1 hq
    refine ⟨_, rfl, _, rfl, by omega, by omega, for_range (n := ((m : Nat) : Int).toNat) (fun i σ H' => ∃ v7 v8 v9 v10, σ = [some (.int n), some (.int (m : Int)), some (.str "abcdefghijklmnopqrstuvwxyz0123456789"), some (.int ((sizeN n : Nat) : Int)), some (.str (tx (restN n))), some (.int ((plcN n : Nat) : Int)), some (.ref q), v7, v8, v9, v10] ∧ Ex H H' ∧ H' q = some (.lst ((namesN n i).map V.str))) ?_ ?_ ?_⟩
    · refine ⟨none, none, none, none, ?_, e2, upd_same⟩
      show [some (V.int n), some (.int (m : Int)), some (.str "abcdefghijklmnopqrstuvwxyz0123456789"), some (.int (n % 11)), some (.str (Txt.join "" ((restTo n (n % 11).toNat).map fun c => tx [c]))), some (.int ((n / 11).fmod (n % 11 + 1))), some (.ref q), none, none, none, none] = _
      rw [ep', ej, es]
    · rintro i σ H' hi ⟨v7, v8, v9, v10, rfl, e, hL⟩
      have rls : (tx (restN n)).length ≤ sizeLine := sz_of (by rw [tx_len]; omega)
      -- own
      refine ⟨_, rfl, ?_⟩
      refine ⟨fun σ H2 => σ = [some (.int n), some (.int (m : Int)), some (.str "abcdefghijklmnopqrstuvwxyz0123456789"), some (.int ((sizeN n : Nat) : Int)), some (.str (tx (restN n))), some (.int ((plcN n : Nat) : Int)), some (.ref q), some (.int (0 + (i : Int))), some (.str (tx (ownN n i))), v9, v10] ∧ H2 = H', ?_, ?_⟩
      · refine ⟨_, rfl, _, _, rfl, rfl, ⟨by decide, by decide⟩, _, rfl, _, _, rfl, rfl, .inl ⟨_, rfl, _, _, rfl, rfl, (by show (0 : Int) < 3; decide), rfl, _, rfl, ?_⟩⟩
        refine ite2 (fun h => ?_) (fun h => ?_)
        · have h' : (n / 121 + (i : Int)) % 3 = 0 := by have := V.int.inj (of_decide_eq_true h); rwa [Int.zero_add] at this
          refine ⟨_, rfl, _, rfl, _, rfl, rls, ?_⟩
          refine ⟨?_, rfl⟩
          have eo : ownN n i = (restN n).drop 1 := by unfold ownN; rw [if_pos h']
          rw [show cutS (tx (restN n)) (some 1) none = tx ((restN n).drop 1) from tx_from _ 1, eo]
          rfl
        · have h' : ¬ (n / 121 + (i : Int)) % 3 = 0 := fun z => h (decide_eq_true (congrArg V.int (by rw [Int.zero_add]; exact z)))
          refine ⟨?_, rfl⟩
          have eo : ownN n i = restN n := by unfold ownN; rw [if_neg h']
          rw [eo]
          rfl
      rintro σ H2 ⟨rfl, hH⟩
      rw [hH]
      clear hH H2
      have ol := ownN_len n i
      have ols : (tx (ownN n i)).length ≤ sizeLine := sz_of (by rw [tx_len]; omega)
      -- spot
      refine ⟨_, rfl, _, rfl, _, rfl, ols, _, _, rfl, ?_⟩
      have esp : (if (((tx (ownN n i)).length : Nat) : Int) < ((plcN n : Nat) : Int) then (((tx (ownN n i)).length : Nat) : Int) else ((plcN n : Nat) : Int)) = ((spotN n i : Nat) : Int) := by
        rw [tx_len]
        unfold spotN
        split <;> omega
      have spl : spotN n i ≤ (ownN n i).length := Nat.min_le_right _ _
      -- step
      refine ⟨fun σ H2 => σ = [some (.int n), some (.int (m : Int)), some (.str "abcdefghijklmnopqrstuvwxyz0123456789"), some (.int ((sizeN n : Nat) : Int)), some (.str (tx (restN n))), some (.int ((plcN n : Nat) : Int)), some (.ref q), some (.int (0 + (i : Int))), some (.str (tx (ownN n i))), some (.int ((spotN n i : Nat) : Int)), some (.int (stpN n))] ∧ H2 = H', ?_, ?_⟩
      · refine ⟨_, rfl, _, _, rfl, rfl, ⟨by decide, by decide⟩, _, _, rfl, rfl, (by show (0 : Int) < 2; decide), rfl, _, rfl, ?_⟩
        refine ite2 (fun h => ?_) (fun h => ?_)
        · have h' : (n / 363) % 2 = 1 := V.int.inj (of_decide_eq_true h)
          refine ⟨?_, rfl⟩
          unfold stpN
          rw [if_pos h', ← esp]
          rfl
        · have h' : ¬ (n / 363) % 2 = 1 := fun z => h (decide_eq_true (congrArg V.int z))
          refine ⟨?_, rfl⟩
          unfold stpN
          rw [if_neg h', ← esp]
          rfl
      rintro σ H2 ⟨rfl, hH⟩
      rw [hH]
      clear hH H2
      have f0 := Int.emod_nonneg (n + 3 * (0 + (i : Int))) (show (26 : Int) ≠ 0 by decide)
      have f1 := Int.emod_lt_of_pos (n + 3 * (0 + (i : Int))) (show (0 : Int) < 26 by decide)
      have st0 : 0 ≤ stpN n ∧ stpN n ≤ 31 := by unfold stpN; split <;> omega
      refine ⟨_, rfl, .inl ⟨rfl, _, SqL.of hL⟩, _, rfl, _, rfl, _, rfl, _, _, rfl, rfl, .inl ⟨by decide, by decide⟩, _, _, rfl, rfl, .inl ⟨_, rfl, _, _, rfl, rfl, (by show (0 : Int) < 26; decide), _, _, _, rfl, rfl, s36, ch_get f0 (by omega), _, rfl, _, rfl, _, rfl, _, rfl, ols, _, _, rfl, rfl, sz_of ?_, ?_⟩⟩
      · rw [tx_to, tx_len, List.length_singleton, tx_len, List.length_take]; omega
      refine ⟨_, rfl, _, rfl, _, rfl, _, rfl, _, _, rfl, rfl, .inl ⟨by omega, by omega⟩, _, _, rfl, rfl, .inl ⟨_, rfl, _, _, rfl, rfl, (by show (0 : Int) < 36; decide), _, _, _, rfl, rfl, s36, ch_get (m36 _).1 (m36 _).2, _, _, rfl, rfl, sz_of ?_, _, rfl, _, rfl, _, rfl, _, rfl, ols, _, _, rfl, rfl, sz_of ?_, q, _, _, rfl, rfl, hL, sz_lt (by rw [List.length_map, namesN_len]; omega), ?_⟩⟩
      · rw [tx_to, Str.length_append, tx_len, List.length_singleton, tx_len, one_len, List.length_take]; omega
      · rw [tx_to, tx_from, Str.length_append, Str.length_append, tx_len, List.length_singleton, tx_len, one_len, tx_len, List.length_take, List.length_drop]; omega
      · refine ⟨_, _, _, _, rfl, e.mut hqH, ?_⟩
        rw [upd_same, namesN_more, List.map_append, tx_to, tx_from, tx_one, tx_one, tx_add, tx_add, tx_add]
        show some (HO.lst (_ ++ [V.str (tx _)])) = some (HO.lst (_ ++ [V.str (tx (codesN n i))]))
        unfold codesN
        rw [Int.zero_add, List.append_assoc, List.append_assoc]
        rfl
    · rintro σ H' ⟨v7, v8, v9, v10, rfl, e, hL⟩
      exact ⟨_, rfl, k H' q e hqH hL⟩
end
end EV

set_option Elab.async false
set_option linter.all false
set_option maxRecDepth 100000
set_option maxHeartbeats 4000000
namespace EV
open PySem PySem.Spec PyProof.Rows L2 EvS Evl
/-! ### the parts of a drawn land -/
structure Parts2 (K : PySem.W.Frag) (H : Hp) (p : Addr) (D : LandD) (wi pl li pa : Addr) (rows prs : List V) : Prop where
  ob : SqL K H p [.ref wi, .ref pl, .ref li, .ref pa]
  wi : SqT K H wi (D.ws.map V.str)
  pl : SqT K H pl (D.ps.map V.str)
  li : SqT K H li rows
  ls : DpAll K H rows (D.ls.map dLink)
  pa : SqT K H pa prs
  ps : DpAll K H prs (D.pa.map dPath)
theorem Parts2.ex {K : PySem.W.Frag} {H H' : Hp} {p : Addr} {D : LandD} {wi pl li pa : Addr} {rows prs : List V} (e : Ex H H') (h : Parts2 K H p D wi pl li pa rows prs) : Parts2 K H' p D wi pl li pa rows prs :=
  ⟨ex_l e h.ob, ex_t e h.wi, ex_t e h.pl, ex_t e h.li, dps_ex e h.ls, ex_t e h.pa, dps_ex e h.ps⟩
structure Small2 (D : LandD) : Prop where
  w3 : D.ws.length ≤ 3
  p2 : 2 ≤ D.ps.length
  p7 : D.ps.length ≤ 7
  l10 : D.ls.length ≤ 10
  a6 : D.pa.length ≤ 6
  m15 : ∀ k ∈ D.ls, ∀ b, some b ∈ k.ts → b.2 ≤ 15
def sp2__law_parts (K : PySem.W.Frag) : Sp := fun vs H Q _ => ∃ (p : Addr) (ks : List Int), vs = [.ref p, .int 0] ∧ Nums K H p ks ∧
  ∀ H' q D wi pl li pa rows prs, Ex H H' → H q = none → H' q = some (.lst [.ref wi, .ref pl, .ref li, .ref pa]) → Parts2 K H' q D wi pl li pa rows prs → LandOk D → Small2 D → Q (.ref q) H'
theorem perm2 {α : Type} {a b c d : α} (h : [a, b].Perm [c, d]) : (a = c ∧ b = d) ∨ (a = d ∧ b = c) := by
  have m := h.mem_iff.mp (List.mem_cons_self : a ∈ _)
  rcases List.mem_cons.mp m with z | z
  · subst z
    have := (List.perm_cons a).mp h
    have e := List.perm_singleton.mp this
    exact .inl ⟨rfl, (List.cons.inj e).1⟩
  · have z := List.mem_singleton.mp z
    subst z
    have s : [a, b].Perm [a, c] := h.trans (List.Perm.swap a c [])
    have e := List.perm_singleton.mp ((List.perm_cons a).mp s)
    exact .inr ⟨rfl, (List.cons.inj e).1⟩
def dPair (a b : Str) : PyData := .tuple [.str a, .str b]
theorem sh_pair {a b : Str} (ha : isName a = true) (hb : isName b = true) : Sh 5 (dPair a b) := sh_tup (n := 4) fun d hd => by
  have q : d = .str a ∨ d = .str b := by simpa using hd
  rcases q with rfl | rfl
  · exact sh_str ha
  · exact sh_str hb
theorem eqv_pair (a b c d : Str) : PyData.eqv (dPair a b) (dPair c d) = (a == c && b == d) := by
  unfold dPair
  simp only [PyData.eqv, PyData.eqvAll, Bool.and_true]
end EV

set_option Elab.async false
set_option linter.all false
set_option maxRecDepth 100000
set_option maxHeartbeats 4000000
namespace EV
open PySem PySem.Spec PyProof.Rows L2 EvS Evl
section
variable {P : Program} {w : World} {K : PySem.W.Frag} {mg : Str → Option Value} {base : Heap} {a : Ad}
theorem G__law_parts (T : Txt K mg a) : FnOk P w K mg base CX0 2 a.f__law_parts a.d__law_parts ["numbers", "at"] (sp2__law_parts K) := by
  refine T.F__law_parts.ok sc__law_parts (fun vs H Q E h => ?_) (fun cdv A outer s H vs Q E hr h => ?_)
  · obtain ⟨p, ks, rfl, _⟩ := h
    rfl
  · obtain ⟨p, ks, rfl, N, k⟩ := h
    have lo := N.lo
    have sm := N.sm
    refine ⟨_, (pss_cons (ps_set (i := 2) sc__law_parts.nd rfl (Or.inl rfl) (pe_call (G__law_names T) (hr.mono (by decide)) (by rfl) T.g__law_names T.k__law_names T.B__law_names .nil pass0 (pa_cons (pe_ix ix_list (pv 0) (pv 1) (fun _ _ => rfl)) (pa_cons (pe_op op_add pe_int (pe_op op_mod (pe_callTy call_int1 (by rfl) T.z_int (by decide +kernel) (pa_cons (pe_ix ix_list (pv 0) (pe_op op_add (pv 1) pe_int) (fun _ _ => rfl)) pa_nil)) pe_int)) pa_nil))))
      (pss_cons (ps_set (i := 3) sc__law_parts.nd rfl (Or.inl rfl) (pe_call (G__law_names T) (hr.mono (by decide)) (by rfl) T.g__law_names T.k__law_names T.B__law_names .nil pass0 (pa_cons (pe_ix ix_list (pv 0) (pe_op op_add (pv 1) pe_int) (fun _ _ => rfl)) (pa_cons (pe_op op_add pe_int (pe_op op_mod (pe_callTy call_int1 (by rfl) T.z_int (by decide +kernel) (pa_cons (pe_ix ix_list (pv 0) (pe_op op_add (pv 1) pe_int) (fun _ _ => rfl)) pa_nil)) pe_int)) pa_nil))))
      (pss_cons (ps_set (i := 4) sc__law_parts.nd rfl (Or.inl rfl) (pe_call (G__law_names T) (hr.mono (by decide)) (by rfl) T.g__law_names T.k__law_names T.B__law_names .nil pass0 (pa_cons (pe_ix ix_list (pv 0) (pe_op op_add (pv 1) pe_int) (fun _ _ => rfl)) (pa_cons pe_int pa_nil))))
      (pss_cons (ps_set (i := 5) sc__law_parts.nd rfl (Or.inl rfl) (pe_lst pa_nil))
      (pss_cons (ps_for PassesOwn.never rfl (pi_range1 (by rfl) T.z_range (pa_cons (pe_op op_mod (pe_callTy call_int1 (by rfl) T.z_int (by decide +kernel) (pa_cons (pe_ix ix_list (pv 0) (pe_op op_add (pv 1) pe_int) (fun _ _ => rfl)) pa_nil)) pe_int) pa_nil)) (pg_name (i := 6) sc__law_parts.nd rfl (Or.inl rfl)) (pss_cons (ps_set (i := 7) sc__law_parts.nd rfl (Or.inl rfl) (pe_op op_add (pe_op op_add (pv 1) pe_int) (pe_op op_mul pe_int (pv 6))))
        (pss_cons (ps_set (i := 8) sc__law_parts.nd rfl (Or.inl rfl) (pe_op op_modN (pe_callTy call_int1 (by rfl) T.z_int (by decide +kernel) (pa_cons (pe_ix ix_list (pv 0) (pv 7) (fun _ _ => rfl)) pa_nil)) (pe_callB call_len_seq (by rfl) T.z_len PySem.boot_len (pa_cons (pv 3) pa_nil))))
        (pss_cons (ps_set (i := 9) sc__law_parts.nd rfl (Or.inl rfl) (pe_op op_modN (pe_callTy call_int1 (by rfl) T.z_int (by decide +kernel) (pa_cons (pe_op op_add (pe_op op_add (pv 8) pe_int) (pe_op op_modN (pe_callTy call_int1 (by rfl) T.z_int (by decide +kernel) (pa_cons (pe_ix ix_list (pv 0) (pe_op op_add (pv 7) pe_int) (fun _ _ => rfl)) pa_nil)) (pe_op op_sub (pe_callB call_len_seq (by rfl) T.z_len PySem.boot_len (pa_cons (pv 3) pa_nil)) pe_int))) pa_nil)) (pe_callB call_len_seq (by rfl) T.z_len PySem.boot_len (pa_cons (pv 3) pa_nil))))
        (pss_cons (ps_set (i := 10) sc__law_parts.nd rfl (Or.inl rfl) (pe_lst pa_nil))
        (pss_cons (ps_for PassesOwn.never rfl (pi_range1 (by rfl) T.z_range (pa_cons (pe_callB call_len_seq (by rfl) T.z_len PySem.boot_len (pa_cons (pv 2) pa_nil)) pa_nil)) (pg_name (i := 11) sc__law_parts.nd rfl (Or.inl rfl)) (pss_one (ps_if (pt_cmpR op_eq (pe_op op_mod (pe_callTy call_int1 (by rfl) T.z_int (by decide +kernel) (pa_cons (pe_ix ix_list (pv 0) (pe_op op_add (pe_op op_add (pv 7) pe_int) (pv 11)) (fun _ _ => rfl)) pa_nil)) pe_int) pe_int (nomark _)) (pss_one (ps_expr (pe_bm PySem.F.plainAttrs_list PySem.F.slot_list_append PySem.F.type_list_append mt_append (pv 10) (pa_cons pe_non pa_nil)))) (pss_cons (ps_set (i := 12) sc__law_parts.nd rfl (Or.inl rfl) (pe_op op_add pe_int (pe_op op_mod (pe_callTy call_int1 (by rfl) T.z_int (by decide +kernel) (pa_cons (pe_ix ix_list (pv 0) (pe_op op_add (pe_op op_add (pv 7) pe_int) (pv 11)) (fun _ _ => rfl)) pa_nil)) pe_int)))
            (pss_one (ps_expr (pe_bm PySem.F.plainAttrs_list PySem.F.slot_list_append PySem.F.type_list_append mt_append (pv 10) (pa_cons (pe_tup (pa_cons (pv 12) (pa_cons (pe_op op_add (pv 12) (pe_op op_mod (pe_callTy call_int1 (by rfl) T.z_int (by decide +kernel) (pa_cons (pe_ix ix_list (pv 0) (pe_op op_add (pe_op op_add (pv 7) pe_int) (pv 11)) (fun _ _ => rfl)) pa_nil)) pe_int)) pa_nil))) pa_nil))))))))
        (pss_one (ps_expr (pe_bm PySem.F.plainAttrs_list PySem.F.slot_list_append PySem.F.type_list_append mt_append (pv 5) (pa_cons (pe_tup (pa_cons (pe_ix ix_list (pv 4) (pv 6) (fun _ _ => rfl)) (pa_cons (pe_ix ix_list (pv 3) (pv 8) (fun _ _ => rfl)) (pa_cons (pe_ix ix_list (pv 3) (pv 9) (fun _ _ => rfl)) (pa_cons (pe_callTy call_tupK (by rfl) T.z_tuple (by decide +kernel) (pa_cons (pv 10) pa_nil)) pa_nil))))) pa_nil))))))))))
      (pss_cons (ps_set (i := 13) sc__law_parts.nd rfl (Or.inl rfl) (pe_lst pa_nil))
      (pss_cons (ps_for PassesOwn.never rfl (pi_range1 (by rfl) T.z_range (pa_cons (pe_op op_mod (pe_callTy call_int1 (by rfl) T.z_int (by decide +kernel) (pa_cons (pe_ix ix_list (pv 0) (pe_op op_add (pv 1) pe_int) (fun _ _ => rfl)) pa_nil)) pe_int) pa_nil)) (pg_name (i := 6) sc__law_parts.nd rfl (Or.inl rfl)) (pss_cons (ps_set (i := 8) sc__law_parts.nd rfl (Or.inl rfl) (pe_op op_modN (pe_callTy call_int1 (by rfl) T.z_int (by decide +kernel) (pa_cons (pe_ix ix_list (pv 0) (pe_op op_add (pe_op op_add (pv 1) pe_int) (pe_op op_mul pe_int (pv 6))) (fun _ _ => rfl)) pa_nil)) (pe_callB call_len_seq (by rfl) T.z_len PySem.boot_len (pa_cons (pv 3) pa_nil))))
        (pss_cons (ps_set (i := 9) sc__law_parts.nd rfl (Or.inl rfl) (pe_op op_modN (pe_callTy call_int1 (by rfl) T.z_int (by decide +kernel) (pa_cons (pe_op op_add (pe_op op_add (pv 8) pe_int) (pe_op op_modN (pe_callTy call_int1 (by rfl) T.z_int (by decide +kernel) (pa_cons (pe_ix ix_list (pv 0) (pe_op op_add (pe_op op_add (pv 1) pe_int) (pe_op op_mul pe_int (pv 6))) (fun _ _ => rfl)) pa_nil)) (pe_op op_sub (pe_callB call_len_seq (by rfl) T.z_len PySem.boot_len (pa_cons (pv 3) pa_nil)) pe_int))) pa_nil)) (pe_callB call_len_seq (by rfl) T.z_len PySem.boot_len (pa_cons (pv 3) pa_nil))))
        (pss_cons (ps_set (i := 14) sc__law_parts.nd rfl (Or.inl rfl) (pe_op op_cat (pe_lc (own := [("path", 15)]) (g := gName 15) (tt := tYes) rfl sc__law_parts.nd (pi_list (pv 13)) (blkOk_by (N := ["numbers", "at", "winds", "places", "names", "links", "k", "spot", "one", "other", "times", "j", "least", "paths", "known", "path"]) (sc := defScope s__law_parts) (by decide +kernel)) (fun _ _ _ _ _ => pg_name (i := 15) sc__law_parts.nd rfl (Or.inl rfl)) (fun _ _ _ _ _ => pts_nil) (fun _ _ _ _ _ => (pe_tup (pa_cons (pe_ix (show IxR _ (rIxT K) from ix_tup) (pv 15) pe_int (fun _ _ => rfl)) (pa_cons (pe_ix (show IxR _ (rIxT K) from ix_tup) (pv 15) pe_int (fun _ _ => rfl)) pa_nil))))) (pe_lc (own := [("path", 15)]) (g := gName 15) (tt := tYes) rfl sc__law_parts.nd (pi_list (pv 13)) (blkOk_by (N := ["numbers", "at", "winds", "places", "names", "links", "k", "spot", "one", "other", "times", "j", "least", "paths", "known", "path"]) (sc := defScope s__law_parts) (by decide +kernel)) (fun _ _ _ _ _ => pg_name (i := 15) sc__law_parts.nd rfl (Or.inl rfl)) (fun _ _ _ _ _ => pts_nil) (fun _ _ _ _ _ => (pe_tup (pa_cons (pe_ix (show IxR _ (rIxT K) from ix_tup) (pv 15) pe_int (fun _ _ => rfl)) (pa_cons (pe_ix (show IxR _ (rIxT K) from ix_tup) (pv 15) pe_int (fun _ _ => rfl)) pa_nil)))))))
        (pss_one (ps_if (pt_cmpR (op_notInD (EvS.r65 hr)) (pe_tup (pa_cons (pe_ix ix_list (pv 3) (pv 8) (fun _ _ => rfl)) (pa_cons (pe_ix ix_list (pv 3) (pv 9) (fun _ _ => rfl)) pa_nil))) (pv 14) (by rfl)) (pss_one (ps_expr (pe_bm PySem.F.plainAttrs_list PySem.F.slot_list_append PySem.F.type_list_append mt_append (pv 13) (pa_cons (pe_tup (pa_cons (pe_ix ix_list (pv 3) (pv 8) (fun _ _ => rfl)) (pa_cons (pe_ix ix_list (pv 3) (pv 9) (fun _ _ => rfl)) (pa_cons (pe_op op_add pe_int (pe_op op_mod (pe_callTy call_int1 (by rfl) T.z_int (by decide +kernel) (pa_cons (pe_ix ix_list (pv 0) (pe_op op_add (pe_op op_add (pv 1) pe_int) (pe_op op_mul pe_int (pv 6))) (fun _ _ => rfl)) pa_nil)) pe_int)) pa_nil)))) pa_nil)))) pss_nil))))))
      (pss_one (ps_ret (pe_lst (pa_cons (pe_callTy call_tupK (by rfl) T.z_tuple (by decide +kernel) (pa_cons (pv 2) pa_nil)) (pa_cons (pe_callTy call_tupK (by rfl) T.z_tuple (by decide +kernel) (pa_cons (pv 3) pa_nil)) (pa_cons (pe_callTy call_tupK (by rfl) T.z_tuple (by decide +kernel) (pa_cons (pv 5) pa_nil)) (pa_cons (pe_callTy call_tupK (by rfl) T.z_tuple (by decide +kernel) (pa_cons (pv 13) pa_nil)) pa_nil)))))))))))))), ?_⟩
    have get : ∀ {H' : Hp} {i : Int}, 0 ≤ i → i < 150 → ∃ n, 0 ≤ n ∧ n < 1009 ∧ atI (ks.map V.int) i = some (.int n) := fun {H' i} h0 h1 => by
      obtain ⟨n, hn, hat, _⟩ := num_in (ks := ks) (i := i) h0 (by omega)
      exact ⟨n, (sm n hn).1, (sm n hn).2, hat⟩
    -- winds
    obtain ⟨n0, l0, u0, g0⟩ := get (H' := H) (i := 0) (by decide) (by decide)
    obtain ⟨n1, l1, u1, g1⟩ := get (H' := H) (i := 0 + 1) (by decide) (by decide)
    obtain ⟨n2, l2, u2, g2⟩ := get (H' := H) (i := 0 + 2) (by decide) (by decide)
    obtain ⟨n3, l3, u3, g3⟩ := get (H' := H) (i := 0 + 3) (by decide) (by decide)
    obtain ⟨n4, l4, u4, g4⟩ := get (H' := H) (i := 0 + 4) (by decide) (by decide)
    obtain ⟨n5, l5, u5, g5⟩ := get (H' := H) (i := 0 + 5) (by decide) (by decide)
    obtain ⟨n88, l88, u88, g88⟩ := get (H' := H) (i := 0 + 88) (by decide) (by decide)
    have a0 := Int.emod_nonneg n1 (show (3 : Int) ≠ 0 by decide)
    have a1 := Int.emod_lt_of_pos n1 (show (0 : Int) < 3 by decide)
    obtain ⟨m1, em1⟩ : ∃ m1 : Nat, 1 + n1 % 3 = (m1 : Int) := ⟨_, (Int.toNat_of_nonneg (by omega)).symm⟩
    refine ⟨_, rfl, _, rfl, p, _, _, _, rfl, rfl, N.at_, g0, _, rfl, _, rfl, _, _, rfl, rfl, p, _, _, _, rfl, rfl, N.at_, g1, .inl ⟨_, rfl, _, _, rfl, rfl, (by show (0 : Int) < 3; decide), _, _, rfl, rfl, ?_⟩⟩
    refine ⟨n0, m1, congrArg (fun x : Int => [V.int n0, .int x]) em1, l0, u0, by omega, fun H1 q1 e1 f1 h1 => ?_⟩
    -- places
    have b0 := Int.emod_nonneg n3 (show (6 : Int) ≠ 0 by decide)
    have b1 := Int.emod_lt_of_pos n3 (show (0 : Int) < 6 by decide)
    obtain ⟨m2, em2⟩ : ∃ m2 : Nat, 2 + n3 % 6 = (m2 : Int) := ⟨_, (Int.toNat_of_nonneg (by omega)).symm⟩
    refine ⟨_, rfl, _, rfl, _, _, rfl, rfl, p, _, _, _, rfl, rfl, (N.ex e1).at_, g2, _, rfl, _, rfl, _, _, rfl, rfl, p, _, _, _, rfl, rfl, (N.ex e1).at_, g3, .inl ⟨_, rfl, _, _, rfl, rfl, (by show (0 : Int) < 6; decide), _, _, rfl, rfl, ?_⟩⟩
    refine ⟨n2, m2, congrArg (fun x : Int => [V.int n2, .int x]) em2, l2, u2, by omega, fun H2 q2 e2 f2 h2 => ?_⟩
    have g12 := e1.trans e2
    -- names
    refine ⟨_, rfl, _, rfl, _, _, rfl, rfl, p, _, _, _, rfl, rfl, (N.ex g12).at_, g4, n4, 10, rfl, l4, u4, by decide, fun H3 q3 e3 f3 h3 => ?_⟩
    have g13 := g12.trans e3
    have N3 := N.ex g13
    have h13 := e3 _ _ (e2 _ _ h1)
    have h23 := e3 _ _ h2
    have gw := namesN_good n0 (m := m1) (by omega)
    have gp := namesN_good n2 (m := m2) (by omega)
    have gn := namesN_good n4 (m := 10) (by omega)
    have lw := namesN_len n0 m1
    have lp := namesN_len n2 m2
    have ln := namesN_len n4 10
    generalize namesN n0 m1 = ws at h1 h13 gw lw
    generalize namesN n2 m2 = ps at h2 h23 gp lp
    generalize namesN n4 10 = ns at h3 gn ln
    have L1 : (ws.map V.str).length = m1 := by rw [List.length_map, lw]
    have L2 : (ps.map V.str).length = m2 := by rw [List.length_map, lp]
    have pat : ∀ {xs : List Str} {i : Nat} {j : Int}, i < xs.length → j = (i : Int) → atI (xs.map V.str) j = some (.str (xs.getD i "")) := fun {xs i j} hi ej => by
      rw [ej]
      exact atI_nat (by rw [List.getElem?_map, (getD_in hi).2] <;> rfl)
    clear e1 e2 e3 g12 f1 f2 f3 g0 g1 g2 g3 g4
    -- links
    have c0 := Int.emod_nonneg n5 (show (11 : Int) ≠ 0 by decide)
    have c1 := Int.emod_lt_of_pos n5 (show (0 : Int) < 11 by decide)
    refine ⟨Nat.zero_le _, fun D hD => ?_⟩
    have start : Ex H3 (upd H3 D (.lst [])) := Ex.new hD
    refine ⟨_, rfl, _, rfl, _, _, rfl, rfl, p, _, _, _, rfl, rfl, (N3.ex start).at_, g5, .inl ⟨_, rfl, _, _, rfl, rfl, (by show (0 : Int) < 11; decide), _, rfl, by omega, by omega, for_range (n := (n5 % 11).toNat) (fun i σ H' => ∃ (rows : List V) (ls : List Link) (v6 v7 v8 v9 v10 v11 v12 : Option V), σ = [some (.ref p), some (.int 0), some (.ref q1), some (.ref q2), some (.ref q3), some (.ref D), v6, v7, v8, v9, v10, v11, v12, none, none, none] ∧ Ex H3 H' ∧ H' D = some (.lst rows) ∧ DpAll K H' rows (ls.map dLink) ∧ ls.map (·.n) = ns.take i ∧ (∀ k ∈ ls, LinkOk ws ps k) ∧ ∀ k ∈ ls, ∀ b, some b ∈ k.ts → b.2 ≤ 15) ?_ ?_ ?_⟩⟩
    · exact ⟨[], [], none, none, none, none, none, none, none, rfl, start, upd_same, .nil, rfl, (fun k hk => by cases hk), fun k hk => by cases hk⟩
    · rintro i σ H4 hi ⟨rows, ls, v6, v7, v8, v9, v10, v11, v12, rfl, e4, hR, hd, hn, hok, hsm⟩
      have hi3 : i < ns.length := by omega
      have N4 := N3.ex e4
      have sq2 := SqL.of (K := K) (e4 _ _ h23)
      have rl : rows.length = i := by
        have z := congrArg List.length hn
        rw [List.length_map, List.length_take] at z
        rw [dps_len hd, List.length_map, z]
        omega
      obtain ⟨x1, x10, x11, gx1⟩ := get (H' := H4) (i := 0 + 6 + 8 * (0 + (i : Int))) (by omega) (by omega)
      obtain ⟨x2, x20, x21, gx2⟩ := get (H' := H4) (i := 0 + 6 + 8 * (0 + (i : Int)) + 1) (by omega) (by omega)
      refine ⟨_, rfl, _, _, rfl, rfl, _, rfl, _, _, rfl, rfl, .inl ⟨by decide, by decide⟩, _, _, rfl, rfl, ?_⟩
      refine ⟨_, rfl, _, rfl, p, _, _, _, rfl, rfl, N4.at_, gx1, .inl ⟨_, rfl, _, rfl, q2, _, rfl, .inl sq2, _, _, rfl, rfl, by rw [L2]; omega, ?_⟩⟩
      refine ⟨_, rfl, _, _, rfl, rfl, _, rfl, _, rfl, _, _, rfl, rfl, p, _, _, _, rfl, rfl, N4.at_, gx2, .inl ⟨_, rfl, _, rfl, q2, _, rfl, .inl sq2, _, _, rfl, rfl, _, _, rfl, rfl, by rw [L2]; omega, _, _, rfl, rfl, .inl ⟨_, rfl, _, rfl, q2, _, rfl, .inl sq2, _, _, rfl, rfl, by rw [L2]; omega, ?_⟩⟩⟩
      have o0 := Int.fmod_nonneg_of_pos x1 (b := (((ps.map V.str).length : Nat) : Int)) (by rw [L2]; omega)
      have o1 := Int.fmod_lt_of_pos x1 (b := (((ps.map V.str).length : Nat) : Int)) (by rw [L2]; omega)
      have y0 := Int.fmod_nonneg_of_pos x2 (b := (((ps.map V.str).length : Nat) : Int) - 1) (by rw [L2]; omega)
      have y1 := Int.fmod_lt_of_pos x2 (b := (((ps.map V.str).length : Nat) : Int) - 1) (by rw [L2]; omega)
      obtain ⟨t0, t1, tn⟩ := other_ne o0 o1 y0 y1
      obtain ⟨ia, ea⟩ : ∃ ia : Nat, x1.fmod (((ps.map V.str).length : Nat) : Int) = (ia : Int) := ⟨_, (Int.toNat_of_nonneg o0).symm⟩
      obtain ⟨ib, eb⟩ : ∃ ib : Nat, (x1.fmod (((ps.map V.str).length : Nat) : Int) + 1 + x2.fmod ((((ps.map V.str).length : Nat) : Int) - 1)).fmod (((ps.map V.str).length : Nat) : Int) = (ib : Int) := ⟨_, (Int.toNat_of_nonneg t0).symm⟩
      have ha : ia < ps.length := by omega
      have hb : ib < ps.length := by omega
      have hab : ia ≠ ib := by omega
      -- times
      refine ⟨Nat.zero_le _, fun l hl => ?_⟩
      have e5 : Ex H4 (upd H4 l (.lst [])) := Ex.new hl
      refine ⟨_, rfl, q1, _, rfl, .inl (SqL.of (e5 _ _ (e4 _ _ h13))), _, rfl, by omega, by omega, for_range (n := (((ws.map V.str).length : Nat) : Int).toNat) (fun j σ H' => ∃ (us : List V) (ts : List (Option (Int × Int))) (v11 v12 : Option V), σ = [some (.ref p), some (.int 0), some (.ref q1), some (.ref q2), some (.ref q3), some (.ref D), some (.int (0 + (i : Int))), some (.int (0 + 6 + 8 * (0 + (i : Int)))), some (.int (x1.fmod (((ps.map V.str).length : Nat) : Int))), some (.int ((x1.fmod (((ps.map V.str).length : Nat) : Int) + 1 + x2.fmod ((((ps.map V.str).length : Nat) : Int) - 1)).fmod (((ps.map V.str).length : Nat) : Int))), some (.ref l), v11, v12, none, none, none] ∧ Ex H4 H' ∧ H' l = some (.lst us) ∧ DpAll K H' us (ts.map dTime) ∧ ts.length = j ∧ (∀ b ∈ ts, TimeOk b) ∧ ∀ b, some b ∈ ts → b.2 ≤ 15) ?_ ?_ ?_⟩
      · exact ⟨[], [], v11, v12, rfl, e5, upd_same, .nil, rfl, (fun b hb => by cases hb), fun b hb => by cases hb⟩
      · rintro j σ H6 hj ⟨us, ts, v11, v12, rfl, e6, hU, hdu, hlu, hku, hsu⟩
        have hj3 : j < 3 := by omega
        have N6 := N4.ex e6
        have ul : us.length = j := by rw [dps_len hdu, List.length_map, hlu]
        obtain ⟨y1', y10, y11, gy1⟩ := get (H' := H6) (i := 0 + 6 + 8 * (0 + (i : Int)) + 2 + (0 + (j : Int))) (by omega) (by omega)
        obtain ⟨y2', y20, y21, gy2⟩ := get (H' := H6) (i := 0 + 6 + 8 * (0 + (i : Int)) + 5 + (0 + (j : Int))) (by omega) (by omega)
        refine ⟨_, rfl, _, rfl, _, _, rfl, rfl, _, rfl, _, _, rfl, rfl, p, _, _, _, rfl, rfl, N6.at_, gy1, .inl ⟨_, rfl, _, _, rfl, rfl, (by show (0 : Int) < 4; decide), rfl, _, rfl, ?_⟩⟩
        refine ite2 (fun _ => ?_) (fun _ => ?_)
        · refine ⟨_, rfl, .inl ⟨rfl, _, SqL.of hU⟩, l, us, _, rfl, rfl, hU, sz_lt (by omega), us ++ [.non], ts ++ [none], _, _, rfl, e6.mut hl, upd_same, ?_, by rw [List.length_append, hlu] <;> rfl, fun b hb => ?_, fun b hb => ?_⟩
          · rw [List.map_append]
            exact dps_app (dps_exT (exT_mut hU) hdu (frozen_times _)) (dps_one .non)
          · rcases List.mem_append.mp hb with z | z
            · exact hku b z
            · rw [List.mem_singleton.mp z]; trivial
          · rcases List.mem_append.mp hb with z | z
            · exact hsu b z
            · cases List.mem_singleton.mp z
        · have z0 := Int.emod_nonneg y1' (show (9 : Int) ≠ 0 by decide)
          have z1 := Int.emod_lt_of_pos y1' (show (0 : Int) < 9 by decide)
          have z2 := Int.emod_nonneg y2' (show (7 : Int) ≠ 0 by decide)
          have z3 := Int.emod_lt_of_pos y2' (show (0 : Int) < 7 by decide)
          refine ⟨_, rfl, _, rfl, _, _, rfl, rfl, _, rfl, _, _, rfl, rfl, p, _, _, _, rfl, rfl, N6.at_, gy1, .inl ⟨_, rfl, _, _, rfl, rfl, (by show (0 : Int) < 9; decide), _, _, rfl, rfl, ?_⟩⟩
          refine ⟨_, rfl, .inl ⟨rfl, _, SqL.of hU⟩, _, rfl, _, rfl, _, rfl, _, rfl, _, _, rfl, rfl, _, rfl, _, _, rfl, rfl, p, _, _, _, rfl, rfl, N6.at_, gy2, .inl ⟨_, rfl, _, _, rfl, rfl, (by show (0 : Int) < 7; decide), _, _, rfl, rfl, by show 2 ≤ sizeLine; decide, fun t ht => ?_⟩⟩
          have e7 : Ex H6 (upd H6 t (.tup [.int (1 + y1' % 9), .int (1 + y1' % 9 + y2' % 7)])) := Ex.new ht
          refine ⟨l, us, _, rfl, rfl, e7 _ _ hU, sz_lt (by omega), us ++ [.ref t], ts ++ [some (1 + y1' % 9, 1 + y1' % 9 + y2' % 7)], _, _, rfl, (e6.trans e7).mut hl, upd_same, ?_, by rw [List.length_append, hlu] <;> rfl, fun b hb => ?_, fun b hb => ?_⟩
          · rw [List.map_append]
            exact dps_app (dps_exT (exT_mut (e7 _ _ hU)) (dps_ex e7 hdu) (frozen_times _)) (dps_one (dp_exT (exT_mut (e7 _ _ hU)) (.tup (st_of upd_same) (.cons (.int _) (.cons (.int _) .nil))) (frozen_time (some (1 + y1' % 9, 1 + y1' % 9 + y2' % 7)))))
          · rcases List.mem_append.mp hb with z | z
            · exact hku b z
            · rw [List.mem_singleton.mp z]
              exact ⟨by show 1 ≤ 1 + y1' % 9; omega, by show 1 + y1' % 9 ≤ 1 + y1' % 9 + y2' % 7; omega, by show 1 + y1' % 9 + y2' % 7 ≤ 1000; omega⟩
          · rcases List.mem_append.mp hb with z | z
            · exact hsu b z
            · obtain rfl := Option.some.inj (List.mem_singleton.mp z)
              show 1 + y1' % 9 + y2' % 7 ≤ 15
              omega
      rintro σ H6 ⟨us, ts, v11, v12, rfl, e6, hU, hdu, hlu, hku, hsu⟩
      have g46 := e4.trans e6
      refine ⟨_, rfl, .inl ⟨rfl, _, SqL.of (e6 _ _ hR)⟩, _, rfl, _, rfl, q3, _, _, _, rfl, rfl, SqL.of (g46 _ _ h3), pat hi3 (Int.zero_add _), _, rfl, _, rfl, q2, _, _, _, rfl, rfl, SqL.of (g46 _ _ h23), pat ha ea, _, rfl, _, rfl, q2, _, _, _, rfl, rfl, SqL.of (g46 _ _ h23), pat hb eb, _, rfl, l, _, rfl, .inl ⟨SqL.of hU, fun u hu => ⟨by show 4 ≤ sizeLine; decide, fun t ht => ?_⟩⟩⟩
      have e8 : Ex H6 (upd (upd H6 u (.tup us)) t (.tup [.str (ns.getD i ""), .str (ps.getD ia ""), .str (ps.getD ib ""), .ref u])) := (Ex.new hu).trans (Ex.new ht)
      have hRR := e8 _ _ (e6 _ _ hR)
      refine ⟨D, rows, _, rfl, rfl, hRR, sz_lt (by omega), rows ++ [.ref t], ls ++ [⟨ns.getD i "", ps.getD ia "", ps.getD ib "", ts⟩], _, _, _, _, _, _, _, rfl, (g46.trans e8).mut hD, upd_same, ?_, ?_, fun k0 hk => ?_, fun k0 hk => ?_⟩
      · rw [List.map_append]
        refine dps_exT (exT_mut hRR) (dps_app (dps_ex (e6.trans e8) hd) (dps_one (.tup (st_of upd_same) (.cons (.str _) (.cons (.str _) (.cons (.str _) (.cons (.tup (st_of (Ex.new ht _ _ upd_same)) (dps_ex e8 hdu)) .nil))))))) ?_
        rw [← List.map_append]
        exact frozen_links _
      · rw [List.map_append, hn, take_one (getD_in hi3).2]
        rfl
      · rcases List.mem_append.mp hk with z | z
        · exact hok k0 z
        · rw [List.mem_singleton.mp z]
          refine ⟨(getD_in ha).1, (getD_in hb).1, fun q => hab (getD_inj gp.2 ha hb q), ?_, hku⟩
          show ts.length = ws.length
          omega
      · rcases List.mem_append.mp hk with z | z
        · exact hsm k0 z
        · rw [List.mem_singleton.mp z]
          exact hsu
    rintro σ H4 ⟨rows, ls, v6, v7, v8, v9, v10, v11, v12, rfl, e4, hR, hd, hn, hok, hsm⟩
    have ll : ls.length ≤ 10 := by
      have z := congrArg List.length hn
      rw [List.length_map, List.length_take] at z
      omega
    have gl : Good (ls.map (·.n)) := by
      rw [hn]
      exact ⟨fun z hz => gn.1 z (List.mem_of_mem_take hz), List.Nodup.sublist (List.take_sublist _ _) gn.2⟩
    have N4 := N3.ex e4
    have sq2 := SqL.of (K := K) (e4 _ _ h23)
    -- paths
    have d0 := Int.emod_nonneg n88 (show (7 : Int) ≠ 0 by decide)
    have d1 := Int.emod_lt_of_pos n88 (show (0 : Int) < 7 by decide)
    refine ⟨Nat.zero_le _, fun A0 hA => ?_⟩
    have start2 : Ex H4 (upd H4 A0 (.lst [])) := Ex.new hA
    refine ⟨_, rfl, _, rfl, _, _, rfl, rfl, p, _, _, _, rfl, rfl, (N4.ex start2).at_, g88, .inl ⟨_, rfl, _, _, rfl, rfl, (by show (0 : Int) < 7; decide), _, rfl, by omega, by omega, for_range (n := (n88 % 7).toNat) (fun i σ H' => ∃ (prs : List V) (pa : List (Str × Str × Int)) (v6 v8 v9 v14 : Option V), σ = [some (.ref p), some (.int 0), some (.ref q1), some (.ref q2), some (.ref q3), some (.ref D), v6, v7, v8, v9, v10, v11, v12, some (.ref A0), v14, none] ∧ Ex H4 H' ∧ H' A0 = some (.lst prs) ∧ DpAll K H' prs (pa.map dPath) ∧ pa.length ≤ i ∧ (∀ p ∈ pa, PathOk ps p) ∧ (pa.map fun p => (p.1, p.2.1)).Pairwise Apart) ?_ ?_ ?_⟩⟩
    · exact ⟨[], [], v6, v8, v9, none, rfl, start2, upd_same, .nil, Nat.zero_le _, (fun k hk => by cases hk), List.Pairwise.nil⟩
    · rintro i σ H5 hi ⟨prs, pa, v6, v8, v9, v14, rfl, e5, hA5, hd5, hl5, hok5, hap5⟩
      have N5 := N4.ex e5
      have sq5 := ex_l e5 sq2
      have i6 : i < 6 := by omega
      have pl : prs.length = pa.length := by rw [dps_len hd5, List.length_map]
      obtain ⟨x1, x10, x11, gx1⟩ := get (H' := H5) (i := 0 + 89 + 3 * (0 + (i : Int))) (by omega) (by omega)
      obtain ⟨x2, x20, x21, gx2⟩ := get (H' := H5) (i := 0 + 90 + 3 * (0 + (i : Int))) (by omega) (by omega)
      obtain ⟨x3, x30, x31, gx3⟩ := get (H' := H5) (i := 0 + 91 + 3 * (0 + (i : Int))) (by omega) (by omega)
      refine ⟨_, rfl, _, rfl, _, _, rfl, rfl, _, rfl, _, _, rfl, rfl, .inl ⟨by decide, by decide⟩, _, _, rfl, rfl, p, _, _, _, rfl, rfl, N5.at_, gx1, .inl ⟨_, rfl, _, rfl, q2, _, rfl, .inl sq5, _, _, rfl, rfl, by rw [L2]; omega, ?_⟩⟩
      refine ⟨_, rfl, _, _, rfl, rfl, _, rfl, _, rfl, _, _, rfl, rfl, _, rfl, _, _, rfl, rfl, .inl ⟨by decide, by decide⟩, _, _, rfl, rfl, p, _, _, _, rfl, rfl, N5.at_, gx2, .inl ⟨_, rfl, _, rfl, q2, _, rfl, .inl sq5, _, _, rfl, rfl, _, _, rfl, rfl, by rw [L2]; omega, _, _, rfl, rfl, .inl ⟨_, rfl, _, rfl, q2, _, rfl, .inl sq5, _, _, rfl, rfl, by rw [L2]; omega, ?_⟩⟩⟩
      have o0 := Int.fmod_nonneg_of_pos x1 (b := (((ps.map V.str).length : Nat) : Int)) (by rw [L2]; omega)
      have o1 := Int.fmod_lt_of_pos x1 (b := (((ps.map V.str).length : Nat) : Int)) (by rw [L2]; omega)
      have y0 := Int.fmod_nonneg_of_pos x2 (b := (((ps.map V.str).length : Nat) : Int) - 1) (by rw [L2]; omega)
      have y1 := Int.fmod_lt_of_pos x2 (b := (((ps.map V.str).length : Nat) : Int) - 1) (by rw [L2]; omega)
      obtain ⟨t0, t1, tn⟩ := other_ne o0 o1 y0 y1
      obtain ⟨ia, ea⟩ : ∃ ia : Nat, x1.fmod (((ps.map V.str).length : Nat) : Int) = (ia : Int) := ⟨_, (Int.toNat_of_nonneg o0).symm⟩
      obtain ⟨ib, eb⟩ : ∃ ib : Nat, (x1.fmod (((ps.map V.str).length : Nat) : Int) + 1 + x2.fmod ((((ps.map V.str).length : Nat) : Int) - 1)).fmod (((ps.map V.str).length : Nat) : Int) = (ib : Int) := ⟨_, (Int.toNat_of_nonneg t0).symm⟩
      have ha : ia < ps.length := by omega
      have hb : ib < ps.length := by omega
      have hab : ia ≠ ib := by omega
      -- known
      refine ⟨_, rfl, A0, rfl, ⟨_, SqL.of hA5⟩, fun D1 hD1 => lcY_list (K := K) (a := A0) (xs := prs) (fun j H' => Ex H5 H' ∧ ∃ got, H' D1 = some (.lst got) ∧ got.length = j ∧ DpAll K H' got ((pa.take j).map fun p => dPair p.1 p.2.1)) ⟨Ex.new hD1, [], upd_same, rfl, .nil⟩ (fun j H' _ z => ex_l z.1 (SqL.of hA5)) ?_ ?_⟩
      · rintro j y H' hy ⟨e, got, hg, gl', hgd⟩
        have hj : j < prs.length := (List.getElem?_eq_some_iff.mp hy).1
        obtain ⟨b, hb'⟩ : ∃ b, pa[j]? = some b := ⟨pa[j]'(by omega), List.getElem?_eq_getElem (by omega)⟩
        obtain ⟨dd, hd1, hd2⟩ := dps_at (dps_ex e hd5) hy
        rw [List.getElem?_map, hb'] at hd1
        obtain rfl : dPath b = dd := Option.some.inj hd1
        obtain ⟨t, rfl, hT⟩ := path_in hd2
        refine ⟨rfl, _, rfl, t, _, _, _, rfl, rfl, hT, atI_nat (j := 0) rfl, _, rfl, t, _, _, _, rfl, rfl, hT, atI_nat (j := 1) rfl, by show 2 ≤ sizeLine; decide, fun t2 ht2 => ?_⟩
        have e' : Ex H' (upd H' t2 (.tup [.str b.1, .str b.2.1])) := Ex.new ht2
        refine ⟨got, e' _ _ hg, sz_lt (by omega), (e.trans e').mut hD1, got ++ [.ref t2], upd_same, by rw [List.length_append, gl'] <;> rfl, ?_⟩
        rw [take_one hb', List.map_append]
        refine dps_exT (exT_mut (e' _ _ hg)) (dps_app (dps_ex e' hgd) (dps_one (.tup (st_of upd_same) (.cons (.str _) (.cons (.str _) .nil))))) ?_
        exact frozenAll_of fun d hd => by
          rcases List.mem_append.mp hd with z | z
          · obtain ⟨q, _, rfl⟩ := List.mem_map.mp z
            simp [dPair, frozen, frozenAll]
          · obtain rfl : d = dPair b.1 b.2.1 := List.mem_singleton.mp z
            simp [dPair, frozen, frozenAll]
      rintro H6 ⟨e6, got1, hg1, gl1, hgd1⟩
      rw [pl, List.take_length] at hgd1
      have g56 := e5.trans e6
      have hA6 := e6 _ _ hA5
      refine ⟨_, rfl, A0, rfl, ⟨_, SqL.of hA6⟩, fun D2 hD2 => lcY_list (K := K) (a := A0) (xs := prs) (fun j H' => Ex H6 H' ∧ ∃ got, H' D2 = some (.lst got) ∧ got.length = j ∧ DpAll K H' got ((pa.take j).map fun p => dPair p.2.1 p.1)) ⟨Ex.new hD2, [], upd_same, rfl, .nil⟩ (fun j H' _ z => ex_l z.1 (SqL.of hA6)) ?_ ?_⟩
      · rintro j y H' hy ⟨e, got, hg, gl', hgd⟩
        have hj : j < prs.length := (List.getElem?_eq_some_iff.mp hy).1
        obtain ⟨b, hb'⟩ : ∃ b, pa[j]? = some b := ⟨pa[j]'(by omega), List.getElem?_eq_getElem (by omega)⟩
        obtain ⟨dd, hd1, hd2⟩ := dps_at (dps_ex (e6.trans e) hd5) hy
        rw [List.getElem?_map, hb'] at hd1
        obtain rfl : dPath b = dd := Option.some.inj hd1
        obtain ⟨t, rfl, hT⟩ := path_in hd2
        refine ⟨rfl, _, rfl, t, _, _, _, rfl, rfl, hT, atI_nat (j := 1) rfl, _, rfl, t, _, _, _, rfl, rfl, hT, atI_nat (j := 0) rfl, by show 2 ≤ sizeLine; decide, fun t2 ht2 => ?_⟩
        have e' : Ex H' (upd H' t2 (.tup [.str b.2.1, .str b.1])) := Ex.new ht2
        refine ⟨got, e' _ _ hg, sz_lt (by omega), (e.trans e').mut hD2, got ++ [.ref t2], upd_same, by rw [List.length_append, gl'] <;> rfl, ?_⟩
        rw [take_one hb', List.map_append]
        refine dps_exT (exT_mut (e' _ _ hg)) (dps_app (dps_ex e' hgd) (dps_one (.tup (st_of upd_same) (.cons (.str _) (.cons (.str _) .nil))))) ?_
        exact frozenAll_of fun d hd => by
          rcases List.mem_append.mp hd with z | z
          · obtain ⟨q, _, rfl⟩ := List.mem_map.mp z
            simp [dPair, frozen, frozenAll]
          · obtain rfl : d = dPair b.2.1 b.1 := List.mem_singleton.mp z
            simp [dPair, frozen, frozenAll]
      rintro H7 ⟨e7, got2, hg2, gl2, hgd2⟩
      rw [pl, List.take_length] at hgd2
      refine ⟨D1, D2, _, _, rfl, rfl, e7 _ _ hg1, hg2, sz_of (by omega), fun c hc => ?_⟩
      have e8 : Ex H7 (upd H7 c (.lst (got1 ++ got2))) := Ex.new hc
      have hdk : DpAll K (upd H7 c (.lst (got1 ++ got2))) (got1 ++ got2) ((pa.map fun p => dPair p.1 p.2.1) ++ (pa.map fun p => dPair p.2.1 p.1)) := dps_app (dps_ex (e7.trans e8) hgd1) (dps_ex e8 hgd2)
      have hck : (upd H7 c (.lst (got1 ++ got2))) c = some (.lst (got1 ++ got2)) := upd_same
      have g58 : Ex H5 (upd H7 c (.lst (got1 ++ got2))) := e6.trans (e7.trans e8)
      generalize upd H7 c (.lst (got1 ++ got2)) = H8 at hdk hck g58
      clear e8 e7 e6 hgd1 hgd2 hg1 hg2 hc
      have sq8 := ex_l g58 sq5
      -- the test
      refine ⟨_, rfl, _, rfl, q2, _, _, _, rfl, rfl, sq8, pat ha ea, _, rfl, _, rfl, q2, _, _, _, rfl, rfl, sq8, pat hb eb, by show 2 ≤ sizeLine; decide, fun t ht => ?_⟩
      have e9 : Ex H8 (upd H8 t (.tup [.str (ps.getD ia ""), .str (ps.getD ib "")])) := Ex.new ht
      have na := gp.1 _ (getD_in ha).1
      have nb := gp.1 _ (getD_in hb).1
      have shk : SeqAt.shaped (.list ((pa.map fun p => dPair p.1 p.2.1) ++ (pa.map fun p => dPair p.2.1 p.1))) = true := sh_shaped (sh_lst (n := 5) fun d hd => by
        rcases List.mem_append.mp hd with z | z
        · obtain ⟨q, hq, rfl⟩ := List.mem_map.mp z
          exact sh_pair (gp.1 _ (hok5 q hq).o) (gp.1 _ (hok5 q hq).t)
        · obtain ⟨q, hq, rfl⟩ := List.mem_map.mp z
          exact sh_pair (gp.1 _ (hok5 q hq).t) (gp.1 _ (hok5 q hq).o)) (by decide)
      refine ⟨_, rfl, dPair (ps.getD ia "") (ps.getD ib ""), _, .tup (st_of upd_same) (.cons (.str _) (.cons (.str _) .nil)), .lst (SqL.of (e9 _ _ hck)) (dps_ex e9 hdk), sh_shaped (sh_pair na nb) (by decide), shk, _, rfl, ?_⟩
      refine ite2 (fun hnew => ?_) (fun _ => ?_)
      · have g59 := g58.trans e9
        have hA9 := g59 _ _ hA5
        have hd9 := dps_ex g59 hd5
        have N9 := N5.ex g59
        have sq9 := ex_l g59 sq5
        generalize upd H8 t (.tup [.str (ps.getD ia ""), .str (ps.getD ib "")]) = H9 at g59 hA9 hd9 N9 sq9
        have w0 := Int.emod_nonneg x3 (show (9 : Int) ≠ 0 by decide)
        have w1 := Int.emod_lt_of_pos x3 (show (0 : Int) < 9 by decide)
        refine ⟨_, rfl, .inl ⟨rfl, _, SqL.of hA9⟩, _, rfl, _, rfl, q2, _, _, _, rfl, rfl, sq9, pat ha ea, _, rfl, _, rfl, q2, _, _, _, rfl, rfl, sq9, pat hb eb, _, rfl, _, rfl, _, _, rfl, rfl, _, rfl, _, _, rfl, rfl, .inl ⟨by decide, by decide⟩, _, _, rfl, rfl, p, _, _, _, rfl, rfl, N9.at_, gx3, .inl ⟨_, rfl, _, _, rfl, rfl, (by show (0 : Int) < 9; decide), _, _, rfl, rfl, by show 3 ≤ sizeLine; decide, fun t2 ht2 => ?_⟩⟩
        have e10 : Ex H9 (upd H9 t2 (.tup [.str (ps.getD ia ""), .str (ps.getD ib ""), .int (1 + x3 % 9)])) := Ex.new ht2
        refine ⟨A0, prs, _, rfl, rfl, e10 _ _ hA9, sz_lt (by omega), prs ++ [.ref t2], pa ++ [(ps.getD ia "", ps.getD ib "", 1 + x3 % 9)], _, _, _, _, rfl, (e5.trans (g59.trans e10)).mut hA, upd_same, ?_, by rw [List.length_append, List.length_singleton]; omega, fun q hq => ?_, ?_⟩
        · rw [List.map_append]
          refine dps_exT (exT_mut (e10 _ _ hA9)) (dps_app (dps_ex e10 hd9) (dps_one (.tup (st_of upd_same) (.cons (.str _) (.cons (.str _) (.cons (.int _) .nil)))))) ?_
          rw [← List.map_append]
          exact frozen_paths _
        · rcases List.mem_append.mp hq with z | z
          · exact hok5 q z
          · rw [List.mem_singleton.mp z]
            exact ⟨(getD_in ha).1, (getD_in hb).1, fun q => hab (getD_inj gp.2 ha hb q), by show 1 ≤ 1 + x3 % 9; omega, by show 1 + x3 % 9 ≤ 1000; omega⟩
        · rw [List.map_append]
          refine List.pairwise_append.mpr ⟨hap5, List.pairwise_singleton _ _, fun x hx y hy pm => ?_⟩
          obtain ⟨q, hq, rfl⟩ := List.mem_map.mp hx
          obtain rfl : y = (ps.getD ia "", ps.getD ib "") := List.mem_singleton.mp hy
          have no : (((pa.map fun p => dPair p.1 p.2.1) ++ (pa.map fun p => dPair p.2.1 p.1)).any fun z => PyData.eqv z (dPair (ps.getD ia "") (ps.getD ib ""))) = false := by simpa using hnew
          rw [List.any_eq_false] at no
          rcases perm2 pm with ⟨z1, z2⟩ | ⟨z1, z2⟩
          · refine no _ (List.mem_append_left _ (List.mem_map.mpr ⟨q, hq, rfl⟩)) ?_
            rw [eqv_pair]
            simp only [Bool.and_eq_true, beq_iff_eq]
            exact ⟨z1, z2⟩
          · refine no _ (List.mem_append_right _ (List.mem_map.mpr ⟨q, hq, rfl⟩)) ?_
            rw [eqv_pair]
            simp only [Bool.and_eq_true, beq_iff_eq]
            exact ⟨z2, z1⟩
      · exact ⟨prs, pa, _, _, _, _, rfl, e5.trans (g58.trans e9), e9 _ _ (g58 _ _ hA5), dps_ex (g58.trans e9) hd5, by omega, hok5, hap5⟩
    rintro σ H5 ⟨prs, pa, v6, v8, v9, v14, rfl, e5, hA5, hd5, hl5, hok5, hap5⟩
    have g35 := e4.trans e5
    refine ⟨_, rfl, q1, _, rfl, .inl ⟨SqL.of (g35 _ _ h13), fun s1 z1 => ?_⟩⟩
    refine ⟨_, rfl, q2, _, rfl, .inl ⟨SqL.of (Ex.new z1 _ _ (g35 _ _ h23)), fun s2 z2 => ?_⟩⟩
    have k2 := (Ex.new (o := .tup (ws.map V.str)) z1).trans (Ex.new (o := .tup (ps.map V.str)) z2)
    refine ⟨_, rfl, D, _, rfl, .inl ⟨SqL.of (k2 _ _ (e5 _ _ hR)), fun s3 z3 => ?_⟩⟩
    have k3 := k2.trans (Ex.new (o := .tup rows) z3)
    refine ⟨_, rfl, A0, _, rfl, .inl ⟨SqL.of (k3 _ _ hA5), fun s4 z4 => ?_⟩⟩
    refine ⟨by show 4 ≤ sizeLine; decide, fun r hr => ?_⟩
    have f4 := (Ex.new (o := .tup prs) z4).trans (Ex.new (o := .lst [.ref s1, .ref s2, .ref s3, .ref s4]) hr)
    have k5 := k3.trans f4
    have g05 := g13.trans (g35.trans k5)
    refine k _ r ⟨ws, ps, ls, pa⟩ s1 s2 s3 s4 rows prs g05 (fresh_back (g13.trans (g35.trans (k3.trans (Ex.new z4)))) hr) upd_same ⟨SqL.of upd_same, ?_, ?_, ?_, ?_, ?_, ?_⟩ ?_ ?_
    · exact st_of (f4 _ _ (Ex.new z3 _ _ (Ex.new z2 _ _ upd_same)))
    · exact st_of (f4 _ _ (Ex.new z3 _ _ upd_same))
    · exact st_of (f4 _ _ upd_same)
    · exact dps_ex (e5.trans k5) hd
    · exact st_of (Ex.new hr _ _ upd_same)
    · exact dps_ex k5 hd5
    · exact ⟨by show 1 ≤ ws.length; omega, by show ws.length ≤ 4; omega, by show 1 ≤ ps.length; omega, by show ps.length ≤ 24; omega, by show ls.length ≤ 60; omega, by show pa.length ≤ 60; omega, gw, gp, gl, hok, hok5, hap5⟩
    · exact ⟨by show ws.length ≤ 3; omega, by show 2 ≤ ps.length; omega, by show ps.length ≤ 7; omega, ll, by show pa.length ≤ 6; omega, hsm⟩
end
end EV

set_option Elab.async false
set_option linter.all false
set_option maxRecDepth 100000
set_option maxHeartbeats 4000000
namespace EV
open PySem PySem.Spec PyProof.Rows L2 EvS Evl FD
/-! ### paths between places; hands and what they do (points 52 to 55) -/
def dPm (r : Str × Int) : PyData := .tuple [.str r.1, .int r.2]
def vOptI : Option Int → V
  | none => .non
  | some i => .int i
def isBtw (p : Str × Str × Int) (a b : Str) : Bool := (p.1 == a && p.2.1 == b) || (p.1 == b && p.2.1 == a)
def minB (pa : List (Str × Str × Int)) (a b : Str) : Option Int := (pa.find? fun p => isBtw p a b).map (·.2.2)
def walks1 (z : Str) (p : Str × Str × Int) : List (Str × Int) := (if p.1 = z then [(p.2.1, p.2.2)] else []) ++ (if p.2.1 = z then [(p.1, p.2.2)] else [])
def walksOf (pa : List (Str × Str × Int)) (z : Str) : List (Str × Int) := pa.flatMap (walks1 z)
theorem walks_more (pa : List (Str × Str × Int)) (p : Str × Str × Int) (z : Str) : walksOf (pa ++ [p]) z = walksOf pa z ++ walks1 z p := by
  unfold walksOf
  rw [List.flatMap_append]
  simp
theorem filt1 (a b : Str) (p : Str × Str × Int) : (((walks1 a p).filter fun w => w.1 == b).head?).map (·.2) = if isBtw p a b = true then some p.2.2 else none := by
  unfold walks1 isBtw
  by_cases h1 : p.1 = a <;> by_cases h2 : p.2.1 = b <;> by_cases h3 : p.2.1 = a <;> by_cases h4 : p.1 = b <;> simp [h1, h2, h3, h4]
  all_goals (first | (subst h1; simp_all) | simp_all)
theorem walks_min (pa : List (Str × Str × Int)) (a b : Str) : (((walksOf pa a).filter fun w => w.1 == b).head?).map (·.2) = minB pa a b := by
  unfold walksOf minB
  induction pa with
  | nil => rfl
  | cons p r ih =>
    rw [List.flatMap_cons, List.filter_append, List.head?_append, List.find?_cons]
    have f := filt1 a b p
    cases hb : isBtw p a b with
    | true =>
      rw [hb, if_pos rfl] at f
      cases hh : ((walks1 a p).filter fun w => w.1 == b).head? with
      | none => rw [hh] at f; cases f
      | some w =>
        rw [hh] at f
        exact f
    | false =>
      rw [hb, if_neg (by decide)] at f
      cases hh : ((walks1 a p).filter fun w => w.1 == b).head? with
      | some w => rw [hh] at f; cases f
      | none =>
        rw [Option.none_or]
        exact ih
theorem path_in3 {K : PySem.W.Frag} {H : Hp} {v : V} {p : Str × Str × Int} (h : Dp K H v (dPath p)) : ∃ t, v = .ref t ∧ SqT K H t [.str p.1, .str p.2.1, .int p.2.2] := path_in h
theorem pickE {α : Type} {f : α → PyData} {K : PySem.W.Frag} {H : Hp} {vs : List V} {xs : List α} {i : Nat} {v : V} (h : DpAll K H vs (xs.map f)) (e : vs[i]? = some v) : ∃ x, xs[i]? = some x ∧ x ∈ xs ∧ Dp K H v (f x) := by
  obtain ⟨d, hd, dp⟩ := dps_at h e
  rw [List.getElem?_map] at hd
  obtain ⟨x, hx, rfl⟩ := Option.map_eq_some_iff.mp hd
  exact ⟨x, hx, List.mem_of_getElem? hx, dp⟩
theorem pm_in {K : PySem.W.Frag} {H : Hp} {v : V} {r : Str × Int} (h : Dp K H v (dPm r)) : ∃ t, v = .ref t ∧ SqT K H t [.str r.1, .int r.2] := by
  unfold dPm at h
  cases h with
  | tup st al =>
    cases al with
    | cons d1 al =>
      cases al with
      | cons d2 al =>
        cases al
        cases d1
        cases d2
        exact ⟨_, rfl, st⟩
theorem shp_two (a b : Str) : SeqAt.shaped (.tuple [.str a, .str b]) = true ∨ True := .inr trivial
theorem fs_check_place (wi pl li pa : Addr) : (landFs wi pl li pa).lookup ("check_place" : Str) = none := by
  unfold landFs
  rw [lookup_putF, if_neg (by decide +kernel), lookup_putF, if_neg (by decide +kernel), lookup_putF, if_neg (by decide +kernel), lookup_putF, if_neg (by decide +kernel)]
  rfl
theorem fs_minutes_between (wi pl li pa : Addr) : (landFs wi pl li pa).lookup ("minutes_between" : Str) = none := by
  unfold landFs
  rw [lookup_putF, if_neg (by decide +kernel), lookup_putF, if_neg (by decide +kernel), lookup_putF, if_neg (by decide +kernel), lookup_putF, if_neg (by decide +kernel)]
  rfl
theorem iteNT {A B : Prop} (h : B) : if (!true) = true then A else B := by
  simpa using h
theorem inV_str_not {z : Str} {ys : List Str} (h : z ∉ ys) : inV (.str z) (ys.map V.str) = false := by
  unfold inV
  rw [List.any_map, List.any_eq_false]
  intro x hx
  show ¬ (x == z) = true
  intro e
  exact h (eq_of_beq e ▸ hx)
def sp_check_place (K : PySem.W.Frag) (C : Addr) : Sp := fun vs H Q _ => ∃ (x : Addr) (z : Str) (D : LandD), vs = [.ref x, .str z] ∧ IsLand K C H x D ∧ z ∈ D.ps ∧ Q .non H
def sp__is_between (K : PySem.W.Frag) : Sp := fun vs H Q _ => ∃ (v : V) (p : Str × Str × Int) (a b : Str), vs = [v, .str a, .str b] ∧ Dp K H v (dPath p) ∧ isName p.1 = true ∧ isName p.2.1 = true ∧ isName a = true ∧ isName b = true ∧ ∀ H', Ex H H' → Q (.bl (isBtw p a b)) H'
def sp_minutes_between (K : PySem.W.Frag) (C : Addr) : Sp := fun vs H Q _ => ∃ (x : Addr) (D : LandD) (a b : Str), vs = [.ref x, .str a, .str b] ∧ IsLand K C H x D ∧ LandOk D ∧ a ∈ D.ps ∧ b ∈ D.ps ∧ ∀ H', Ex H H' → Q (vOptI (minB D.pa a b)) H'
def sp_least_minutes (K : PySem.W.Frag) : Sp := fun vs H Q _ => ∃ (b : Addr) (ys : List V) (bs : List (Str × Int)), vs = [.ref b] ∧ SqL K H b ys ∧ DpAll K H ys (bs.map dPm) ∧ bs.length ≤ 1000 ∧ ∀ d H', Ex H H' → H d = none → Tab H' d (FP.minOf bs) → Q (.ref d) H'
section
variable {P : Program} {w : World} {K : PySem.W.Frag} {mg : Str → Option Value} {base : Heap} {a : Ad}
theorem G_check_place (T : Txt K mg a) : FnOk P w K mg base CX0 1 a.f_check_place a.d_check_place ["self", "place"] (sp_check_place K a.C) := by
  refine T.F_check_place.ok sc_check_place (fun vs H Q E h => ?_) (fun cdv A outer s H vs Q E hr h => ?_)
  · obtain ⟨x, z, D, rfl, _⟩ := h
    rfl
  · obtain ⟨x, z, D, rfl, ⟨dx, wi, pl, li, pa, rows, prs, L⟩, hz, k⟩ := h
    refine ⟨_, (pss_one (ps_if (pt_cmpR op_notIn_seq (pv 1) (pe_fld (pv 0) rfl) (by rfl)) pss_any pss_nil)), ?_⟩
    refine ⟨_, rfl, _, rfl, x, a.C, dx, _, _, rfl, L.ob, T.cl, T.nP, fs_places .., pl, _, rfl, .inr L.pl, rfl, flat_str _, _, rfl, ?_⟩
    rw [inV_str hz]
    exact iteF k
theorem G_least_minutes (T : Txt K mg a) : FnOk P w K mg base CX0 1 a.f_least_minutes a.d_least_minutes ["rows"] (sp_least_minutes K) := by
  refine T.F_least_minutes.ok sc_least_minutes (fun vs H Q E h => ?_) (fun cdv A outer s H vs Q E hr h => ?_)
  · obtain ⟨b, ys, bs, rfl, _⟩ := h
    rfl
  · obtain ⟨b, ys, bs, rfl, hb, db, lb, k⟩ := h
    have ly := dps_len db
    rw [List.length_map] at ly
    refine ⟨_, (pss_cons (ps_set (i := 1) sc_least_minutes.nd rfl (Or.inl rfl) pe_dnewK)
      (pss_cons (ps_for PassesOwn.never rfl (pi_list (pv 0)) (pg_tup (by rfl) (pgs_cons (pg_name (i := 2) sc_least_minutes.nd rfl (Or.inl rfl)) (pgs_cons (pg_name (i := 3) sc_least_minutes.nd rfl (Or.inl rfl)) pgs_nil))) (pss_one (ps_if (PW.pt (pw_or (pt_cmp (pc_dnotin (hu_of hr) (pv 2) (pv 1))) (pw_or1 (pt_cmpR op_lt (pv 3) (pe_dget (hu_of hr) (pv 1) (pv 2) (fun _ _ => rfl)) (nomark _))))) (pss_one (ps_dput (hu_of hr) (pv 1) (pv 2) (pv 3) rfl)) pss_nil)))
      (pss_one (ps_ret (pv 1))))), ?_⟩
    refine fun d hd => ?_
    have x1 := Ex.new (o := .dK []) hd
    refine ⟨_, rfl, b, rfl, ⟨_, ex_l x1 hb⟩, for_list (K := K) (a := b) (xs := ys) (fun i σ H' => ∃ (v2 v3 : Option V) (kvs : List (Key × V)), σ = [some (.ref b), some (.ref d), v2, v3] ∧ Ex H H' ∧ H' d = some (.dK kvs) ∧ TabK kvs (FP.minOf (bs.take i)) ∧ kvs.length ≤ i) ⟨none, none, [], rfl, x1, upd_same, .nil, Nat.le_refl _⟩ (fun i σ H' _ z => by obtain ⟨v2, v3, kvs, rfl, ex, _⟩ := z; exact ex_l ex hb) (fun i y σ H' hy z => ?_) (fun σ H2 z => ?_)⟩
    · obtain ⟨v2, v3, kvs, rfl, ex, hk, tb, lk⟩ := z
      have hi := (List.getElem?_eq_some_iff.mp hy).1
      obtain ⟨r, hrr, hm, dp⟩ := pickE (dps_ex ex db) hy
      obtain ⟨t, rfl, ht⟩ := pm_in dp
      have nx : ∀ q, FP.minOf (bs.take (i + 1)) q = if r.1 = q then FP.least (FP.minOf (bs.take i) q) (some r.2) else FP.minOf (bs.take i) q := fun q => by rw [take_one hrr, FP.minOf_more]
      have vB := tb r.1
      have gB : DGet H' d (.str r.1) (valV kvs (.inr r.1)) := DGet.k (k := Sum.inr r.1) hk
      rw [vB] at gB
      have put : (FP.least (FP.minOf (bs.take i) r.1) (some r.2) = some r.2) → ∃ (v2 v3 : Option V) (kvs2 : List (Key × V)), [some (V.ref b), some (.ref d), some (.str r.1), some (.int r.2)] = [some (V.ref b), some (.ref d), v2, v3] ∧ Ex H (upd H' d (.dK (putK kvs (Sum.inr r.1) (.int r.2)))) ∧ (upd H' d (.dK (putK kvs (Sum.inr r.1) (.int r.2)))) d = some (.dK kvs2) ∧ TabK kvs2 (FP.minOf (bs.take (i + 1))) ∧ kvs2.length ≤ i + 1 := fun e => by
        have := length_putK kvs (Sum.inr r.1) (V.int r.2)
        refine ⟨_, _, putK kvs (Sum.inr r.1) (.int r.2), rfl, ex.mut hd, upd_same, (tb.put r.1 r.2).same fun q => ?_, by omega⟩
        rw [nx q]
        unfold upd1
        by_cases c : r.1 = q
        · rw [if_pos c, if_pos c.symm, ← c, e]
        · rw [if_neg c, if_neg fun z => c z.symm]
      refine ⟨t, _, rfl, ht, rfl, _, _, rfl, _, _, rfl, rfl, ?_⟩
      refine ⟨_, rfl, _, rfl, d, _, rfl, gB, _, rfl, ?_⟩
      cases hf : FP.minOf (bs.take i) r.1 with
      | none =>
        rw [hf] at put
        exact iteT ⟨_, rfl, _, rfl, _, rfl, d, _, rfl, DPut.k (k := Sum.inr r.1) hk (sz_lt (by omega)), put rfl⟩
      | some u =>
        rw [hf] at put gB
        refine iteF ⟨_, rfl, _, rfl, _, rfl, d, _, rfl, gB, _, _, rfl, rfl, _, rfl, ?_⟩
        refine ite2 (fun c2 => ?_) (fun c2 => ?_)
        · exact ⟨_, rfl, _, rfl, _, rfl, d, _, rfl, DPut.k (k := Sum.inr r.1) hk (sz_lt (by omega)), put (if_pos (of_decide_eq_true c2))⟩
        · refine ⟨_, _, kvs, rfl, ex, hk, tb.same fun q => ?_, by omega⟩
          rw [nx q]
          by_cases c : r.1 = q
          · rw [if_pos c, ← c, hf]
            exact (if_neg fun z => c2 (decide_eq_true z)).symm
          · rw [if_neg c]
    · obtain ⟨v2, v3, kvs, rfl, ex, hk, tb, lk⟩ := z
      rw [ly, List.take_length] at tb
      exact ⟨_, rfl, k d H2 ex hd ⟨kvs, hk, by omega, tb⟩⟩
theorem G__is_between (T : Txt K mg a) : FnOk P w K mg base CX0 1 a.f__is_between a.d__is_between ["path", "one", "other"] (sp__is_between K) := by
  refine T.F__is_between.ok sc__is_between (fun vs H Q E h => ?_) (fun cdv A outer s H vs Q E hr h => ?_)
  · obtain ⟨v, p, x, y, rfl, _⟩ := h
    rfl
  · obtain ⟨v, p, x, y, rfl, hv, n1, n2, n3, n4, k⟩ := h
    obtain ⟨t, rfl, hT⟩ := path_in hv
    refine ⟨_, (pss_one (ps_ret (pe_or (pe_cmpR (op_eqD hr.units) (pe_slice sl_tup (pv 0) po_none (po_some pe_int)) (pe_tup (pa_cons (pv 1) (pa_cons (pv 2) pa_nil))) (nomark _)) (pe_one (pe_cmpR (op_eqD hr.units) (pe_slice sl_tup (pv 0) po_none (po_some pe_int)) (pe_tup (pa_cons (pv 2) (pa_cons (pv 1) pa_nil))) (nomark _)))))), ?_⟩
    refine ⟨_, rfl, _, rfl, t, _, rfl, hT, ?_⟩
    have sh : ∀ {x y : Str}, isName x = true → isName y = true → SeqAt.shaped (dPair x y) = true := fun h1 h2 => sh_shaped (sh_pair h1 h2) (by decide)
    have part : ∀ H2 : Hp, Ex H H2 → ∀ q, H2 q = none → Dp K (upd H2 q (.tup (cutV [V.str p.1, .str p.2.1, .int p.2.2] none (some 2)))) (.ref q) (dPair p.1 p.2.1) := fun H2 e2 q hq => .tup (st_of upd_same) (.cons (.str _) (.cons (.str _) .nil))
    refine ⟨by show ¬ (HT.sIx 3 0 none = 0 ∧ HT.sIx 3 3 (some 2) = 3); decide, fun q hq => ?_⟩
    have e1 := Ex.new (o := .tup (cutV [V.str p.1, .str p.2.1, .int p.2.2] none (some 2))) hq
    have d1 := part H (Ex.refl H) q hq
    generalize upd H q (.tup (cutV [V.str p.1, .str p.2.1, .int p.2.2] none (some 2))) = H1 at e1 d1
    refine ⟨_, rfl, _, rfl, by show 2 ≤ sizeLine; decide, fun u hu => ?_⟩
    have e2 := Ex.new (o := .tup [V.str x, .str y]) hu
    have d2 : Dp K (upd H1 u (.tup [V.str x, .str y])) (.ref u) (dPair x y) := .tup (st_of upd_same) (.cons (.str _) (.cons (.str _) .nil))
    generalize upd H1 u (.tup [V.str x, .str y]) = H2 at e2 d2
    refine ⟨_, _, dp_ex e2 d1, d2, sh n1 n2, sh n3 n4, ?_⟩
    rw [eqv_pair]
    unfold isBtw at k
    cases hc : (p.1 == x && p.2.1 == y) with
    | true =>
      rw [hc] at k
      exact ⟨_, rfl, k H2 (e1.trans e2)⟩
    | false =>
      rw [hc, Bool.false_or] at k
      have e12 := e1.trans e2
      refine ⟨_, rfl, _, rfl, _, rfl, t, _, rfl, ex_t e12 hT, by show ¬ (HT.sIx 3 0 none = 0 ∧ HT.sIx 3 3 (some 2) = 3); decide, fun q2 hq2 => ?_⟩
      have e3 := Ex.new (o := .tup (cutV [V.str p.1, .str p.2.1, .int p.2.2] none (some 2))) hq2
      have d3 := part H2 e12 q2 hq2
      generalize upd H2 q2 (.tup (cutV [V.str p.1, .str p.2.1, .int p.2.2] none (some 2))) = H3 at e3 d3
      refine ⟨_, rfl, _, rfl, by show 2 ≤ sizeLine; decide, fun u2 hu2 => ?_⟩
      have e4 := Ex.new (o := .tup [V.str y, .str x]) hu2
      have d4 : Dp K (upd H3 u2 (.tup [V.str y, .str x])) (.ref u2) (dPair y x) := .tup (st_of upd_same) (.cons (.str _) (.cons (.str _) .nil))
      generalize upd H3 u2 (.tup [V.str y, .str x]) = H4 at e4 d4
      refine ⟨_, _, dp_ex e4 d3, d4, sh n1 n2, sh n4 n3, ?_⟩
      rw [eqv_pair]
      exact k H4 ((e12.trans e3).trans e4)
theorem G_minutes_between (T : Txt K mg a) : FnOk P w K mg base CX0 2 a.f_minutes_between a.d_minutes_between ["self", "one", "other"] (sp_minutes_between K a.C) := by
  refine T.F_minutes_between.ok sc_minutes_between (fun vs H Q E h => ?_) (fun cdv A outer s H vs Q E hr h => ?_)
  · obtain ⟨x, D, y, z, rfl, _⟩ := h
    rfl
  · obtain ⟨x, D, y, z, rfl, ⟨dx, wi, pl, li, pa, rows, prs, L⟩, ok, hy, hz, k⟩ := h
    have IL : IsLand K a.C H x D := ⟨dx, wi, pl, li, pa, rows, prs, L⟩
    have lp : prs.length = D.pa.length := by rw [dps_len L.ps, List.length_map]
    have ny := ok.gp.1 y hy
    have nz := ok.gp.1 z hz
    refine ⟨_, (pss_cons (ps_expr (pe_meth (pv 0) T.cl T.m_check_place (G_check_place T) (hr.mono (by decide)) T.B_check_place .nil pass0 (pa_cons (pv 1) pa_nil)))
      (pss_cons (ps_expr (pe_meth (pv 0) T.cl T.m_check_place (G_check_place T) (hr.mono (by decide)) T.B_check_place .nil pass0 (pa_cons (pv 2) pa_nil)))
      (pss_cons (ps_for PassesOwn.never rfl (pi_tup (pe_fld (pv 0) rfl)) (pg_name (i := 3) sc_minutes_between.nd rfl (Or.inl rfl)) (pss_one (ps_if (pt_val (pe_call (G__is_between T) (hr.mono (by decide)) (by rfl) T.g__is_between T.k__is_between T.B__is_between .nil pass0 (pa_cons (pv 3) (pa_cons (pv 1) (pa_cons (pv 2) pa_nil))))) (pss_one (ps_ret (pe_ix ix_tup (pv 3) pe_int (fun _ _ => rfl)))) pss_nil)))
      (pss_one (ps_ret pe_non))))), ?_⟩
    refine ⟨_, rfl, x, dx, _, rfl, L.ob, fs_check_place .., _, rfl, x, y, D, rfl, IL, hy, ?_⟩
    refine ⟨_, rfl, x, dx, _, rfl, L.ob, fs_check_place .., _, rfl, x, z, D, rfl, IL, hz, ?_⟩
    refine ⟨_, rfl, x, a.C, dx, _, _, rfl, L.ob, T.cl, T.nA, fs_paths .., pa, rfl, ⟨_, L.pa⟩, for_tup (K := K) (a := pa) (xs := prs) (fun i σ H' => ∃ v3, σ = [some (.ref x), some (.str y), some (.str z), v3] ∧ Ex H H' ∧ (D.pa.take i).find? (fun p => isBtw p y z) = none) ⟨none, rfl, Ex.refl H, rfl⟩ (fun i σ H' _ z => by obtain ⟨_, rfl, e, _⟩ := z; exact ex_t e L.pa) ?_ ?_⟩
    · rintro i v σ H' hv ⟨v3, rfl, e, no⟩
      obtain ⟨p, hp, hm, dp⟩ := pickE (dps_ex e L.ps) hv
      have po := ok.pt p hm
      refine ⟨_, rfl, _, rfl, _, rfl, v, p, y, z, rfl, dp, ok.gp.1 _ po.o, ok.gp.1 _ po.t, ny, nz, fun H2 e2 => ?_⟩
      have sp : D.pa = D.pa.take i ++ p :: D.pa.drop (i + 1) := by
        have hi := (List.getElem?_eq_some_iff.mp hp).1
        rw [← (List.getElem?_eq_some_iff.mp hp).2, ← List.drop_eq_getElem_cons hi, List.take_append_drop]
      refine ⟨_, rfl, ?_⟩
      cases hb : isBtw p y z with
      | true =>
        obtain ⟨t, rfl, hT⟩ := path_in dp
        refine iteT ⟨_, rfl, t, _, _, _, rfl, rfl, ex_t e2 hT, atI_nat (j := 2) rfl, ?_⟩
        have q := k H2 (e.trans e2)
        have em : minB D.pa y z = some p.2.2 := by
          unfold minB
          rw [sp, List.find?_append, no, Option.none_or, List.find?_cons, hb]
          rfl
        rw [em] at q
        exact q
      | false =>
        refine iteF ⟨_, rfl, e.trans e2, ?_⟩
        rw [take_one hp, List.find?_append, no, Option.none_or, List.find?_cons, hb]
        rfl
    · rintro σ H' ⟨v3, rfl, e, no⟩
      rw [lp, List.take_length] at no
      have q := k H' e
      unfold minB at q
      rw [no] at q
      exact q
end
end EV

set_option Elab.async false
set_option linter.all false
set_option maxRecDepth 100000
set_option maxHeartbeats 4000000
namespace EV
open PySem PySem.Spec PyProof.Rows L2 EvS Evl FD
/-! ### what a hand does -/
inductive Deed
  | walk (t : Str)
  | cut (m : Int)
  | wait (m : Int)
def dDeed : Deed → PyData
  | .walk t => .tuple [.str "walk", .str t]
  | .cut m => .tuple [.str "cut", .int m]
  | .wait m => .tuple [.str "wait", .int m]
structure Hand where
  n : Str
  s : Str
  ds : List Deed
def dHand (h : Hand) : PyData := .tuple [.str h.n, .str h.s, .list (h.ds.map dDeed)]
structure Stay where
  n : Str
  p : Str
  a : Int
  b : Option Int
def dOptI : Option Int → PyData
  | none => .none
  | some i => .int i
def dStay (s : Stay) : PyData := .tuple [.str s.n, .str s.p, .int s.a, dOptI s.b]
structure Run where
  here : Str
  since : Int
  now : Int
  rows : List Stay
  cuts : List (Str × Int)
def step (pa : List (Str × Str × Int)) (n : Str) (r : Run) : Deed → Run
  | .walk t => ⟨t, r.now + (minB pa r.here t).getD 0, r.now + (minB pa r.here t).getD 0, r.rows ++ [⟨n, r.here, r.since, some r.now⟩], r.cuts⟩
  | .cut m => ⟨r.here, r.since, r.now + m, r.rows, r.cuts ++ [(r.here, r.now + m)]⟩
  | .wait m => ⟨r.here, r.since, r.now + m, r.rows, r.cuts⟩
def runTo (pa : List (Str × Str × Int)) (h : Hand) (i : Nat) : Run := (h.ds.take i).foldl (step pa h.n) ⟨h.s, 0, 0, [], []⟩
def run (pa : List (Str × Str × Int)) (h : Hand) : Run := runTo pa h h.ds.length
def rowsOf (pa : List (Str × Str × Int)) (h : Hand) : List Stay := (run pa h).rows ++ [⟨h.n, (run pa h).here, (run pa h).since, none⟩]
theorem runTo_more {pa : List (Str × Str × Int)} {h : Hand} {i : Nat} {d : Deed} (e : h.ds[i]? = some d) : runTo pa h (i + 1) = step pa h.n (runTo pa h i) d := by
  unfold runTo
  rw [take_one e, List.foldl_append]
  rfl
structure HandOk (D : LandD) (h : Hand) : Prop where
  n : isName h.n = true
  s : h.s ∈ D.ps
  len : h.ds.length ≤ 30
  to : ∀ t, Deed.walk t ∈ h.ds → t ∈ D.ps
  path : ∀ i t, h.ds[i]? = some (.walk t) → (minB D.pa (runTo D.pa h i).here t).isSome = true
  cut : ∀ m, Deed.cut m ∈ h.ds → 1 ≤ m ∧ m ≤ 1000
  wait : ∀ m, Deed.wait m ∈ h.ds → 1 ≤ m ∧ m ≤ 1000
theorem here_in {D : LandD} {h : Hand} (ok : HandOk D h) : ∀ i, i ≤ h.ds.length → (runTo D.pa h i).here ∈ D.ps
  | 0, _ => ok.s
  | i + 1, hi => by
    have ih := here_in ok i (by omega)
    have e : h.ds[i]? = some h.ds[i] := List.getElem?_eq_getElem (by omega)
    rw [runTo_more e]
    cases hd : h.ds[i] with
    | walk t => exact ok.to t (hd ▸ List.getElem_mem _)
    | cut m => exact ih
    | wait m => exact ih
theorem run_len (pa : List (Str × Str × Int)) (h : Hand) : ∀ i, (runTo pa h i).rows.length ≤ i ∧ (runTo pa h i).cuts.length ≤ i
  | 0 => ⟨Nat.le_refl _, Nat.le_refl _⟩
  | i + 1 => by
    obtain ⟨a, b⟩ := run_len pa h i
    cases e : h.ds[i]? with
    | none =>
      have : h.ds.length ≤ i := List.getElem?_eq_none_iff.mp e
      have q : runTo pa h (i + 1) = runTo pa h i := by
        unfold runTo
        rw [List.take_of_length_le (by omega), List.take_of_length_le (by omega)]
      rw [q]
      omega
    | some d =>
      rw [runTo_more e]
      cases d with
      | walk t =>
        refine ⟨?_, ?_⟩
        · show ((runTo pa h i).rows ++ [_]).length ≤ i + 1
          rw [List.length_append]
          show _ + 1 ≤ _
          omega
        · show (runTo pa h i).cuts.length ≤ i + 1
          omega
      | cut m =>
        refine ⟨?_, ?_⟩
        · show (runTo pa h i).rows.length ≤ i + 1
          omega
        · show ((runTo pa h i).cuts ++ [_]).length ≤ i + 1
          rw [List.length_append]
          show _ + 1 ≤ _
          omega
      | wait m =>
        refine ⟨?_, ?_⟩
        · show (runTo pa h i).rows.length ≤ i + 1
          omega
        · show (runTo pa h i).cuts.length ≤ i + 1
          omega
theorem minB_val {D : LandD} (ok : LandOk D) {a b : Str} {m : Int} (h : minB D.pa a b = some m) : 1 ≤ m ∧ m ≤ 1000 := by
  unfold minB at h
  obtain ⟨p, hp, rfl⟩ := Option.map_eq_some_iff.mp h
  have := ok.pt p (List.mem_of_find?_eq_some hp)
  exact ⟨this.lo, this.hi⟩
theorem deed_in {K : PySem.W.Frag} {H : Hp} {v : V} {d : Deed} (h : Dp K H v (dDeed d)) : ∃ t, v = .ref t ∧ SqT K H t (match d with | .walk t => [.str "walk", .str t] | .cut m => [.str "cut", .int m] | .wait m => [.str "wait", .int m]) := by
  cases d <;> (
    unfold dDeed at h
    cases h with
    | tup st al =>
      cases al with
      | cons d1 al =>
        cases al with
        | cons d2 al =>
          cases al
          cases d1
          cases d2
          exact ⟨_, rfl, st⟩)
theorem hand_in {K : PySem.W.Frag} {H : Hp} {v : V} {h : Hand} (q : Dp K H v (dHand h)) : ∃ t u vs, v = .ref t ∧ SqT K H t [.str h.n, .str h.s, .ref u] ∧ SqL K H u vs ∧ DpAll K H vs (h.ds.map dDeed) := by
  unfold dHand at q
  cases q with
  | tup st al =>
    cases al with
    | cons d1 al =>
      cases al with
      | cons d2 al =>
        cases al with
        | cons d3 al =>
          cases al
          cases d1
          cases d2
          cases d3 with
          | lst hl ha => exact ⟨_, _, _, rfl, st, hl, ha⟩
theorem frozen_stay (s : Stay) : frozen (dStay s) = true := by
  obtain ⟨n, p, x, b⟩ := s
  cases b <;> simp [dStay, dOptI, frozen, frozenAll]
theorem frozen_stays (ls : List Stay) : frozenAll (ls.map dStay) = true := frozenAll_of fun d hd => by
  obtain ⟨b, _, rfl⟩ := List.mem_map.mp hd
  exact frozen_stay b
theorem frozen_pm (r : Str × Int) : frozen (dPm r) = true := by simp [dPm, frozen, frozenAll]
theorem frozen_pms (ls : List (Str × Int)) : frozenAll (ls.map dPm) = true := frozenAll_of fun d hd => by
  obtain ⟨b, _, rfl⟩ := List.mem_map.mp hd
  exact frozen_pm b
/-! a course as it stands -/
def cFs (s c : Addr) (e : Int) : List (Str × V) := [("stays", .ref s), ("cuts", .ref c), ("end", .int e)]
theorem cFs_end (s c : Addr) (e e' : Int) : putF "end" (.int e') (cFs s c e) = cFs s c e' := by
  unfold cFs
  show (if ("stays" : Str) = "end" then _ else _ :: (if ("cuts" : Str) = "end" then _ else _ :: (if ("end" : Str) = "end" then _ else _))) = _
  rw [if_neg (by decide +kernel), if_neg (by decide +kernel), if_pos rfl]
theorem putF_ne {f g : Str} {v x : V} {r : List (Str × V)} (h : ¬ g = f) : putF f v ((g, x) :: r) = (g, x) :: putF f v r := by
  show (if g = f then _ else _) = _
  rw [if_neg h]
theorem cFs_new (s c : Addr) (e : Int) : putF "end" (.int e) (putF "cuts" (.ref c) (putF "stays" (.ref s) [])) = cFs s c e := by
  rw [show putF "stays" (.ref s) [] = [(("stays" : Str), V.ref s)] from rfl, putF_ne (by decide +kernel), show putF "cuts" (.ref c) [] = [(("cuts" : Str), V.ref c)] from rfl, putF_ne (by decide +kernel), putF_ne (by decide +kernel)]
  rfl
theorem cFs_stays (s c : Addr) (e : Int) : (cFs s c e).lookup ("stays" : Str) = some (.ref s) := by
  unfold cFs
  rw [List.lookup_cons, beq_self_eq_true]
theorem cFs_cuts (s c : Addr) (e : Int) : (cFs s c e).lookup ("cuts" : Str) = some (.ref c) := by
  unfold cFs
  rw [List.lookup_cons, show (("cuts" : Str) == "stays") = false by decide +kernel, List.lookup_cons, beq_self_eq_true]
theorem cFs_endv (s c : Addr) (e : Int) : (cFs s c e).lookup ("end" : Str) = some (.int e) := by
  unfold cFs
  rw [List.lookup_cons, show (("end" : Str) == "stays") = false by decide +kernel, List.lookup_cons, show (("end" : Str) == "cuts") = false by decide +kernel, List.lookup_cons, beq_self_eq_true]
theorem cFs_follow (s c : Addr) (e : Int) : (cFs s c e).lookup ("follow" : Str) = none := by
  unfold cFs
  rw [List.lookup_cons, show (("follow" : Str) == "stays") = false by decide +kernel, List.lookup_cons, show (("follow" : Str) == "cuts") = false by decide +kernel, List.lookup_cons, show (("follow" : Str) == "end") = false by decide +kernel]
  rfl
theorem cFs_breaks (s c : Addr) (e : Int) : (cFs s c e).lookup ("breaks_in" : Str) = none := by
  unfold cFs
  rw [List.lookup_cons, show (("breaks_in" : Str) == "stays") = false by decide +kernel, List.lookup_cons, show (("breaks_in" : Str) == "cuts") = false by decide +kernel, List.lookup_cons, show (("breaks_in" : Str) == "end") = false by decide +kernel]
  rfl
structure CAt (K : PySem.W.Frag) (C : Addr) (H : Hp) (x dx s c : Addr) (rows : List Stay) (cuts : List (Str × Int)) (e : Int) : Prop where
  ob : H x = some (.ins C dx (cFs s c e))
  hs : ∃ vs, H s = some (.lst vs) ∧ DpAll K H vs (rows.map dStay)
  hc : ∃ us, H c = some (.lst us) ∧ DpAll K H us (cuts.map dPm)
  ne : s ≠ c
theorem CAt.ex {K : PySem.W.Frag} {C : Addr} {H H' : Hp} {x dx s c : Addr} {rows : List Stay} {cuts : List (Str × Int)} {e : Int} (ex : Ex H H') (h : CAt K C H x dx s c rows cuts e) : CAt K C H' x dx s c rows cuts e := by
  obtain ⟨ob, ⟨vs, h1, h2⟩, ⟨us, h3, h4⟩, ne⟩ := h
  exact ⟨ex _ _ ob, ⟨vs, ex _ _ h1, dps_ex ex h2⟩, ⟨us, ex _ _ h3, dps_ex ex h4⟩, ne⟩
theorem ins_t {H : Hp} {x C dx : Addr} {fs gs : List (Str × V)} (h : H x = some (.ins C dx fs)) : ExT H (upd H x (.ins C dx gs)) := fun b xs r => by
  rcases r with r | ⟨o, r⟩
  · exact .inl (by rw [upd_ne (ne_of r h (by intro z; cases z))]; exact r)
  · exact .inr ⟨o, by rw [upd_ne (ne_of r h (by intro z; cases z))]; exact r⟩
theorem ne_obj {H : Hp} {a b : Addr} {o u : HO} (h1 : H a = some o) (h2 : H b = some u) (n : o ≠ u) : a ≠ b := fun e => by
  subst e
  rw [h1] at h2
  exact n (Option.some.inj h2)
/-- a row is put behind the stays -/
theorem CAt.stay {K : PySem.W.Frag} {C : Addr} {H : Hp} {x dx s c : Addr} {rows : List Stay} {cuts : List (Str × Int)} {e : Int} (h : CAt K C H x dx s c rows cuts e) {vs : List V} (hv : H s = some (.lst vs)) (dv : DpAll K H vs (rows.map dStay)) {v : V} {y : Stay} (hy : Dp K H v (dStay y)) : CAt K C (upd H s (.lst (vs ++ [v]))) x dx s c (rows ++ [y]) cuts e := by
  obtain ⟨ob, _, ⟨us, h3, h4⟩, ne⟩ := h
  have xs : x ≠ s := ne_obj ob hv (by intro z; cases z)
  have t := exT_mut (ys := vs ++ [v]) hv
  refine ⟨by rw [upd_ne xs]; exact ob, ⟨_, upd_same, ?_⟩, ⟨us, by rw [upd_ne (fun z => ne z.symm)]; exact h3, dps_exT t h4 (frozen_pms _)⟩, ne⟩
  rw [List.map_append]
  exact dps_app (dps_exT t dv (frozen_stays _)) (dps_one (dp_exT t hy (frozen_stay _)))
theorem CAt.cutm {K : PySem.W.Frag} {C : Addr} {H : Hp} {x dx s c : Addr} {rows : List Stay} {cuts : List (Str × Int)} {e : Int} (h : CAt K C H x dx s c rows cuts e) {us : List V} (hv : H c = some (.lst us)) (dv : DpAll K H us (cuts.map dPm)) {v : V} {y : Str × Int} (hy : Dp K H v (dPm y)) : CAt K C (upd H c (.lst (us ++ [v]))) x dx s c rows (cuts ++ [y]) e := by
  obtain ⟨ob, ⟨vs, h3, h4⟩, _, ne⟩ := h
  have xs : x ≠ c := ne_obj ob hv (by intro z; cases z)
  have t := exT_mut (ys := us ++ [v]) hv
  refine ⟨by rw [upd_ne xs]; exact ob, ⟨vs, by rw [upd_ne ne]; exact h3, dps_exT t h4 (frozen_stays _)⟩, ⟨_, upd_same, ?_⟩, ne⟩
  rw [List.map_append]
  exact dps_app (dps_exT t dv (frozen_pms _)) (dps_one (dp_exT t hy (frozen_pm _)))
theorem CAt.ende {K : PySem.W.Frag} {C : Addr} {H : Hp} {x dx s c : Addr} {rows : List Stay} {cuts : List (Str × Int)} {e : Int} (h : CAt K C H x dx s c rows cuts e) (e' : Int) : CAt K C (upd H x (.ins C dx (cFs s c e'))) x dx s c rows cuts e' := by
  obtain ⟨ob, ⟨vs, h1, h2⟩, ⟨us, h3, h4⟩, ne⟩ := h
  have t := ins_t (gs := cFs s c e') ob
  exact ⟨upd_same, ⟨vs, by rw [upd_ne (ne_obj h1 ob (by intro z; cases z))]; exact h1, dps_exT t h2 (frozen_stays _)⟩, ⟨us, by rw [upd_ne (ne_obj h3 ob (by intro z; cases z))]; exact h3, dps_exT t h4 (frozen_pms _)⟩, ne⟩
def sp_Course_init (K : PySem.W.Frag) (CC : Addr) : Sp := fun vs H Q _ => ∃ (H0 : Hp) (x dx : Addr), vs = [.ref x] ∧ Ex H0 H ∧ H0 x = none ∧ H x = some (.ins CC dx []) ∧ ∀ H' s c, Ex H0 H' → H0 s = none → H0 c = none → CAt K CC H' x dx s c [] [] 0 → Q .non H'
def sp_Course_follow (K : PySem.W.Frag) (C CC : Addr) : Sp := fun vs H Q _ => ∃ (H0 : Hp) (x dx s c l : Addr) (k : Int) (v : V) (D : LandD) (h : Hand) (rows : List Stay) (cuts : List (Str × Int)) (e : Int), vs = [.ref x, .ref l, .int k, v] ∧ Ex H0 H ∧ H0 x = none ∧ H0 s = none ∧ H0 c = none ∧ CAt K CC H x dx s c rows cuts e ∧ rows.length ≤ 200 ∧ cuts.length ≤ 200 ∧ IsLand K C H0 l D ∧ LandOk D ∧ Dp K H0 v (dHand h) ∧ HandOk D h ∧
  ∀ H', Ex H0 H' → CAt K CC H' x dx s c (rows ++ rowsOf D.pa h) (cuts ++ (run D.pa h).cuts) (if (run D.pa h).now > e then (run D.pa h).now else e) → Q .non H'
section
variable {P : Program} {w : World} {K : PySem.W.Frag} {mg : Str → Option Value} {base : Heap} {a : Ad}
theorem G_Course_init (T : Txt K mg a) : FnOk P w K mg base CX0 1 a.f_Course_init a.d_Course_init ["self"] (sp_Course_init K a.C_Course) := by
  refine T.F_Course_init.ok sc_Course_init (fun vs H Q E h => ?_) (fun cdv A outer s H vs Q E hr h => ?_)
  · obtain ⟨H0, x, dx, rfl, _⟩ := h
    rfl
  · obtain ⟨H0, x, dx, rfl, e0, x0, hx, k⟩ := h
    refine ⟨_, (pss_cons (ps_fld (pv 0) (pe_lst pa_nil) rfl)
      (pss_cons (ps_fld (pv 0) (pe_lst pa_nil) rfl)
      (pss_one (ps_fld (pv 0) pe_int rfl)))), ?_⟩
    refine ⟨Nat.zero_le _, fun s hs => ?_⟩
    have e1 := e0.trans (Ex.new (o := .lst []) hs)
    have hx1 := Ex.new (o := .lst []) hs _ _ hx
    have s0 : H0 s = none := fresh_back e0 hs
    have ms : (upd H s (.lst [])) s = some (.lst []) := upd_same
    generalize upd H s (.lst []) = H1 at e1 hx1 ms
    refine ⟨_, rfl, x, a.C_Course, dx, [], rfl, hx1, T.cl_Course, T.na_Course_stays, by show 0 < 1000; decide, ?_⟩
    have xs : x ≠ s := ne_obj hx1 ms (by intro z; cases z)
    have e2 := e1.mut (o := .ins a.C_Course dx (putF "stays" (.ref s) [])) x0
    have ms2 : (upd H1 x (.ins a.C_Course dx (putF "stays" (.ref s) []))) s = some (.lst []) := by rw [upd_ne (fun z => xs z.symm)]; exact ms
    have hx2 : (upd H1 x (.ins a.C_Course dx (putF "stays" (.ref s) []))) x = some (.ins a.C_Course dx (putF "stays" (.ref s) [])) := upd_same
    generalize upd H1 x (.ins a.C_Course dx (putF "stays" (.ref s) [])) = H2 at e2 ms2 hx2
    refine ⟨Nat.zero_le _, fun c hc => ?_⟩
    have sc : s ≠ c := fun z => by rw [← z, ms2] at hc; cases hc
    have e3 := e2.trans (Ex.new (o := .lst []) hc)
    have hx3 := Ex.new (o := .lst []) hc _ _ hx2
    have ms3 := Ex.new (o := .lst []) hc _ _ ms2
    have c0 : H0 c = none := fresh_back e2 hc
    have mc : (upd H2 c (.lst [])) c = some (.lst []) := upd_same
    generalize upd H2 c (.lst []) = H3 at e3 hx3 ms3 mc
    have xc : x ≠ c := ne_obj hx3 mc (by intro z; cases z)
    refine ⟨_, rfl, x, a.C_Course, dx, _, rfl, hx3, T.cl_Course, T.na_Course_cuts, by show 1 < 1000; decide, ?_⟩
    generalize hg : putF "cuts" (.ref c) (putF "stays" (.ref s) []) = g1
    have e4 := e3.mut (o := .ins a.C_Course dx g1) x0
    have ms4 : (upd H3 x (.ins a.C_Course dx g1)) s = some (.lst []) := by rw [upd_ne (fun z => xs z.symm)]; exact ms3
    have mc4 : (upd H3 x (.ins a.C_Course dx g1)) c = some (.lst []) := by rw [upd_ne (fun z => xc z.symm)]; exact mc
    have hx4 : (upd H3 x (.ins a.C_Course dx g1)) x = some (.ins a.C_Course dx g1) := upd_same
    generalize upd H3 x (.ins a.C_Course dx g1) = H4 at e4 ms4 mc4 hx4
    refine ⟨_, rfl, x, a.C_Course, dx, _, rfl, hx4, T.cl_Course, T.na_Course_end, by rw [← hg]; exact Nat.lt_of_le_of_lt (Nat.le_trans (length_putF ..) (Nat.succ_le_succ (length_putF ..))) (by show 2 < 1000; decide), ?_⟩
    have ef : putF "end" (.int 0) g1 = cFs s c 0 := by rw [← hg]; exact cFs_new s c 0
    rw [ef]
    refine k _ s c (e4.mut x0) s0 c0 ⟨upd_same, ⟨[], by rw [upd_ne (fun z => xs z.symm)]; exact ms4, .nil⟩, ⟨[], by rw [upd_ne (fun z => xc z.symm)]; exact mc4, .nil⟩, sc⟩
end
end EV

set_option Elab.async false
set_option linter.all false
set_option maxRecDepth 100000
set_option maxHeartbeats 4000000
namespace EV
open PySem PySem.Spec PyProof.Rows L2 EvS Evl FD
section
variable {P : Program} {w : World} {K : PySem.W.Frag} {mg : Str → Option Value} {base : Heap} {a : Ad}
theorem G_Course_follow (T : Txt K mg a) : FnOk P w K mg base CX0 3 a.f_Course_follow a.d_Course_follow ["self", "land", "number", "hand"] (sp_Course_follow K a.C a.C_Course) := by
  refine T.F_Course_follow.ok sc_Course_follow (fun vs H Q E h => ?_) (fun cdv A outer s0 H vs Q E hr h => ?_)
  · obtain ⟨H0, x, dx, s, c, l, n, v, D, h, rows, cuts, e, rfl, _⟩ := h
    rfl
  · obtain ⟨H0, x, dx, s, c, l, n, v, D, hd, rows, cuts, e, rfl, e0, x0, s00, c0, C0, lr, lc, IL, ok, dv, hok, k⟩ := h
    refine ⟨_, (pss_cons (ps_asg (pv 3) (pg_tup (by rfl) (pgs_cons (pg_name (i := 4) sc_Course_follow.nd rfl (Or.inl rfl)) (pgs_cons (pg_name (i := 5) sc_Course_follow.nd rfl (Or.inl rfl)) (pgs_cons (pg_name (i := 6) sc_Course_follow.nd rfl (Or.inl rfl)) pgs_nil)))))
      (pss_cons (ps_set (i := 7) sc_Course_follow.nd rfl (Or.inl rfl) pe_int)
      (pss_cons (ps_set (i := 8) sc_Course_follow.nd rfl (Or.inl rfl) pe_int)
      (pss_cons (ps_for PassesOwn.never rfl (pi_list (pv 6)) (pg_tup (by rfl) (pgs_cons (pg_name (i := 9) sc_Course_follow.nd rfl (Or.inl rfl)) (pgs_cons (pg_name (i := 10) sc_Course_follow.nd rfl (Or.inl rfl)) pgs_nil))) (pss_one (ps_if (pt_cmpR op_eq (pv 9) (pe_gS rfl T.c_WALK) (nomark _)) (pss_cons (ps_set (i := 11) sc_Course_follow.nd rfl (Or.inl rfl) (pe_meth (pv 1) T.cl T.m_minutes_between (G_minutes_between T) (hr.mono (by decide)) T.B_minutes_between .nil pass0 (pa_cons (pv 5) (pa_cons (pv 10) pa_nil))))
          (pss_cons (ps_if (pt_cmpR op_isN (pv 11) pe_non (nomark _)) pss_any pss_nil)
          (pss_cons (ps_expr (pe_bm PySem.F.plainAttrs_list PySem.F.slot_list_append PySem.F.type_list_append mt_append (pe_fld (pv 0) rfl) (pa_cons (pe_tup (pa_cons (pv 4) (pa_cons (pv 5) (pa_cons (pv 7) (pa_cons (pv 8) pa_nil))))) pa_nil)))
          (pss_cons (ps_aug (i := 8) sc_Course_follow.nd rfl (Or.inl rfl) (pv 11) ip_add)
          (pss_cons (ps_set (i := 5) sc_Course_follow.nd rfl (Or.inl rfl) (pv 10))
          (pss_one (ps_set (i := 7) sc_Course_follow.nd rfl (Or.inl rfl) (pv 8)))))))) (pss_cons (ps_aug (i := 8) sc_Course_follow.nd rfl (Or.inl rfl) (pv 10) ip_add)
          (pss_one (ps_if (pt_cmpR op_eq (pv 9) (pe_gS rfl T.c_CUT) (nomark _)) (pss_one (ps_expr (pe_bm PySem.F.plainAttrs_list PySem.F.slot_list_append PySem.F.type_list_append mt_append (pe_fld (pv 0) rfl) (pa_cons (pe_tup (pa_cons (pv 5) (pa_cons (pv 8) pa_nil))) pa_nil)))) pss_nil))))))
      (pss_cons (ps_expr (pe_bm PySem.F.plainAttrs_list PySem.F.slot_list_append PySem.F.type_list_append mt_append (pe_fld (pv 0) rfl) (pa_cons (pe_tup (pa_cons (pv 4) (pa_cons (pv 5) (pa_cons (pv 7) (pa_cons pe_non pa_nil))))) pa_nil)))
      (pss_one (ps_fld (pv 0) (pe_callB (call_max2 rfl) (by rfl) T.z_max (by decide +kernel) (pa_cons (pe_fld (pv 0) rfl) (pa_cons (pv 8) pa_nil))) rfl))))))), ?_⟩
    obtain ⟨t, u, vs, rfl, hT, hU, dds⟩ := hand_in dv
    have lv : vs.length = hd.ds.length := by rw [dps_len dds, List.length_map]
    have l30 := hok.len
    refine ⟨_, rfl, t, _, rfl, ex_t e0 hT, rfl, _, _, rfl, _, _, rfl, _, _, rfl, rfl, ?_⟩
    refine ⟨_, rfl, u, rfl, ⟨_, ex_l e0 hU⟩, for_list (K := K) (a := u) (xs := vs) (fun i σ H' => ∃ v9 v10 v11, σ = [some (.ref x), some (.ref l), some (.int n), some (.ref t), some (.str hd.n), some (.str (runTo D.pa hd i).here), some (.ref u), some (.int (runTo D.pa hd i).since), some (.int (runTo D.pa hd i).now), v9, v10, v11] ∧ Ex H0 H' ∧ CAt K a.C_Course H' x dx s c (rows ++ (runTo D.pa hd i).rows) (cuts ++ (runTo D.pa hd i).cuts) e) ?_ (fun i σ H' _ z => by obtain ⟨_, _, _, rfl, ex, _⟩ := z; exact ex_l ex hU) ?_ ?_⟩
    · refine ⟨none, none, none, rfl, e0, ?_⟩
      show CAt K a.C_Course H x dx s c (rows ++ []) (cuts ++ []) e
      rw [List.append_nil, List.append_nil]
      exact C0
    · rintro i y σ H1 hy ⟨v9, v10, v11, rfl, ex, C1⟩
      obtain ⟨d, hdd, hm, dp⟩ := pickE (dps_ex ex dds) hy
      have hi : i < hd.ds.length := (List.getElem?_eq_some_iff.mp hdd).1
      have rl := run_len D.pa hd i
      obtain ⟨tt, rfl, hTT⟩ := deed_in dp
      have nx := runTo_more (pa := D.pa) hdd
      have hin := here_in hok i (by omega)
      cases d with
      | walk z =>
        obtain ⟨m, hmm⟩ := Option.isSome_iff_exists.mp (hok.path i z hdd)
        refine ⟨tt, _, rfl, hTT, rfl, _, _, rfl, _, _, rfl, rfl, ?_⟩
        refine ⟨_, rfl, rfl, _, rfl, ?_⟩
        rw [decide_eq_true (rfl : V.str "walk" = V.str "walk")]
        refine iteT ?_
        obtain ⟨dl, wi, pl, li, pa, rws, prs, L⟩ := id IL
        refine ⟨_, rfl, l, dl, _, rfl, ex _ _ L.ob, fs_minutes_between .., _, rfl, _, rfl, l, D, _, z, rfl, IsLand.ex ex IL, ok, hin, hok.to z hm, fun H2 e2 => ?_⟩
        rw [hmm]
        have ex2 := ex.trans e2
        obtain ⟨vsS, hS, dS⟩ := (C1.ex e2).hs
        have C2 := C1.ex e2
        have room : vsS.length < sizeLine := sz_lt (by rw [dps_len dS, List.length_map, List.length_append]; omega)
        refine ⟨_, rfl, rfl, _, rfl, iteF ?_⟩
        refine ⟨_, rfl, x, a.C_Course, dx, _, _, rfl, C2.ob, T.cl_Course, T.na_Course_stays, cFs_stays .., .inl ⟨rfl, _, SqL.of hS⟩, _, rfl, _, rfl, _, rfl, _, rfl, by show 4 ≤ sizeLine; decide, fun q hq => ?_⟩
        have e3 := Ex.new (o := .tup [.str hd.n, .str (runTo D.pa hd i).here, .int (runTo D.pa hd i).since, .int (runTo D.pa hd i).now]) hq
        have dq : Dp K (upd H2 q (.tup [.str hd.n, .str (runTo D.pa hd i).here, .int (runTo D.pa hd i).since, .int (runTo D.pa hd i).now])) (.ref q) (dStay ⟨hd.n, (runTo D.pa hd i).here, (runTo D.pa hd i).since, some (runTo D.pa hd i).now⟩) := .tup (st_of upd_same) (.cons (.str _) (.cons (.str _) (.cons (.int _) (.cons (.int _) .nil))))
        generalize upd H2 q (.tup [.str hd.n, .str (runTo D.pa hd i).here, .int (runTo D.pa hd i).since, .int (runTo D.pa hd i).now]) = H3 at e3 dq
        refine ⟨s, _, _, rfl, rfl, e3 _ _ hS, room, ?_⟩
        have C3 := (C2.ex e3).stay (e3 _ _ hS) (dps_ex e3 dS) dq
        have ex3 := (ex2.trans e3).mut (o := .lst (vsS ++ [.ref q])) s00
        refine ⟨_, rfl, _, rfl, _, _, rfl, rfl, ?_⟩
        refine ⟨_, rfl, _, rfl, ?_⟩
        refine ⟨some (.str "walk"), some (.str z), some (.int m), ?_, ex3, ?_⟩
        rotate_left
        · rw [nx]
          show CAt K a.C_Course _ x dx s c (rows ++ ((runTo D.pa hd i).rows ++ [_])) (cuts ++ (runTo D.pa hd i).cuts) e
          rw [← List.append_assoc]
          exact C3
        · rw [nx]
          show _ = [some (V.ref x), some (.ref l), some (.int n), some (.ref t), some (.str hd.n), some (.str z), some (.ref u), some (.int ((runTo D.pa hd i).now + (minB D.pa (runTo D.pa hd i).here z).getD 0)), some (.int ((runTo D.pa hd i).now + (minB D.pa (runTo D.pa hd i).here z).getD 0)), some (.str "walk"), some (.str z), some (.int m)]
          rw [hmm]
          rfl
      | cut m =>
        refine ⟨tt, _, rfl, hTT, rfl, _, _, rfl, _, _, rfl, rfl, ?_⟩
        refine ⟨_, rfl, rfl, _, rfl, ?_⟩
        rw [decide_eq_false (show ¬ V.str "cut" = V.str "walk" from fun z => absurd (V.str.inj z) (by decide +kernel))]
        refine iteF ?_
        refine ⟨_, rfl, _, rfl, _, _, rfl, rfl, ?_⟩
        refine ⟨_, rfl, rfl, _, rfl, ?_⟩
        rw [decide_eq_true (rfl : V.str "cut" = V.str "cut")]
        obtain ⟨vsC, hC, dC⟩ := C1.hc
        have room : vsC.length < sizeLine := sz_lt (by rw [dps_len dC, List.length_map, List.length_append]; omega)
        refine iteT ⟨_, rfl, x, a.C_Course, dx, _, _, rfl, C1.ob, T.cl_Course, T.na_Course_cuts, cFs_cuts .., .inl ⟨rfl, _, SqL.of hC⟩, _, rfl, _, rfl, by show 2 ≤ sizeLine; decide, fun q hq => ?_⟩
        have e3 := Ex.new (o := .tup [.str (runTo D.pa hd i).here, .int ((runTo D.pa hd i).now + m)]) hq
        have dq : Dp K (upd H1 q (.tup [.str (runTo D.pa hd i).here, .int ((runTo D.pa hd i).now + m)])) (.ref q) (dPm ((runTo D.pa hd i).here, (runTo D.pa hd i).now + m)) := .tup (st_of upd_same) (.cons (.str _) (.cons (.int _) .nil))
        refine ⟨c, _, _, rfl, rfl, e3 _ _ hC, room, ?_⟩
        generalize upd H1 q (.tup [.str (runTo D.pa hd i).here, .int ((runTo D.pa hd i).now + m)]) = H3 at e3 dq
        have C3 := (C1.ex e3).cutm (e3 _ _ hC) (dps_ex e3 dC) dq
        have ex3 := (ex.trans e3).mut (o := .lst (vsC ++ [.ref q])) c0
        refine ⟨some (.str "cut"), some (.int m), v11, ?_, ex3, ?_⟩
        rotate_left
        · rw [nx]
          show CAt K a.C_Course _ x dx s c (rows ++ (runTo D.pa hd i).rows) (cuts ++ ((runTo D.pa hd i).cuts ++ [_])) e
          rw [← List.append_assoc cuts]
          exact C3
        · rw [nx]
          rfl
      | wait m =>
        refine ⟨tt, _, rfl, hTT, rfl, _, _, rfl, _, _, rfl, rfl, ?_⟩
        refine ⟨_, rfl, rfl, _, rfl, ?_⟩
        rw [decide_eq_false (show ¬ V.str "wait" = V.str "walk" from fun z => absurd (V.str.inj z) (by decide +kernel))]
        refine iteF ?_
        refine ⟨_, rfl, _, rfl, _, _, rfl, rfl, ?_⟩
        refine ⟨_, rfl, rfl, _, rfl, ?_⟩
        rw [decide_eq_false (show ¬ V.str "wait" = V.str "cut" from fun z => absurd (V.str.inj z) (by decide +kernel))]
        refine iteF ⟨some (.str "wait"), some (.int m), v11, ?_, ex, ?_⟩
        rotate_left
        · rw [nx]
          exact C1
        · rw [nx]
          rfl
    · rintro σ H1 ⟨v9, v10, v11, rfl, ex, C1⟩
      have er : runTo D.pa hd vs.length = run D.pa hd := by rw [lv]; rfl
      rw [er] at C1 ⊢
      have rl := run_len D.pa hd hd.ds.length
      have rl : (run D.pa hd).rows.length ≤ hd.ds.length ∧ (run D.pa hd).cuts.length ≤ hd.ds.length := rl
      obtain ⟨vsS, hS, dS⟩ := C1.hs
      have room : vsS.length < sizeLine := sz_lt (by rw [dps_len dS, List.length_map, List.length_append]; omega)
      refine ⟨_, rfl, x, a.C_Course, dx, _, _, rfl, C1.ob, T.cl_Course, T.na_Course_stays, cFs_stays .., .inl ⟨rfl, _, SqL.of hS⟩, _, rfl, _, rfl, _, rfl, by show 4 ≤ sizeLine; decide, fun q hq => ?_⟩
      have e3 := Ex.new (o := .tup [.str hd.n, .str (run D.pa hd).here, .int (run D.pa hd).since, .non]) hq
      have dq : Dp K (upd H1 q (.tup [.str hd.n, .str (run D.pa hd).here, .int (run D.pa hd).since, .non])) (.ref q) (dStay ⟨hd.n, (run D.pa hd).here, (run D.pa hd).since, none⟩) := .tup (st_of upd_same) (.cons (.str _) (.cons (.str _) (.cons (.int _) (.cons .non .nil))))
      generalize upd H1 q (.tup [.str hd.n, .str (run D.pa hd).here, .int (run D.pa hd).since, .non]) = H3 at e3 dq
      refine ⟨s, _, _, rfl, rfl, e3 _ _ hS, room, ?_⟩
      have C3 := (C1.ex e3).stay (e3 _ _ hS) (dps_ex e3 dS) dq
      have ex3 := (ex.trans e3).mut (o := .lst (vsS ++ [.ref q])) s00
      rw [List.append_assoc] at C3
      refine ⟨_, rfl, x, a.C_Course, dx, _, _, rfl, C3.ob, T.cl_Course, T.na_Course_end, cFs_endv .., _, rfl, _, _, rfl, ?_⟩
      refine ⟨_, rfl, x, a.C_Course, dx, _, rfl, C3.ob, T.cl_Course, T.na_Course_end, by show 3 < 1000; decide, ?_⟩
      rw [cFs_end]
      exact k _ (ex3.mut x0) (C3.ende _)
end
end EV

set_option Elab.async false
set_option linter.all false
set_option maxRecDepth 100000
set_option maxHeartbeats 4000000
namespace EV
open PySem PySem.Spec PyProof.Rows L2 EvS Evl FD
/-! ### all hands -/
structure HandsOk (D : LandD) (hs : List Hand) : Prop where
  l5 : hs.length ≤ 5
  nd : (hs.map (·.n)).Nodup
  ok : ∀ h ∈ hs, HandOk D h
def allRows (D : LandD) (hs : List Hand) : List Stay := hs.flatMap (rowsOf D.pa)
def allCuts (D : LandD) (hs : List Hand) : List (Str × Int) := hs.flatMap fun h => (run D.pa h).cuts
def endOf (D : LandD) (hs : List Hand) : Int := hs.foldl (fun e h => if (run D.pa h).now > e then (run D.pa h).now else e) 0
structure HandsIn (K : PySem.W.Frag) (H : Hp) (p : Addr) (vs : List V) (hs : List Hand) : Prop where
  at_ : SqL K H p vs
  ds : DpAll K H vs (hs.map dHand)
theorem HandsIn.ex {K : PySem.W.Frag} {H H' : Hp} {p : Addr} {vs : List V} {hs : List Hand} (e : Ex H H') (h : HandsIn K H p vs hs) : HandsIn K H' p vs hs := ⟨ex_l e h.at_, dps_ex e h.ds⟩
theorem HandsIn.len {K : PySem.W.Frag} {H : Hp} {p : Addr} {vs : List V} {hs : List Hand} (h : HandsIn K H p vs hs) : vs.length = hs.length := by rw [dps_len h.ds, List.length_map]
def sp_check_names_hands (K : PySem.W.Frag) : Sp := fun vs H Q _ => ∃ (p : Addr) (us : List V) (hs : List Hand) (D : LandD), vs = [.ref p] ∧ HandsIn K H p us hs ∧ HandsOk D hs ∧ ∀ H', Ex H H' → Q .non H'
def sp2__check_places (K : PySem.W.Frag) (C : Addr) : Sp := fun vs H Q _ => ∃ (l p : Addr) (us : List V) (hs : List Hand) (D : LandD), vs = [.ref l, .ref p] ∧ IsLand K C H l D ∧ HandsIn K H p us hs ∧ HandsOk D hs ∧ ∀ H', Ex H H' → Q .non H'
def sp__check_deeds (K : PySem.W.Frag) : Sp := fun vs H Q _ => ∃ (p : Addr) (us : List V) (hs : List Hand) (D : LandD), vs = [.ref p] ∧ HandsIn K H p us hs ∧ HandsOk D hs ∧ ∀ H', Ex H H' → Q .non H'
def sp__is_deed (K : PySem.W.Frag) : Sp := fun vs H Q _ => ∃ (v : V) (d : Deed), vs = [v] ∧ Dp K H v (dDeed d) ∧ (match d with | .walk _ => True | .cut m => 1 ≤ m ∧ m ≤ 1000 | .wait m => 1 ≤ m ∧ m ≤ 1000) ∧ ∀ H', Ex H H' → Q (.bl true) H'
section
variable {P : Program} {w : World} {K : PySem.W.Frag} {mg : Str → Option Value} {base : Heap} {a : Ad}
theorem G_check_names_hands (T : Txt K mg a) : FnOk P w K mg base CX0 2 a.f_check_names_hands a.d_check_names_hands ["hands"] (sp_check_names_hands K) := by
  refine T.F_check_names_hands.ok sc_check_names_hands (fun vs H Q E h => ?_) (fun cdv A outer s H vs Q E hr h => ?_)
  · obtain ⟨p, us, hs, D, rfl, _⟩ := h
    rfl
  · obtain ⟨p, us, hs, D, rfl, HI, ok, k⟩ := h
    have lu := HI.len
    have l5 := ok.l5
    refine ⟨_, (pss_cons (ps_setLc (i := 1) (own := [("name", 2), ("_", 3)]) (g := gTup K 3 (gCons (gName 2) (gCons (gName 3) (gCons (gName 3) gNil)))) (tt := tYes) rfl sc_check_names_hands.nd rfl rfl (sw_true rfl rfl rfl (by decide +kernel)) (pi_list (pv 0)) (blkOk_by (N := ["hands", "names", "name", "_"]) (sc := defScope s_check_names_hands) (by decide +kernel)) (fun _ _ _ _ _ => (pg_tup (by rfl) (pgs_cons (pg_name (i := 2) sc_check_names_hands.nd rfl (Or.inl rfl)) (pgs_cons (pg_name (i := 3) sc_check_names_hands.nd rfl (Or.inl rfl)) (pgs_cons (pg_name (i := 3) sc_check_names_hands.nd rfl (Or.inl rfl)) pgs_nil))))) (fun _ _ _ _ _ => pts_nil) (fun _ _ _ _ _ => (pv 2)))
      (pss_cons (ps_if (pt_cmpR op_gt (pe_callB call_len_seq (by rfl) T.z_len PySem.boot_len (pa_cons (pv 0) pa_nil)) (pe_gI rfl T.c_MOST_HANDS) (nomark _)) pss_any pss_nil)
      (pss_one (ps_if (PW.pt (pw_or (pt_cmpR op_ne (pe_lenSetS rfl (by rfl) T.z_len (by rfl) T.z_set (pv 1)) (pe_callB call_len_seq (by rfl) T.z_len PySem.boot_len (pa_cons (pv 1) pa_nil)) (nomark _)) (pw_or1 (pt_not (pt_val (pe_callB (cr_all rfl) (by rfl) T.z_all (by decide +kernel) (pa_cons (pe_lc (own := [("name", 2)]) (g := gName 2) (tt := tYes) rfl sc_check_names_hands.nd (pi_list (pv 1)) (blkOk_by (N := ["hands", "names", "name", "_"]) (sc := defScope s_check_names_hands) (by decide +kernel)) (fun _ _ _ _ _ => pg_name (i := 2) sc_check_names_hands.nd rfl (Or.inl rfl)) (fun _ _ _ _ _ => pts_nil) (fun _ _ _ _ _ => (pe_call (G_is_name T) (hr.mono (by decide)) (by rfl) T.g_is_name T.k_is_name T.B_is_name .nil pass0 (pa_cons (pv 2) pa_nil)))) pa_nil))))))) pss_any pss_nil)))), ?_⟩
    refine ⟨_, rfl, p, rfl, ⟨_, HI.at_⟩, fun B hB => lcY_list (K := K) (a := p) (xs := us) (fun i H' => Ex H H' ∧ H' B = some (.lst (((hs.map (·.n)).take i).map V.str))) ⟨Ex.new hB, upd_same⟩ (fun i H' _ z => ex_l z.1 HI.at_) (fun i y H' hy z => ?_) (fun H1 z => ?_)⟩
    · obtain ⟨e, m⟩ := z
      obtain ⟨h, hh, hm, dp⟩ := pickE (dps_ex e HI.ds) hy
      obtain ⟨t, u, ws, rfl, hT, _, _⟩ := hand_in dp
      have hi : i < hs.length := (List.getElem?_eq_some_iff.mp hh).1
      have hn : (hs.map (·.n))[i]? = some h.n := by rw [List.getElem?_map, hh]; rfl
      refine ⟨t, _, rfl, hT, rfl, _, _, rfl, _, _, rfl, _, _, rfl, rfl, rfl, _, rfl, _, m, sz_lt (by rw [List.length_map, List.length_take, List.length_map]; omega), e.mut hB, ?_⟩
      rw [upd_same, take_one hn, List.map_append]
      rfl
    obtain ⟨e1, m1⟩ := z
    rw [lu, ← List.length_map (f := (·.n)), List.take_length] at m1
    have ln : (hs.map (·.n)).length = hs.length := List.length_map ..
    have nm : ∀ n ∈ hs.map (·.n), isName n = true := fun n hn => by
      obtain ⟨h, hh, rfl⟩ := List.mem_map.mp hn
      exact (ok.ok h hh).n
    have nd := ok.nd
    generalize hs.map (·.n) = ns at m1 ln nm nd
    have lV : (ns.map V.str).length = ns.length := List.length_map ..
    refine ⟨_, rfl, p, _, rfl, .inl (ex_l e1 HI.at_), _, _, rfl, rfl, _, rfl, ?_⟩
    refine ite2 (fun c => absurd (of_decide_eq_true c) (by omega)) (fun _ => ?_)
    have dl := (dd_len_eq ns [] List.nodup_nil).mpr (by rw [List.nil_append]; exact nd)
    rw [List.length_nil, Nat.zero_add] at dl
    refine ⟨_, rfl, B, ns, rfl, .inl (SqL.of m1), by omega, _, rfl, B, _, rfl, .inl (SqL.of m1), rfl, _, rfl, ?_⟩
    rw [lV, dl]
    refine ite2 (fun c => ?_) (fun _ => ?_)
    · rw [decide_eq_true rfl] at c
      cases c
    refine ⟨_, rfl, B, rfl, ⟨_, SqL.of m1⟩, fun F hF => lcY_list (K := K) (a := B) (xs := ns.map V.str) (fun i H' => Ex H1 H' ∧ H' F = some (.lst ((List.replicate i true).map V.bl)) ∧ i ≤ ns.length) ⟨Ex.new hF, upd_same, Nat.zero_le _⟩ (fun i H' _ z => SqL.of (z.1 _ _ m1)) (fun i y H' hy z => ?_) (fun H2 z => ?_)⟩
    · obtain ⟨e, m, _⟩ := z
      have hi : i < ns.length := by have := (List.getElem?_eq_some_iff.mp hy).1; rwa [lV] at this
      rw [List.getElem?_map, List.getElem?_eq_getElem hi] at hy
      obtain rfl := Option.some.inj hy
      have hn := nm _ (List.getElem_mem hi)
      generalize ns[i] = x at hn
      have := name_len hn
      refine ⟨rfl, _, rfl, x, rfl, by omega, fun H3 e3 => ?_⟩
      rw [hn]
      refine ⟨_, e3 _ _ m, sz_lt (by rw [List.length_map, List.length_replicate]; omega), (e.trans e3).mut hF, ?_, hi⟩
      rw [upd_same, List.replicate_succ', List.map_append]
      rfl
    · obtain ⟨e, m, _⟩ := z
      refine ⟨F, List.replicate _ true, rfl, SqL.of m, _, rfl, ?_⟩
      have al : (List.replicate (ns.map V.str).length true).all id = true := by
        rw [List.all_eq_true]
        intro b hb
        rw [List.eq_of_mem_replicate hb]
        rfl
      rw [al]
      exact iteNT (k _ (e1.trans e))
theorem G__is_deed (T : Txt K mg a) : FnOk P w K mg base CX0 1 a.f__is_deed a.d__is_deed ["deed"] (sp__is_deed K) := by
  refine T.F__is_deed.ok sc__is_deed (fun vs H Q E h => ?_) (fun cdv A outer s H vs Q E hr h => ?_)
  · obtain ⟨v, d, rfl, _⟩ := h
    rfl
  · obtain ⟨v, d, rfl, dv, ok, k⟩ := h
    obtain ⟨t, rfl, hT⟩ := deed_in dv
    refine ⟨_, (pss_cons (ps_if (pt_cmpR op_in_seq (pe_ix ix_tup (pv 0) pe_int (fun _ _ => rfl)) (pe_tup (pa_cons (pe_gS rfl T.c_CUT) (pa_cons (pe_gS rfl T.c_WAIT) pa_nil))) (by rfl)) (pss_one (ps_ret (pe_chain op_le op_le pe_int (pe_ix ix_tup (pv 0) pe_int (fun _ _ => rfl)) (pe_gI rfl T.c_MOST_MINUTES)))) pss_nil)
      (pss_one (ps_ret (pe_cmpR op_eq (pe_ix ix_tup (pv 0) pe_int (fun _ _ => rfl)) (pe_gS rfl T.c_WALK) (nomark _))))), ?_⟩
    have e1 : ∀ u, H u = none → Ex H (upd H u (.tup ((["cut", "wait"] : List Str).map V.str))) := fun u hu => Ex.new hu
    cases d with
    | walk z =>
      refine ⟨_, rfl, t, _, _, _, rfl, rfl, hT, atI_nat (j := 0) rfl, by show 2 ≤ sizeLine; decide, fun u hu => ?_⟩
      refine ⟨u, _, rfl, .inr (st_of (xs := (["cut", "wait"] : List Str).map V.str) upd_same), rfl, flat_str _, _, rfl, ?_⟩
      rw [inV_str_not (by decide +kernel)]
      refine iteF ⟨_, rfl, t, _, _, _, rfl, rfl, ex_t (e1 u hu) hT, atI_nat (j := 0) rfl, rfl, ?_⟩
      rw [decide_eq_true (rfl : V.str "walk" = V.str "walk")]
      exact k _ (e1 u hu)
    | cut m =>
      refine ⟨_, rfl, t, _, _, _, rfl, rfl, hT, atI_nat (j := 0) rfl, by show 2 ≤ sizeLine; decide, fun u hu => ?_⟩
      refine ⟨u, _, rfl, .inr (st_of (xs := (["cut", "wait"] : List Str).map V.str) upd_same), rfl, flat_str _, _, rfl, ?_⟩
      rw [inV_str (by decide +kernel)]
      refine iteT ⟨_, rfl, t, _, _, _, rfl, rfl, ex_t (e1 u hu) hT, atI_nat (j := 1) rfl, _, _, rfl, rfl, _, rfl, ?_⟩
      refine ite2 (fun _ => ?_) (fun n => absurd (decide_eq_true ok.1) n)
      refine ⟨_, _, rfl, rfl, ?_⟩
      show Q (.bl (decide (m ≤ 1000))) _
      rw [decide_eq_true ok.2]
      exact k _ (e1 u hu)
    | wait m =>
      refine ⟨_, rfl, t, _, _, _, rfl, rfl, hT, atI_nat (j := 0) rfl, by show 2 ≤ sizeLine; decide, fun u hu => ?_⟩
      refine ⟨u, _, rfl, .inr (st_of (xs := (["cut", "wait"] : List Str).map V.str) upd_same), rfl, flat_str _, _, rfl, ?_⟩
      rw [inV_str (by decide +kernel)]
      refine iteT ⟨_, rfl, t, _, _, _, rfl, rfl, ex_t (e1 u hu) hT, atI_nat (j := 1) rfl, _, _, rfl, rfl, _, rfl, ?_⟩
      refine ite2 (fun _ => ?_) (fun n => absurd (decide_eq_true ok.1) n)
      refine ⟨_, _, rfl, rfl, ?_⟩
      show Q (.bl (decide (m ≤ 1000))) _
      rw [decide_eq_true ok.2]
      exact k _ (e1 u hu)
theorem G__check_places (T : Txt K mg a) : FnOk P w K mg base CX0 2 a.f__check_places a.d__check_places ["land", "hands"] (sp2__check_places K a.C) := by
  refine T.F__check_places.ok sc__check_places (fun vs H Q E h => ?_) (fun cdv A outer s H vs Q E hr h => ?_)
  · obtain ⟨l, p, us, hs, D, rfl, _⟩ := h
    rfl
  · obtain ⟨l, p, us, hs, D, rfl, IL, HI, ok, k⟩ := h
    refine ⟨_, (pss_one (ps_for PassesOwn.never rfl (pi_list (pv 1)) (pg_tup (by rfl) (pgs_cons (pg_name (i := 2) sc__check_places.nd rfl (Or.inl rfl)) (pgs_cons (pg_name (i := 3) sc__check_places.nd rfl (Or.inl rfl)) (pgs_cons (pg_name (i := 4) sc__check_places.nd rfl (Or.inl rfl)) pgs_nil)))) (pss_cons (ps_expr (pe_meth (pv 0) T.cl T.m_check_place (G_check_place T) (hr.mono (by decide)) T.B_check_place .nil pass0 (pa_cons (pv 3) pa_nil)))
        (pss_one (ps_for PassesOwn.never rfl (pi_list (pv 4)) (pg_name (i := 5) sc__check_places.nd rfl (Or.inl rfl)) (pss_one (ps_if (pt_cmpR op_eq (pe_ix ix_tup (pv 5) pe_int (fun _ _ => rfl)) (pe_gS rfl T.c_WALK) (nomark _)) (pss_one (ps_expr (pe_meth (pv 0) T.cl T.m_check_place (G_check_place T) (hr.mono (by decide)) T.B_check_place .nil pass0 (pa_cons (pe_ix ix_tup (pv 5) pe_int (fun _ _ => rfl)) pa_nil)))) pss_nil))))))), ?_⟩
    refine ⟨_, rfl, p, rfl, ⟨_, HI.at_⟩, for_list (K := K) (a := p) (xs := us) (fun i σ H' => ∃ v2 v3 v4 v5, σ = [some (.ref l), some (.ref p), v2, v3, v4, v5] ∧ Ex H H') ⟨none, none, none, none, rfl, Ex.refl H⟩ (fun i σ H' _ z => by obtain ⟨_, _, _, _, rfl, e⟩ := z; exact ex_l e HI.at_) ?_ ?_⟩
    · rintro i y σ H1 hy ⟨v2, v3, v4, v5, rfl, e⟩
      obtain ⟨h, hh, hm, dp⟩ := pickE (dps_ex e HI.ds) hy
      obtain ⟨t, u, ws, rfl, hT, hU, dds⟩ := hand_in dp
      have hok := ok.ok h hm
      refine ⟨t, _, rfl, hT, rfl, _, _, rfl, _, _, rfl, _, _, rfl, rfl, ?_⟩
      obtain ⟨dl, wi, pl, li, pa, rws, prs, L⟩ := id (IsLand.ex e IL)
      refine ⟨_, rfl, l, dl, _, rfl, L.ob, fs_check_place .., _, rfl, l, h.s, D, rfl, IsLand.ex e IL, hok.s, ?_⟩
      refine ⟨_, rfl, u, rfl, ⟨_, hU⟩, for_list (K := K) (a := u) (xs := ws) (fun j σ H' => ∃ v5, σ = [some (.ref l), some (.ref p), some (.str h.n), some (.str h.s), some (.ref u), v5] ∧ Ex H1 H') ⟨v5, rfl, Ex.refl _⟩ (fun j σ H' _ z => by obtain ⟨_, rfl, e⟩ := z; exact ex_l e hU) ?_ ?_⟩
      · rintro j y σ H2 hy2 ⟨v5, rfl, e2⟩
        obtain ⟨d, hd, hdm, dp2⟩ := pickE (dps_ex e2 dds) hy2
        obtain ⟨tt, rfl, hTT⟩ := deed_in dp2
        cases d with
        | walk z =>
          refine ⟨_, rfl, tt, _, _, _, rfl, rfl, hTT, atI_nat (j := 0) rfl, rfl, _, rfl, ?_⟩
          rw [decide_eq_true (rfl : V.str "walk" = V.str "walk")]
          have IL2 := IsLand.ex (e.trans e2) IL
          obtain ⟨dl, wi, pl, li, pa, rws, prs, L⟩ := id IL2
          refine iteT ⟨_, rfl, l, dl, _, rfl, L.ob, fs_check_place .., _, rfl, tt, _, _, _, rfl, rfl, hTT, atI_nat (j := 1) rfl, l, z, D, rfl, IL2, hok.to z hdm, ?_⟩
          exact ⟨_, rfl, e2⟩
        | cut m =>
          refine ⟨_, rfl, tt, _, _, _, rfl, rfl, hTT, atI_nat (j := 0) rfl, rfl, _, rfl, ?_⟩
          rw [decide_eq_false (show ¬ V.str "cut" = V.str "walk" from fun z => absurd (V.str.inj z) (by decide +kernel))]
          exact iteF ⟨_, rfl, e2⟩
        | wait m =>
          refine ⟨_, rfl, tt, _, _, _, rfl, rfl, hTT, atI_nat (j := 0) rfl, rfl, _, rfl, ?_⟩
          rw [decide_eq_false (show ¬ V.str "wait" = V.str "walk" from fun z => absurd (V.str.inj z) (by decide +kernel))]
          exact iteF ⟨_, rfl, e2⟩
      · rintro σ H2 ⟨v5, rfl, e2⟩
        exact ⟨_, _, _, _, rfl, e.trans e2⟩
    · rintro σ H1 ⟨v2, v3, v4, v5, rfl, e⟩
      exact k _ e
theorem G__check_deeds (T : Txt K mg a) : FnOk P w K mg base CX0 2 a.f__check_deeds a.d__check_deeds ["hands"] (sp__check_deeds K) := by
  refine T.F__check_deeds.ok sc__check_deeds (fun vs H Q E h => ?_) (fun cdv A outer s H vs Q E hr h => ?_)
  · obtain ⟨p, us, hs, D, rfl, _⟩ := h
    rfl
  · obtain ⟨p, us, hs, D, rfl, HI, ok, k⟩ := h
    refine ⟨_, (pss_one (ps_for PassesOwn.never rfl (pi_list (pv 0)) (pg_tup (by rfl) (pgs_cons (pg_name (i := 1) sc__check_deeds.nd rfl (Or.inl rfl)) (pgs_cons (pg_name (i := 2) sc__check_deeds.nd rfl (Or.inl rfl)) (pgs_cons (pg_name (i := 3) sc__check_deeds.nd rfl (Or.inl rfl)) pgs_nil)))) (pss_cons (ps_if (pt_cmpR op_gt (pe_callB call_len_seq (by rfl) T.z_len PySem.boot_len (pa_cons (pv 3) pa_nil)) (pe_gI rfl T.c_MOST_DEEDS) (nomark _)) pss_any pss_nil)
        (pss_one (ps_if (pt_not (pt_val (pe_callB (cr_all rfl) (by rfl) T.z_all (by decide +kernel) (pa_cons (pe_lc (own := [("deed", 4)]) (g := gName 4) (tt := tYes) rfl sc__check_deeds.nd (pi_list (pv 3)) (blkOk_by (N := ["hands", "name", "_", "deeds", "deed"]) (sc := defScope s__check_deeds) (by decide +kernel)) (fun _ _ _ _ _ => pg_name (i := 4) sc__check_deeds.nd rfl (Or.inl rfl)) (fun _ _ _ _ _ => pts_nil) (fun _ _ _ _ _ => (pe_call (G__is_deed T) (hr.mono (by decide)) (by rfl) T.g__is_deed T.k__is_deed T.B__is_deed .nil pass0 (pa_cons (pv 4) pa_nil)))) pa_nil)))) pss_any pss_nil))))), ?_⟩
    refine ⟨_, rfl, p, rfl, ⟨_, HI.at_⟩, for_list (K := K) (a := p) (xs := us) (fun i σ H' => ∃ v1 v2 v3, σ = [some (.ref p), v1, v2, v3, none] ∧ Ex H H') ⟨none, none, none, rfl, Ex.refl H⟩ (fun i σ H' _ z => by obtain ⟨_, _, _, rfl, e⟩ := z; exact ex_l e HI.at_) ?_ ?_⟩
    · rintro i y σ H1 hy ⟨v1, v2, v3, rfl, e⟩
      obtain ⟨h, hh, hm, dp⟩ := pickE (dps_ex e HI.ds) hy
      obtain ⟨t, u, ws, rfl, hT, hU, dds⟩ := hand_in dp
      have hok := ok.ok h hm
      have l30 := hok.len
      have lw : ws.length = h.ds.length := by rw [dps_len dds, List.length_map]
      refine ⟨t, _, rfl, hT, rfl, _, _, rfl, _, _, rfl, _, _, rfl, rfl, ?_⟩
      refine ⟨_, rfl, u, _, rfl, .inl hU, _, _, rfl, rfl, _, rfl, ?_⟩
      refine ite2 (fun c => absurd (of_decide_eq_true c) (by omega)) (fun _ => ?_)
      refine ⟨_, rfl, u, rfl, ⟨_, hU⟩, fun F hF => lcY_list (K := K) (a := u) (xs := ws) (fun i H' => Ex H1 H' ∧ H' F = some (.lst ((List.replicate i true).map V.bl)) ∧ i ≤ ws.length) ⟨Ex.new hF, upd_same, Nat.zero_le _⟩ (fun i H' _ z => ex_l z.1 hU) (fun i y H' hy z => ?_) (fun H2 z => ?_)⟩
      · obtain ⟨e2, m, _⟩ := z
        obtain ⟨d, hd, hdm, dp2⟩ := pickE (dps_ex e2 dds) hy
        have hi := (List.getElem?_eq_some_iff.mp hy).1
        refine ⟨rfl, _, rfl, y, d, rfl, dp2, ?_, fun H3 e3 => ?_⟩
        · cases d with
          | walk z => trivial
          | cut z => exact hok.cut z hdm
          | wait z => exact hok.wait z hdm
        · refine ⟨_, e3 _ _ m, sz_lt (by rw [List.length_map, List.length_replicate]; omega), (e2.trans e3).mut hF, ?_, hi⟩
          rw [upd_same, List.replicate_succ', List.map_append]
          rfl
      · obtain ⟨e2, m, _⟩ := z
        refine ⟨F, List.replicate _ true, rfl, SqL.of m, _, rfl, ?_⟩
        have al : (List.replicate ws.length true).all id = true := by
          rw [List.all_eq_true]
          intro b hb
          rw [List.eq_of_mem_replicate hb]
          rfl
        rw [al]
        exact iteNT ⟨_, _, _, rfl, e.trans e2⟩
    · rintro σ H1 ⟨v1, v2, v3, rfl, e⟩
      exact k _ e
end
end EV

set_option Elab.async false
set_option linter.all false
set_option maxRecDepth 100000
set_option maxHeartbeats 4000000
namespace EV
open PySem PySem.Spec PyProof.Rows L2 EvS Evl FD
theorem allRows_more (D : LandD) (hs : List Hand) (h : Hand) : allRows D (hs ++ [h]) = allRows D hs ++ rowsOf D.pa h := by
  unfold allRows
  rw [List.flatMap_append]
  simp
theorem allCuts_more (D : LandD) (hs : List Hand) (h : Hand) : allCuts D (hs ++ [h]) = allCuts D hs ++ (run D.pa h).cuts := by
  unfold allCuts
  rw [List.flatMap_append]
  simp
theorem endOf_more (D : LandD) (hs : List Hand) (h : Hand) : endOf D (hs ++ [h]) = if (run D.pa h).now > endOf D hs then (run D.pa h).now else endOf D hs := by
  unfold endOf
  rw [List.foldl_append]
  rfl
theorem rows_len {D : LandD} : ∀ {hs : List Hand}, (∀ h ∈ hs, HandOk D h) → (allRows D hs).length ≤ 31 * hs.length ∧ (allCuts D hs).length ≤ 30 * hs.length
  | [], _ => ⟨Nat.le_refl _, Nat.le_refl _⟩
  | h :: r, ok => by
    obtain ⟨a, b⟩ := rows_len (hs := r) fun x hx => ok x (List.mem_cons_of_mem _ hx)
    have l := run_len D.pa h h.ds.length
    have l : (run D.pa h).rows.length ≤ h.ds.length ∧ (run D.pa h).cuts.length ≤ h.ds.length := l
    have l30 := (ok h List.mem_cons_self).len
    unfold allRows allCuts at *
    rw [List.flatMap_cons, List.flatMap_cons, List.length_append, List.length_append, List.length_cons]
    unfold rowsOf
    rw [List.length_append]
    show (run D.pa h).rows.length + 1 + _ ≤ _ ∧ _
    unfold rowsOf at a
    omega
noncomputable def brkOf (D : LandD) (hs : List Hand) : List (Str × Int) := D.ps.filterMap fun p => (FP.minOf (allCuts D hs) p).map fun m => (p, m)
def sp__course_of (K : PySem.W.Frag) (C CC : Addr) : Sp := fun vs H Q _ => ∃ (l p : Addr) (us : List V) (hs : List Hand) (D : LandD), vs = [.ref l, .ref p] ∧ IsLand K C H l D ∧ LandOk D ∧ HandsIn K H p us hs ∧ HandsOk D hs ∧
  ∀ H' x dx s c, Ex H H' → H x = none → H s = none → H c = none → CAt K CC H' x dx s c (allRows D hs) (allCuts D hs) (endOf D hs) → Q (.ref x) H'
def sp_stays (K : PySem.W.Frag) (C : Addr) : Sp := fun vs H Q _ => ∃ (l p : Addr) (us : List V) (hs : List Hand) (D : LandD), vs = [.ref l, .ref p] ∧ IsLand K C H l D ∧ LandOk D ∧ HandsIn K H p us hs ∧ HandsOk D hs ∧
  ∀ H' s ws, Ex H H' → H s = none → H' s = some (.lst ws) → DpAll K H' ws ((allRows D hs).map dStay) → Q (.ref s) H'
def sp_end_of (K : PySem.W.Frag) (C : Addr) : Sp := fun vs H Q _ => ∃ (l p : Addr) (us : List V) (hs : List Hand) (D : LandD), vs = [.ref l, .ref p] ∧ IsLand K C H l D ∧ LandOk D ∧ HandsIn K H p us hs ∧ HandsOk D hs ∧
  ∀ H', Ex H H' → Q (.int (endOf D hs)) H'
def sp_breaks_in (K : PySem.W.Frag) (C CC : Addr) : Sp := fun vs H Q _ => ∃ (x dx s c l : Addr) (rows : List Stay) (cuts : List (Str × Int)) (e : Int) (D : LandD), vs = [.ref x, .ref l] ∧ CAt K CC H x dx s c rows cuts e ∧ cuts.length ≤ 1000 ∧ IsLand K C H l D ∧ LandOk D ∧
  ∀ H' o ws, Ex H H' → H o = none → H' o = some (.lst ws) → DpAll K H' ws ((D.ps.filterMap fun p => (FP.minOf cuts p).map fun m => (p, m)).map dPm) → Q (.ref o) H'
def sp_breaks_of (K : PySem.W.Frag) (C : Addr) : Sp := fun vs H Q _ => ∃ (l p : Addr) (us : List V) (hs : List Hand) (D : LandD), vs = [.ref l, .ref p] ∧ IsLand K C H l D ∧ LandOk D ∧ HandsIn K H p us hs ∧ HandsOk D hs ∧
  ∀ H' o ws, Ex H H' → H o = none → H' o = some (.lst ws) → DpAll K H' ws ((brkOf D hs).map dPm) → Q (.ref o) H'
section
variable {P : Program} {w : World} {K : PySem.W.Frag} {mg : Str → Option Value} {base : Heap} {a : Ad}
theorem G__course_of (T : Txt K mg a) : FnOk P w K mg base CX0 4 a.f__course_of a.d__course_of ["land", "hands"] (sp__course_of K a.C a.C_Course) := by
  refine T.F__course_of.ok sc__course_of (fun vs H Q E h => ?_) (fun cdv A outer s H vs Q E hr h => ?_)
  · obtain ⟨l, p, us, hs, D, rfl, _⟩ := h
    rfl
  · obtain ⟨l, p, us, hs, D, rfl, IL, lok, HI, ok, k⟩ := h
    have lu := HI.len
    have l5 := ok.l5
    refine ⟨_, (pss_cons (ps_expr (pe_call (G_check_names_hands T) (hr.mono (by decide)) (by rfl) T.g_check_names_hands T.k_check_names_hands T.B_check_names_hands .nil pass0 (pa_cons (pv 1) pa_nil)))
      (pss_cons (ps_expr (pe_call (G__check_places T) (hr.mono (by decide)) (by rfl) T.g__check_places T.k__check_places T.B__check_places .nil pass0 (pa_cons (pv 0) (pa_cons (pv 1) pa_nil))))
      (pss_cons (ps_expr (pe_call (G__check_deeds T) (hr.mono (by decide)) (by rfl) T.g__check_deeds T.k__check_deeds T.B__check_deeds .nil pass0 (pa_cons (pv 1) pa_nil)))
      (pss_cons (ps_set (i := 2) sc__course_of.nd rfl (Or.inl rfl) (pe_make0 T.mk_Course (G_Course_init T) (hr.mono (by decide)) (by rfl) T.g_Course T.B_Course_init .nil pass0))
      (pss_cons (ps_for PassesOwn.never rfl (pi_enum (by rfl) T.z_enumerate (pa_cons (pv 1) pa_nil)) (pg_tup (by rfl) (pgs_cons (pg_name (i := 3) sc__course_of.nd rfl (Or.inl rfl)) (pgs_cons (pg_name (i := 4) sc__course_of.nd rfl (Or.inl rfl)) pgs_nil))) (pss_one (ps_expr (pe_meth (pv 2) T.cl_Course T.m_Course_follow (G_Course_follow T) (hr.mono (by decide)) T.B_Course_follow .nil pass0 (pa_cons (pv 0) (pa_cons (pv 3) (pa_cons (pv 4) pa_nil)))))))
      (pss_one (ps_ret (pv 2)))))))), ?_⟩
    refine ⟨_, rfl, p, us, hs, D, rfl, HI, ok, fun H1 e1 => ?_⟩
    refine ⟨_, rfl, _, rfl, l, p, us, hs, D, rfl, IsLand.ex e1 IL, HI.ex e1, ok, fun H2 e2 => ?_⟩
    have e12 := e1.trans e2
    refine ⟨_, rfl, p, us, hs, D, rfl, HI.ex e12, ok, fun H3 e3 => ?_⟩
    have e13 := e12.trans e3
    refine fun x dx nx ndx ne => ⟨H3, x, dx, rfl, (Ex.new ndx).mut nx, nx, upd_same, fun H4 s c e4 s0 c0 C4 => ⟨rfl, ?_⟩⟩
    refine ⟨_, rfl, p, us, rfl, ex_l (e13.trans e4) HI.at_, for_it (walk_enum (K := K) (a := p) (xs := us)) (fun i σ H' => ∃ v3 v4, σ = [some (.ref l), some (.ref p), some (.ref x), v3, v4] ∧ Ex H3 H' ∧ CAt K a.C_Course H' x dx s c (allRows D (hs.take i)) (allCuts D (hs.take i)) (endOf D (hs.take i))) ⟨none, none, rfl, e4, C4⟩ ?_ ?_ ?_⟩
    · rintro i σ H' _ ⟨v3, v4, rfl, e, _⟩
      exact ex_l (e13.trans e) HI.at_
    · rintro i v σ H5 H6 hi ⟨v3, v4, rfl, e5, C5⟩ yy
      obtain ⟨t, u, v, rfl, ht, rfl, h1, h2⟩ := yy
      have h1 : some (V.int (i : Nat)) = some u := h1
      obtain rfl := Option.some.inj h1
      obtain ⟨h, hh, hm, dp⟩ := pickE (dps_ex e13 HI.ds) h2
      have hok := ok.ok h hm
      have e56 := Ex.new (o := .tup [.int (i : Nat), v]) ht
      have C6 := C5.ex e56
      have mt : (upd H5 t (.tup [.int (i : Nat), v])) t = some (.tup [.int (i : Nat), v]) := upd_same
      generalize upd H5 t (.tup [.int (i : Nat), v]) = H6 at e56 C6 mt
      have rl := rows_len (D := D) (hs := hs.take i) fun z hz => ok.ok z (List.mem_of_mem_take hz)
      rw [List.length_take] at rl
      refine ⟨t, _, rfl, st_of mt, rfl, _, _, rfl, _, _, rfl, rfl, ?_⟩
      refine ⟨_, rfl, x, dx, _, rfl, C6.ob, cFs_follow .., _, rfl, _, rfl, _, rfl, H3, x, dx, s, c, l, _, v, D, h, _, _, _, rfl, e5.trans e56, nx, s0, c0, C6, by omega, by omega, IsLand.ex e13 IL, lok, dp, hok, fun H7 e7 C7 => ⟨_, _, rfl, e7, ?_⟩⟩
      rw [take_one hh, allRows_more, allCuts_more, endOf_more]
      exact C7
    · rintro σ H5 ⟨v3, v4, rfl, e5, C5⟩
      rw [lu, List.take_length] at C5
      exact ⟨_, rfl, k H5 x dx s c (e13.trans e5) (fresh_back e13 nx) (fresh_back e13 s0) (fresh_back e13 c0) C5⟩
theorem G_stays (T : Txt K mg a) : FnOk P w K mg base CX0 5 a.f_stays a.d_stays ["land", "hands"] (sp_stays K a.C) := by
  refine T.F_stays.ok sc_stays (fun vs H Q E h => ?_) (fun cdv A outer s H vs Q E hr h => ?_)
  · obtain ⟨l, p, us, hs, D, rfl, _⟩ := h
    rfl
  · obtain ⟨l, p, us, hs, D, rfl, IL, lok, HI, ok, k⟩ := h
    refine ⟨_, (pss_one (ps_ret (pe_fld (pe_call (G__course_of T) (hr.mono (by decide)) (by rfl) T.g__course_of T.k__course_of T.B__course_of .nil pass0 (pa_cons (pv 0) (pa_cons (pv 1) pa_nil))) rfl))), ?_⟩
    refine ⟨_, rfl, _, rfl, l, p, us, hs, D, rfl, IL, lok, HI, ok, fun H1 x dx s c e1 nx s0 c0 C => ?_⟩
    obtain ⟨vs, hS, dS⟩ := C.hs
    exact ⟨x, a.C_Course, dx, _, _, rfl, C.ob, T.cl_Course, T.na_Course_stays, cFs_stays .., k H1 s vs e1 s0 hS dS⟩
theorem G_end_of (T : Txt K mg a) : FnOk P w K mg base CX0 5 a.f_end_of a.d_end_of ["land", "hands"] (sp_end_of K a.C) := by
  refine T.F_end_of.ok sc_end_of (fun vs H Q E h => ?_) (fun cdv A outer s H vs Q E hr h => ?_)
  · obtain ⟨l, p, us, hs, D, rfl, _⟩ := h
    rfl
  · obtain ⟨l, p, us, hs, D, rfl, IL, lok, HI, ok, k⟩ := h
    refine ⟨_, (pss_one (ps_ret (pe_fld (pe_call (G__course_of T) (hr.mono (by decide)) (by rfl) T.g__course_of T.k__course_of T.B__course_of .nil pass0 (pa_cons (pv 0) (pa_cons (pv 1) pa_nil))) rfl))), ?_⟩
    refine ⟨_, rfl, _, rfl, l, p, us, hs, D, rfl, IL, lok, HI, ok, fun H1 x dx s c e1 nx s0 c0 C => ?_⟩
    exact ⟨x, a.C_Course, dx, _, _, rfl, C.ob, T.cl_Course, T.na_Course_end, cFs_endv .., k H1 e1⟩
theorem G_Course_breaks_in (T : Txt K mg a) : FnOk P w K mg base CX0 3 a.f_Course_breaks_in a.d_Course_breaks_in ["self", "land"] (sp_breaks_in K a.C a.C_Course) := by
  refine T.F_Course_breaks_in.ok sc_Course_breaks_in (fun vs H Q E h => ?_) (fun cdv A outer s H vs Q E hr h => ?_)
  · obtain ⟨x, dx, s, c, l, rows, cuts, e, D, rfl, _⟩ := h
    rfl
  · obtain ⟨x, dx, s, c, l, rows, cuts, e, D, rfl, C, lc, IL, lok, k⟩ := h
    obtain ⟨us, hC, dC⟩ := C.hc
    obtain ⟨dl, wi, pl, li, pa, rws, prs, L⟩ := id IL
    have p24 := lok.p24
    have lpl : (D.ps.map V.str).length = D.ps.length := List.length_map ..
    refine ⟨_, (pss_cons (ps_set (i := 2) sc_Course_breaks_in.nd rfl (Or.inr rfl) (pe_call (G_least_minutes T) (hr.mono (by decide)) (by rfl) T.g_least_minutes T.k_least_minutes T.B_least_minutes .nil pass0 (pa_cons (pe_fld (pv 0) rfl) pa_nil)))
      (pss_one (ps_ret (pe_lc (own := [("place", 3)]) (g := gName 3) rfl sc_Course_breaks_in.nd (pi_tup (pe_fld (pv 1) rfl)) (blkOk_by (N := ["self", "land", "ready", "place"]) (sc := defScope s_Course_breaks_in) (by decide +kernel)) (fun _ _ _ _ _ => pg_name (i := 3) sc_Course_breaks_in.nd rfl (Or.inl rfl)) (fun _ _ _ _ _ => pts_one (pt_cmp (pc_din (hu_of hr) (pv 3) (pv 2)))) (fun _ _ _ _ _ => (pe_tup (pa_cons (pv 3) (pa_cons (pe_dget (hu_of hr) (pv 2) (pv 3) (fun _ _ => rfl)) pa_nil)))))))), ?_⟩
    refine ⟨_, rfl, x, a.C_Course, dx, _, _, rfl, C.ob, T.cl_Course, T.na_Course_cuts, cFs_cuts .., c, us, cuts, rfl, SqL.of hC, dC, lc, fun d H1 e1 d0 tb => ?_⟩
    refine ⟨_, rfl, l, a.C, dl, _, _, rfl, e1 _ _ L.ob, T.cl, T.nP, fs_places .., pl, rfl, ⟨_, ex_t e1 L.pl⟩, fun D0 hD => lc_tup (K := K) (a := pl) (xs := D.ps.map V.str) (fun i H' => Ex H1 H' ∧ ∃ acc, H' D0 = some (.lst acc) ∧ acc.length ≤ i ∧ DpAll K (del H' D0) acc (((D.ps.take i).filterMap fun p => (FP.minOf cuts p).map fun m => (p, m)).map dPm)) ⟨Ex.new hD, [], upd_same, Nat.le_refl _, .nil⟩ (fun i H' _ z => ex_t (e1.trans z.1) L.pl) (fun i y H' hy z => ?_) (fun H2 z => ?_)⟩
    · obtain ⟨e2, acc, ha, la, da⟩ := z
      have hi : i < D.ps.length := by have := (List.getElem?_eq_some_iff.mp hy).1; rwa [lpl] at this
      obtain ⟨q, hq⟩ : ∃ q, D.ps[i]? = some q := ⟨_, List.getElem?_eq_getElem hi⟩
      rw [List.getElem?_map, hq] at hy
      obtain rfl := Option.some.inj hy
      obtain ⟨kvs, hk, lk, tk⟩ := tb.ex e2
      have g : DGet H' d (.str q) (valV kvs (.inr q)) := DGet.k (k := Sum.inr q) hk
      rw [tk q] at g
      refine ⟨rfl, _, rfl, _, rfl, d, _, rfl, g, _, rfl, ?_⟩
      rw [take_one hq, List.filterMap_append]
      cases hf : FP.minOf cuts q with
      | none =>
        refine iteF ⟨e2, acc, ha, by omega, ?_⟩
        rw [show (List.filterMap (fun p => Option.map (fun m => (p, m)) (FP.minOf cuts p)) [q]) = [] by rw [List.filterMap_cons, hf]; rfl, List.append_nil]
        exact da
      | some m =>
        rw [hf] at g
        refine iteT ⟨_, rfl, _, rfl, _, rfl, d, _, rfl, g, by show 2 ≤ sizeLine; decide, fun u hu => ?_⟩
        have eT := Ex.new (o := .tup [.str q, .int m]) hu
        have uD : u ≠ D0 := fun z => by rw [z, ha] at hu; cases hu
        refine ⟨acc, eT _ _ ha, sz_lt (by omega), (e2.trans eT).mut hD, acc ++ [.ref u], upd_same, by rw [List.length_append]; show _ + 1 ≤ _; omega, ?_⟩
        rw [show (List.filterMap (fun p => Option.map (fun m => (p, m)) (FP.minOf cuts p)) [q]) = [(q, m)] by rw [List.filterMap_cons, hf]; rfl, del_upd, List.map_append]
        exact dps_app (dps_ex (ex_del eT) da) (dps_one (.tup (st_of (del_at uD upd_same)) (.cons (.str _) (.cons (.int _) .nil))))
    · obtain ⟨e2, acc, ha, la, da⟩ := z
      rw [lpl, List.take_length] at da
      exact k H2 D0 acc (e1.trans e2) (fresh_back e1 hD) ha (dps_ex del_ex da)
theorem G_breaks_of (T : Txt K mg a) : FnOk P w K mg base CX0 5 a.f_breaks_of a.d_breaks_of ["land", "hands"] (sp_breaks_of K a.C) := by
  refine T.F_breaks_of.ok sc_breaks_of (fun vs H Q E h => ?_) (fun cdv A outer s H vs Q E hr h => ?_)
  · obtain ⟨l, p, us, hs, D, rfl, _⟩ := h
    rfl
  · obtain ⟨l, p, us, hs, D, rfl, IL, lok, HI, ok, k⟩ := h
    refine ⟨_, (pss_one (ps_ret (pe_meth (pe_call (G__course_of T) (hr.mono (by decide)) (by rfl) T.g__course_of T.k__course_of T.B__course_of .nil pass0 (pa_cons (pv 0) (pa_cons (pv 1) pa_nil))) T.cl_Course T.m_Course_breaks_in (G_Course_breaks_in T) (hr.mono (by decide)) T.B_Course_breaks_in .nil pass0 (pa_cons (pv 0) pa_nil)))), ?_⟩
    have rl := rows_len ok.ok
    have l5 := ok.l5
    refine ⟨_, rfl, _, rfl, l, p, us, hs, D, rfl, IL, lok, HI, ok, fun H1 x dx s c e1 nx s0 c0 C => ?_⟩
    refine ⟨x, dx, _, rfl, C.ob, cFs_breaks .., _, rfl, x, dx, s, c, l, _, _, _, D, rfl, C, by omega, IsLand.ex e1 IL, lok, fun H2 o ws e2 o0 ho da => ?_⟩
    exact k H2 o ws (e1.trans e2) (fresh_back e1 o0) ho da
end
end EV

set_option Elab.async false
set_option linter.all false
set_option maxRecDepth 100000
set_option maxHeartbeats 4000000
namespace EV
open PySem PySem.Spec PyProof.Rows L2 EvS Evl FD
theorem Nums.getE {K : PySem.W.Frag} {H : Hp} {p : Addr} {ks : List Int} (h : Nums K H p ks) {i : Int} (h0 : 0 ≤ i) (h1 : i < ks.length) : ∃ n, 0 ≤ n ∧ n < 1009 ∧ atI (ks.map V.int) i = some (.int n) := by
  obtain ⟨n, hn, hat, _⟩ := num_in h0 h1
  exact ⟨n, (h.sm n hn).1, (h.sm n hn).2, hat⟩
theorem exT_delL {H : Hp} {A : Addr} {xs : List V} (h : H A = some (.lst xs)) : ExT H (del H A) := fun x zs r => by
  have nx : x ≠ A := fun q => by
    subst q
    rcases r with r | ⟨o, r⟩
    · rw [h] at r; cases r
    · rw [h] at r; cases r
  rcases r with r | ⟨o, r⟩
  · exact .inl (del_at nx r)
  · exact .inr ⟨o, del_at nx r⟩
theorem strs_pick {ps : List Str} (h : 1 ≤ ps.length) (x : Int) : (((ps.map V.str).length : Nat) : Int) ≠ 0 ∧ ∃ z, z ∈ ps ∧ atI (ps.map V.str) (x.fmod (((ps.map V.str).length : Nat) : Int)) = some (.str z) := by
  rw [List.length_map]
  have h0 : 0 ≤ x.fmod ((ps.length : Nat) : Int) := Int.fmod_nonneg_of_pos _ (by omega)
  have h1 : x.fmod ((ps.length : Nat) : Int) < ((ps.length : Nat) : Int) := Int.fmod_lt_of_pos _ (by omega)
  have hi : (x.fmod ((ps.length : Nat) : Int)).toNat < ps.length := by omega
  refine ⟨by omega, ps[(x.fmod ((ps.length : Nat) : Int)).toNat], List.getElem_mem hi, ?_⟩
  have := atI_nat (xs := ps.map V.str) (j := (x.fmod ((ps.length : Nat) : Int)).toNat) (by rw [List.getElem?_map, List.getElem?_eq_getElem hi]; rfl)
  rwa [Int.toNat_of_nonneg h0] at this
theorem frozen_deed (d : Deed) : frozen (dDeed d) = true := by cases d <;> simp [dDeed, frozen, frozenAll]
theorem frozen_deeds (ls : List Deed) : frozenAll (ls.map dDeed) = true := frozenAll_of fun d hd => by
  obtain ⟨b, _, rfl⟩ := List.mem_map.mp hd
  exact frozen_deed b
/-- a list that a def makes and fills -/
def OwnL (K : PySem.W.Frag) (H : Hp) (f : Addr) (X : List PyData) : Prop := ∃ acc, H f = some (.lst acc) ∧ DpAll K (del H f) acc X
theorem OwnL.ex {K : PySem.W.Frag} {H H' : Hp} {f : Addr} {X : List PyData} (e : Ex H H') (h : OwnL K H f X) : OwnL K H' f X := by
  obtain ⟨acc, h1, h2⟩ := h
  exact ⟨acc, e _ _ h1, dps_ex (ex_del e) h2⟩
theorem OwnL.put {K : PySem.W.Frag} {H : Hp} {f : Addr} {X : List PyData} {acc : List V} {v : V} {y : PyData} (d : DpAll K (del H f) acc X) (dv : Dp K (del H f) v y) : OwnL K (upd H f (.lst (acc ++ [v]))) f (X ++ [y]) :=
  ⟨_, upd_same, by rw [del_upd]; exact dps_app d (dps_one dv)⟩
def sp_made (K : PySem.W.Frag) (C : Addr) : Sp := fun vs H Q _ => ∃ (p : Addr) (D : LandD) (wi pl li pa : Addr) (rows prs : List V), vs = [.ref p] ∧ Parts2 K H p D wi pl li pa rows prs ∧ LandOk D ∧ ∀ H' x, Ex H H' → H x = none → IsLand K C H' x D → Q (.ref x) H'
def sp__law_walks (K : PySem.W.Frag) : Sp := fun vs H Q _ => ∃ (p : Addr) (D : LandD) (wi pl li pa : Addr) (rows prs : List V) (z : Str), vs = [.ref p, .str z] ∧ Parts2 K H p D wi pl li pa rows prs ∧ D.pa.length ≤ 100 ∧
  ∀ H' o ws, Ex H H' → H o = none → H' o = some (.lst ws) → DpAll K (del H' o) ws ((walksOf D.pa z).map dPm) → Q (.ref o) H'
theorem walks1_len (z : Str) (p : Str × Str × Int) : (walks1 z p).length ≤ 2 := by
  unfold walks1
  rw [List.length_append]
  split <;> split <;> simp
theorem walks_len : ∀ (pa : List (Str × Str × Int)) (z : Str), (walksOf pa z).length ≤ 2 * pa.length
  | [], _ => Nat.le_refl _
  | p :: r, z => by
    have ih := walks_len r z
    have l := walks1_len z p
    unfold walksOf at *
    rw [List.flatMap_cons, List.length_append, List.length_cons]
    omega
section
variable {P : Program} {w : World} {K : PySem.W.Frag} {mg : Str → Option Value} {base : Heap} {a : Ad}
theorem G__law_make (T : Txt K mg a) : FnOk P w K mg base CX0 5 a.f__law_make a.d__law_make ["parts"] (sp_made K a.C) := by
  obtain ⟨mv, kb_Land_wplp⟩ := kb_wplp T
  refine T.F__law_make.ok sc__law_make (fun vs H Q E h => ?_) (fun cdv A outer s H vs Q E hr h => ?_)
  · obtain ⟨p, D, wi, pl, li, pa, rows, prs, rfl, _⟩ := h
    rfl
  · obtain ⟨p, D, wi, pl, li, pa, rows, prs, rfl, S, ok, k⟩ := h
    refine ⟨_, (pss_one (ps_ret (pe_makeK0 T.mk_Land (G_init T) (hr.mono (by decide)) (by rfl) T.g_Land kb_Land_wplp pass0 (pk_cons (pe_callTy call_lstK (by rfl) T.z_list (by decide +kernel) (pa_cons (pe_ix ix_list (pv 0) pe_int (fun _ _ => rfl)) pa_nil)) (pk_cons (pe_callTy call_lstK (by rfl) T.z_list (by decide +kernel) (pa_cons (pe_ix ix_list (pv 0) pe_int (fun _ _ => rfl)) pa_nil)) (pk_cons (pe_callTy call_lstK (by rfl) T.z_list (by decide +kernel) (pa_cons (pe_ix ix_list (pv 0) pe_int (fun _ _ => rfl)) pa_nil)) (pk_cons (pe_callTy call_lstK (by rfl) T.z_list (by decide +kernel) (pa_cons (pe_ix ix_list (pv 0) pe_int (fun _ _ => rfl)) pa_nil)) pk_nil))))))), ?_⟩
    refine ⟨_, rfl, p, _, _, _, rfl, rfl, S.ob, atI_nat (j := 0) rfl, wi, _, rfl, .inr S.wi, fun u0 hu0 => ?_⟩
    have e1 := Ex.new (o := .lst (D.ws.map V.str)) hu0
    have m0 : (upd H u0 (.lst (D.ws.map V.str))) u0 = some (.lst (D.ws.map V.str)) := upd_same
    generalize upd H u0 (.lst (D.ws.map V.str)) = H1 at e1 m0
    refine ⟨_, rfl, p, _, _, _, rfl, rfl, ex_l e1 S.ob, atI_nat (j := 1) rfl, pl, _, rfl, .inr (ex_t e1 S.pl), fun u1 hu1 => ?_⟩
    have e2 := Ex.new (o := .lst (D.ps.map V.str)) hu1
    have m1 : (upd H1 u1 (.lst (D.ps.map V.str))) u1 = some (.lst (D.ps.map V.str)) := upd_same
    generalize upd H1 u1 (.lst (D.ps.map V.str)) = H2 at e2 m1
    have e02 := e1.trans e2
    refine ⟨_, rfl, p, _, _, _, rfl, rfl, ex_l e02 S.ob, atI_nat (j := 2) rfl, li, _, rfl, .inr (ex_t e02 S.li), fun u2 hu2 => ?_⟩
    have e3 := Ex.new (o := .lst rows) hu2
    have m2 : (upd H2 u2 (.lst rows)) u2 = some (.lst rows) := upd_same
    generalize upd H2 u2 (.lst rows) = H3 at e3 m2
    have e03 := e02.trans e3
    refine ⟨_, rfl, p, _, _, _, rfl, rfl, ex_l e03 S.ob, atI_nat (j := 3) rfl, pa, _, rfl, .inr (ex_t e03 S.pa), fun u3 hu3 => ?_⟩
    have e4 := Ex.new (o := .lst prs) hu3
    have m3 : (upd H3 u3 (.lst prs)) u3 = some (.lst prs) := upd_same
    generalize upd H3 u3 (.lst prs) = H4 at e4 m3
    have e04 := e03.trans e4
    have S4 := S.ex e04
    refine ⟨rfl, rfl, fun x dx nx ndx ne => ?_⟩
    exact ⟨H4, x, dx, u0, u1, u2, u3, D, rows, prs, rfl, (Ex.new ndx).mut nx, nx, upd_same, .inl (SqL.of (e4 _ _ (e3 _ _ (e2 _ _ m0)))), .inl (SqL.of (e4 _ _ (e3 _ _ m1))), .inl (SqL.of (e4 _ _ m2)), all2_dps (f := dLink) (R := LinkIn K _) (fun v b h => made_in h) S4.ls, .inl (SqL.of m3), S4.ps, ok, fun H' e hl => ⟨rfl, k H' x (e04.trans e) (fresh_back e04 nx) hl⟩⟩
theorem G__law_walks (T : Txt K mg a) : FnOk P w K mg base CX0 1 a.f__law_walks a.d__law_walks ["parts", "place"] (sp__law_walks K) := by
  refine T.F__law_walks.ok sc__law_walks (fun vs H Q E h => ?_) (fun cdv A outer s H vs Q E hr h => ?_)
  · obtain ⟨p, D, wi, pl, li, pa, rows, prs, z, rfl, _⟩ := h
    rfl
  · obtain ⟨p, D, wi, pl, li, pa, rows, prs, z, rfl, S, la, k⟩ := h
    have lp : prs.length = D.pa.length := by rw [dps_len S.ps, List.length_map]
    refine ⟨_, (pss_cons (ps_set (i := 2) sc__law_walks.nd rfl (Or.inl rfl) (pe_lst pa_nil))
      (pss_cons (ps_for PassesOwn.never rfl (pi_tup (pe_ix ix_list (pv 0) pe_int (fun _ _ => rfl))) (pg_tup (by rfl) (pgs_cons (pg_name (i := 3) sc__law_walks.nd rfl (Or.inl rfl)) (pgs_cons (pg_name (i := 4) sc__law_walks.nd rfl (Or.inl rfl)) (pgs_cons (pg_name (i := 5) sc__law_walks.nd rfl (Or.inl rfl)) pgs_nil)))) (Evl.pss_cut (ps_if (pt_cmpR op_eq (pv 3) (pv 1) (nomark _)) (pss_one (ps_expr (pe_bm PySem.F.plainAttrs_list PySem.F.slot_list_append PySem.F.type_list_append mt_append (pv 2) (pa_cons (pe_tup (pa_cons (pv 4) (pa_cons (pv 5) pa_nil))) pa_nil)))) pss_nil)
        (pss_one (ps_if (pt_cmpR op_eq (pv 4) (pv 1) (nomark _)) (pss_one (ps_expr (pe_bm PySem.F.plainAttrs_list PySem.F.slot_list_append PySem.F.type_list_append mt_append (pv 2) (pa_cons (pe_tup (pa_cons (pv 3) (pa_cons (pv 5) pa_nil))) pa_nil)))) pss_nil))))
      (pss_one (ps_ret (pv 2))))), ?_⟩
    refine ⟨Nat.zero_le _, fun f hf => ?_⟩
    have e0 := Ex.new (o := .lst []) hf
    refine ⟨_, rfl, p, _, _, _, rfl, rfl, ex_l e0 S.ob, atI_nat (j := 3) rfl, pa, rfl, ⟨_, ex_t e0 S.pa⟩, for_tup (K := K) (a := pa) (xs := prs) (fun i σ H' => ∃ v3 v4 v5 acc, σ = [some (.ref p), some (.str z), some (.ref f), v3, v4, v5] ∧ Ex H H' ∧ H' f = some (.lst acc) ∧ DpAll K (del H' f) acc ((walksOf (D.pa.take i) z).map dPm)) ⟨none, none, none, [], rfl, e0, upd_same, .nil⟩ (fun i σ H' _ q => by obtain ⟨_, _, _, _, rfl, e, _⟩ := q; exact ex_t e S.pa) ?_ ?_⟩
    · rintro i y σ H1 hy ⟨v3, v4, v5, acc, rfl, e, hm, da⟩
      obtain ⟨q, hq, hqm, dp⟩ := pickE (dps_ex e S.ps) hy
      obtain ⟨t, rfl, hT⟩ := path_in dp
      have hi := (List.getElem?_eq_some_iff.mp hq).1
      have al : acc.length ≤ 2 * i := by
        have := walks_len (D.pa.take i) z
        rw [List.length_take] at this
        rw [dps_len da, List.length_map]
        omega
      refine ⟨t, _, rfl, hT, rfl, _, _, rfl, _, _, rfl, _, _, rfl, rfl, ?_⟩
      have add : ∀ {H1 : Hp} {acc : List V} {X : List (Str × Int)} (b : Str), Ex H H1 → H1 f = some (.lst acc) → DpAll K (del H1 f) acc (X.map dPm) → ∀ u, H1 u = none → Ex H (upd (upd H1 u (.tup [.str b, .int q.2.2])) f (.lst (acc ++ [.ref u]))) ∧ DpAll K (del (upd (upd H1 u (.tup [.str b, .int q.2.2])) f (.lst (acc ++ [.ref u]))) f) (acc ++ [.ref u]) ((X ++ [(b, q.2.2)]).map dPm) := fun {H1 acc X} b e hm da u hu => by
        have eT := Ex.new (o := .tup [.str b, .int q.2.2]) hu
        have uf : u ≠ f := fun x => by rw [x, hm] at hu; cases hu
        refine ⟨(e.trans eT).mut hf, ?_⟩
        rw [del_upd, List.map_append]
        exact dps_app (dps_ex (ex_del eT) da) (dps_one (.tup (st_of (del_at uf upd_same)) (.cons (.str _) (.cons (.int _) .nil))))
      refine ⟨fun σ H' => ∃ acc, σ = [some (.ref p), some (.str z), some (.ref f), some (.str q.1), some (.str q.2.1), some (.int q.2.2)] ∧ Ex H H' ∧ H' f = some (.lst acc) ∧ acc.length ≤ 2 * i + 1 ∧ DpAll K (del H' f) acc ((walksOf (D.pa.take i) z ++ (if q.1 = z then [(q.2.1, q.2.2)] else [])).map dPm), ?_, ?_⟩
      · refine ⟨_, rfl, _, rfl, rfl, _, rfl, ?_⟩
        refine ite2 (fun c => ?_) (fun c => ?_)
        · have c := V.str.inj (of_decide_eq_true c)
          refine ⟨_, rfl, .inl ⟨rfl, _, SqL.of hm⟩, _, rfl, _, rfl, by show 2 ≤ sizeLine; decide, fun u hu => ?_⟩
          obtain ⟨x1, x2⟩ := add q.2.1 e hm da u hu
          refine ⟨f, _, _, rfl, rfl, Ex.new hu _ _ hm, sz_lt (by omega), _, rfl, x1, upd_same, by rw [List.length_append]; show _ + 1 ≤ _; omega, ?_⟩
          rw [if_pos c]
          exact x2
        · refine ⟨acc, rfl, e, hm, by omega, ?_⟩
          rw [if_neg (fun x => c (decide_eq_true (congrArg V.str x))), List.append_nil]
          exact da
      · rintro σ H2 ⟨acc, rfl, e, hm, al, da⟩
        have tk : walksOf (D.pa.take (i + 1)) z = (walksOf (D.pa.take i) z ++ (if q.1 = z then [(q.2.1, q.2.2)] else [])) ++ (if q.2.1 = z then [(q.1, q.2.2)] else []) := by
          rw [take_one hq, walks_more]
          unfold walks1
          rw [List.append_assoc]
        refine ⟨_, rfl, _, rfl, rfl, _, rfl, ?_⟩
        refine ite2 (fun c => ?_) (fun c => ?_)
        · have c := V.str.inj (of_decide_eq_true c)
          refine ⟨_, rfl, .inl ⟨rfl, _, SqL.of hm⟩, _, rfl, _, rfl, by show 2 ≤ sizeLine; decide, fun u hu => ?_⟩
          obtain ⟨x1, x2⟩ := add q.1 e hm da u hu
          refine ⟨f, _, _, rfl, rfl, Ex.new hu _ _ hm, sz_lt (by omega), _, _, _, _, rfl, x1, upd_same, ?_⟩
          rw [tk, if_pos c]
          exact x2
        · refine ⟨_, _, _, acc, rfl, e, hm, ?_⟩
          rw [tk, if_neg (fun x => c (decide_eq_true (congrArg V.str x))), List.append_nil]
          exact da
    · rintro σ H1 ⟨v3, v4, v5, acc, rfl, e, hm, da⟩
      rw [lp, List.take_length] at da
      exact ⟨_, rfl, k H1 f acc e hf hm da⟩
end
end EV

set_option Elab.async false
set_option linter.all false
set_option maxRecDepth 100000
set_option maxHeartbeats 4000000
namespace EV
open PySem PySem.Spec PyProof.Rows L2 EvS Evl FD
theorem runTo_pre {pa : List (Str × Str × Int)} {n s : Str} {ds : List Deed} {d : Deed} {i : Nat} (h : i ≤ ds.length) : runTo pa ⟨n, s, ds ++ [d]⟩ i = runTo pa ⟨n, s, ds⟩ i := by
  unfold runTo
  show List.foldl _ _ ((ds ++ [d]).take i) = List.foldl _ _ (ds.take i)
  rw [List.take_append_of_le_length h]
def DeedOk (D : LandD) (here : Str) : Deed → Prop
  | .walk t => t ∈ D.ps ∧ (minB D.pa here t).isSome = true
  | .cut m => 1 ≤ m ∧ m ≤ 1000
  | .wait m => 1 ≤ m ∧ m ≤ 1000
def hereOf : Str → List Deed → Str
  | s, [] => s
  | s, .walk t :: r => hereOf t r
  | s, .cut _ :: r => hereOf s r
  | s, .wait _ :: r => hereOf s r
theorem hereOf_app : ∀ (ds : List Deed) (s : Str) (d : Deed), hereOf s (ds ++ [d]) = match d with | .walk t => t | _ => hereOf s ds
  | [], s, d => by cases d <;> rfl
  | .walk t :: r, s, d => by show hereOf t (r ++ [d]) = _; rw [hereOf_app r t d]; cases d <;> rfl
  | .cut _ :: r, s, d => by show hereOf s (r ++ [d]) = _; rw [hereOf_app r s d]; cases d <;> rfl
  | .wait _ :: r, s, d => by show hereOf s (r ++ [d]) = _; rw [hereOf_app r s d]; cases d <;> rfl
theorem fold_here (pa : List (Str × Str × Int)) (n : Str) : ∀ (ds : List Deed) (r : Run), (ds.foldl (step pa n) r).here = hereOf r.here ds
  | [], r => rfl
  | .walk t :: ds, r => fold_here pa n ds _
  | .cut m :: ds, r => fold_here pa n ds _
  | .wait m :: ds, r => fold_here pa n ds _
theorem here_all (pa : List (Str × Str × Int)) (n s : Str) (ds : List Deed) : (runTo pa ⟨n, s, ds⟩ ds.length).here = hereOf s ds := by
  unfold runTo
  show (List.foldl (step pa n) ⟨s, 0, 0, [], []⟩ (ds.take ds.length)).here = _
  rw [List.take_length]
  exact fold_here pa n ds _
theorem HandOk.add {D : LandD} {n s : Str} {ds : List Deed} {d : Deed} (h : HandOk D ⟨n, s, ds⟩) (l : ds.length < 30) (o : DeedOk D (hereOf s ds) d) : HandOk D ⟨n, s, ds ++ [d]⟩ := by
  refine ⟨h.n, h.s, by show (ds ++ [d]).length ≤ 30; rw [List.length_append]; show _ + 1 ≤ _; omega, fun t ht => ?_, fun i t ht => ?_, fun m hm => ?_, fun m hm => ?_⟩
  · have ht : Deed.walk t ∈ ds ++ [d] := ht
    rcases List.mem_append.mp ht with ht | ht
    · exact h.to t ht
    · have := List.mem_singleton.mp ht
      subst this
      exact o.1
  · have ht : (ds ++ [d])[i]? = some (.walk t) := ht
    have hl : i < (ds ++ [d]).length := (List.getElem?_eq_some_iff.mp ht).1
    rw [List.length_append, List.length_singleton] at hl
    rw [runTo_pre (by omega)]
    by_cases c : i < ds.length
    · rw [List.getElem?_append_left c] at ht
      exact h.path i t ht
    · obtain rfl : i = ds.length := by omega
      rw [List.getElem?_append_right (Nat.le_refl _), Nat.sub_self] at ht
      obtain rfl : d = .walk t := Option.some.inj ht
      rw [here_all]
      exact o.2
  · have hm : Deed.cut m ∈ ds ++ [d] := hm
    rcases List.mem_append.mp hm with hm | hm
    · exact h.cut m hm
    · have := List.mem_singleton.mp hm
      subst this
      exact o
  · have hm : Deed.wait m ∈ ds ++ [d] := hm
    rcases List.mem_append.mp hm with hm | hm
    · exact h.wait m hm
    · have := List.mem_singleton.mp hm
      subst this
      exact o
theorem hand0 {D : LandD} {n s : Str} (hn : isName n = true) (hs : s ∈ D.ps) : HandOk D ⟨n, s, []⟩ := ⟨hn, hs, Nat.zero_le _, (fun t h => by cases h), (fun i t h => by cases h), (fun t h => by cases h), fun t h => by cases h⟩
theorem walk_to {D : LandD} (ok : LandOk D) {z : Str} {r : Str × Int} (h : r ∈ walksOf D.pa z) : r.1 ∈ D.ps ∧ (minB D.pa z r.1).isSome = true := by
  constructor
  · unfold walksOf at h
    obtain ⟨p, hp, hr⟩ := List.mem_flatMap.mp h
    have po := ok.pt p hp
    unfold walks1 at hr
    rcases List.mem_append.mp hr with hr | hr
    · split at hr
      · rw [List.mem_singleton.mp hr]
        exact po.t
      · cases hr
    · split at hr
      · rw [List.mem_singleton.mp hr]
        exact po.o
      · cases hr
  · rw [← walks_min, Option.isSome_map]
    have m : r ∈ (walksOf D.pa z).filter fun w => w.1 == r.1 := List.mem_filter.mpr ⟨h, beq_self_eq_true _⟩
    cases hh : (walksOf D.pa z).filter fun w => w.1 == r.1 with
    | nil => rw [hh] at m; cases m
    | cons x y => rfl
def sp__law_hands (K : PySem.W.Frag) : Sp := fun vs H Q _ => ∃ (q p : Addr) (ks : List Int) (D : LandD) (wi pl li pa : Addr) (rows prs : List V), vs = [.ref q, .int 115, .ref p] ∧ Nums K H q ks ∧ Parts2 K H p D wi pl li pa rows prs ∧ LandOk D ∧ Small2 D ∧
  ∀ H' o us hs, Ex H H' → H o = none → H' o = some (.lst us) → DpAll K H' us (hs.map dHand) → HandsOk D hs → hs.length ≤ 3 → Q (.ref o) H'
section
variable {P : Program} {w : World} {K : PySem.W.Frag} {mg : Str → Option Value} {base : Heap} {a : Ad}
theorem G__law_hands (T : Txt K mg a) : FnOk P w K mg base CX0 2 a.f__law_hands a.d__law_hands ["numbers", "at", "parts"] (sp__law_hands K) := by
  refine T.F__law_hands.ok sc__law_hands (fun vs H Q E h => ?_) (fun cdv A outer s H vs Q E hr h => ?_)
  · obtain ⟨q, p, ks, D, wi, pl, li, pa, rows, prs, rfl, _⟩ := h
    rfl
  · obtain ⟨q, p, ks, D, wi, pl, li, pa, rows, prs, rfl, N, S, ok, sm, k⟩ := h
    have lo := N.lo
    have a6 := sm.a6
    have p2 := sm.p2
    refine ⟨_, (pss_cons (ps_set (i := 3) sc__law_hands.nd rfl (Or.inl rfl) (pe_call (G__law_names T) (hr.mono (by decide)) (by rfl) T.g__law_names T.k__law_names T.B__law_names .nil pass0 (pa_cons (pe_ix ix_list (pv 0) (pv 1) (fun _ _ => rfl)) (pa_cons pe_int pa_nil))))
      (pss_cons (ps_set (i := 4) sc__law_hands.nd rfl (Or.inl rfl) (pe_lst pa_nil))
      (pss_cons (ps_for PassesOwn.never rfl (pi_range1 (by rfl) T.z_range (pa_cons (pe_op op_mod (pe_callTy call_int1 (by rfl) T.z_int (by decide +kernel) (pa_cons (pe_ix ix_list (pv 0) (pe_op op_add (pv 1) pe_int) (fun _ _ => rfl)) pa_nil)) pe_int) pa_nil)) (pg_name (i := 5) sc__law_hands.nd rfl (Or.inl rfl)) (pss_cons (ps_set (i := 6) sc__law_hands.nd rfl (Or.inl rfl) (pe_op op_add (pe_op op_add (pv 1) pe_int) (pe_op op_mul pe_int (pv 5))))
        (pss_cons (ps_set (i := 7) sc__law_hands.nd rfl (Or.inl rfl) (pe_ix ix_tup (pe_ix ix_list (pv 2) pe_int (fun _ _ => rfl)) (pe_op op_modN (pe_callTy call_int1 (by rfl) T.z_int (by decide +kernel) (pa_cons (pe_ix ix_list (pv 0) (pv 6) (fun _ _ => rfl)) pa_nil)) (pe_callB call_len_seq (by rfl) T.z_len PySem.boot_len (pa_cons (pe_ix ix_list (pv 2) pe_int (fun _ _ => rfl)) pa_nil))) (fun _ _ => rfl)))
        (pss_cons (ps_set (i := 8) sc__law_hands.nd rfl (Or.inl rfl) (pv 7))
        (pss_cons (ps_set (i := 9) sc__law_hands.nd rfl (Or.inl rfl) (pe_lst pa_nil))
        (pss_cons (ps_for PassesOwn.never rfl (pi_range1 (by rfl) T.z_range (pa_cons (pe_op op_mod (pe_callTy call_int1 (by rfl) T.z_int (by decide +kernel) (pa_cons (pe_ix ix_list (pv 0) (pe_op op_add (pv 6) pe_int) (fun _ _ => rfl)) pa_nil)) pe_int) pa_nil)) (pg_name (i := 10) sc__law_hands.nd rfl (Or.inl rfl)) (pss_cons (ps_set (i := 11) sc__law_hands.nd rfl (Or.inl rfl) (pe_call (G__law_walks T) (hr.mono (by decide)) (by rfl) T.g__law_walks T.k__law_walks T.B__law_walks .nil pass0 (pa_cons (pv 2) (pa_cons (pv 8) pa_nil))))
          (pss_cons (ps_set (i := 12) sc__law_hands.nd rfl (Or.inl rfl) (pe_op op_mod (pe_callTy call_int1 (by rfl) T.z_int (by decide +kernel) (pa_cons (pe_ix ix_list (pv 0) (pe_op op_add (pe_op op_add (pv 6) pe_int) (pe_op op_mul pe_int (pv 10))) (fun _ _ => rfl)) pa_nil)) pe_int))
          (pss_cons (ps_set (i := 13) sc__law_hands.nd rfl (Or.inl rfl) (pe_op op_add pe_int (pe_op op_mod (pe_callTy call_int1 (by rfl) T.z_int (by decide +kernel) (pa_cons (pe_ix ix_list (pv 0) (pe_op op_add (pe_op op_add (pv 6) pe_int) (pe_op op_mul pe_int (pv 10))) (fun _ _ => rfl)) pa_nil)) pe_int)))
          (pss_one (ps_if (PW.pt (pw_and (pt_cmpR op_lt (pv 12) pe_int (nomark _)) (pw_and1 (pt_cmpR op_gt (pe_callB call_len_seq (by rfl) T.z_len PySem.boot_len (pa_cons (pv 11) pa_nil)) pe_int (nomark _))))) (pss_cons (ps_set (i := 8) sc__law_hands.nd rfl (Or.inl rfl) (pe_ix ix_tup (pe_ix ix_list (pv 11) (pe_op op_modN (pe_callTy call_int1 (by rfl) T.z_int (by decide +kernel) (pa_cons (pe_ix ix_list (pv 0) (pe_op op_add (pe_op op_add (pv 6) pe_int) (pe_op op_mul pe_int (pv 10))) (fun _ _ => rfl)) pa_nil)) (pe_callB call_len_seq (by rfl) T.z_len PySem.boot_len (pa_cons (pv 11) pa_nil))) (fun _ _ => rfl)) pe_int (fun _ _ => rfl)))
            (pss_one (ps_expr (pe_bm PySem.F.plainAttrs_list PySem.F.slot_list_append PySem.F.type_list_append mt_append (pv 9) (pa_cons (pe_tup (pa_cons pe_str (pa_cons (pv 8) pa_nil))) pa_nil))))) (pss_one (ps_if (pt_cmpR op_lt (pv 12) pe_int (nomark _)) (pss_one (ps_expr (pe_bm PySem.F.plainAttrs_list PySem.F.slot_list_append PySem.F.type_list_append mt_append (pv 9) (pa_cons (pe_tup (pa_cons pe_str (pa_cons (pv 13) pa_nil))) pa_nil)))) (pss_one (ps_expr (pe_bm PySem.F.plainAttrs_list PySem.F.slot_list_append PySem.F.type_list_append mt_append (pv 9) (pa_cons (pe_tup (pa_cons pe_str (pa_cons (pv 13) pa_nil))) pa_nil))))))))))))
        (pss_one (ps_expr (pe_bm PySem.F.plainAttrs_list PySem.F.slot_list_append PySem.F.type_list_append mt_append (pv 4) (pa_cons (pe_tup (pa_cons (pe_ix ix_list (pv 3) (pv 5) (fun _ _ => rfl)) (pa_cons (pv 7) (pa_cons (pv 9) pa_nil)))) pa_nil))))))))))
      (pss_one (ps_ret (pv 4)))))), ?_⟩
    obtain ⟨n115, a0, a1, g115⟩ := N.getE (i := 115) (by decide) (by omega)
    refine ⟨_, rfl, _, rfl, q, _, _, _, rfl, rfl, N.at_, g115, n115, 3, rfl, a0, a1, by decide, fun H1 nq e1 nq0 hnq => ?_⟩
    have gn := namesN_good n115 (m := 3) (by decide)
    have ln := namesN_len n115 3
    generalize namesN n115 3 = names at hnq gn ln
    refine ⟨Nat.zero_le _, fun f hf => ?_⟩
    have ef := Ex.new (o := .lst []) hf
    have N1 := N.ex e1
    obtain ⟨n116, b0, b1, g116⟩ := N1.getE (i := 115 + 1) (by decide) (by omega)
    have m4 : 0 ≤ n116 % 4 ∧ n116 % 4 < 4 := ⟨Int.emod_nonneg _ (by decide), Int.emod_lt_of_pos _ (by decide)⟩
    refine ⟨_, rfl, _, rfl, _, _, rfl, rfl, q, _, _, _, rfl, rfl, ex_l ef N1.at_, g116, .inl ⟨_, rfl, _, _, rfl, rfl, (by show (0 : Int) < 4; decide), _, rfl, by omega, by omega, for_range (n := (n116 % 4).toNat) (fun i σ H' => ∃ (v5 v6 v7 v8 v9 v10 v11 v12 v13 : Option V) (acc : List V) (hs : List Hand), σ = [some (.ref q), some (.int 115), some (.ref p), some (.ref nq), some (.ref f), v5, v6, v7, v8, v9, v10, v11, v12, v13] ∧ Ex H1 H' ∧ H' f = some (.lst acc) ∧ DpAll K (del H' f) acc (hs.map dHand) ∧ hs.length = i ∧ hs.map (·.n) = names.take i ∧ ∀ h ∈ hs, HandOk D h) ⟨none, none, none, none, none, none, none, none, none, [], [], rfl, ef, upd_same, .nil, rfl, rfl, fun h hh => by cases hh⟩ ?_ ?_⟩⟩
    · rintro i σ H2 hi ⟨v5, v6, v7, v8, v9, v10, v11, v12, v13, acc, hs, rfl, e2, hmf, daf, lhs, nhs, okh⟩
      have e12 := e1.trans e2
      have N2 := N.ex e12
      have S2 := S.ex e12
      obtain ⟨ns, c0, c1, gs⟩ := N2.getE (i := 115 + 2 + 22 * (0 + (i : Int))) (by omega) (by omega)
      obtain ⟨nz, start, sin, hz⟩ := strs_pick (ps := D.ps) (by omega) ns
      refine ⟨_, rfl, _, _, rfl, rfl, _, rfl, _, _, rfl, rfl, .inl ⟨by decide, by decide⟩, _, _, rfl, rfl, ?_⟩
      refine ⟨_, rfl, p, _, _, _, rfl, rfl, S2.ob, atI_nat (j := 1) rfl, _, rfl, _, rfl, q, _, _, _, rfl, rfl, N2.at_, gs, .inl ⟨_, rfl, _, rfl, p, _, _, _, rfl, rfl, S2.ob, atI_nat (j := 1) rfl, pl, _, rfl, .inr S2.pl, _, _, rfl, rfl, nz, pl, _, _, _, rfl, rfl, S2.pl, hz, ?_⟩⟩
      refine ⟨_, rfl, ?_⟩
      refine ⟨Nat.zero_le _, fun g hg => ?_⟩
      have eg := Ex.new (o := .lst []) hg
      obtain ⟨nd, d0, d1, gd⟩ := N2.getE (i := 115 + 2 + 22 * (0 + (i : Int)) + 1) (by omega) (by omega)
      have m7 : 0 ≤ nd % 7 ∧ nd % 7 < 7 := ⟨Int.emod_nonneg _ (by decide), Int.emod_lt_of_pos _ (by decide)⟩
      obtain ⟨nm, hnm⟩ : ∃ nm, names[i]? = some nm := ⟨_, List.getElem?_eq_getElem (by omega)⟩
      have nmn := gn.1 nm (List.mem_of_getElem? hnm)
      refine ⟨_, rfl, _, rfl, _, _, rfl, rfl, q, _, _, _, rfl, rfl, ex_l eg N2.at_, gd, .inl ⟨_, rfl, _, _, rfl, rfl, (by show (0 : Int) < 7; decide), _, rfl, by omega, by omega, for_range (n := (nd % 7).toNat) (fun j σ H' => ∃ (v10 v11 v12 v13 : Option V) (acc2 : List V) (ds : List Deed), σ = [some (.ref q), some (.int 115), some (.ref p), some (.ref nq), some (.ref f), some (.int (0 + (i : Int))), some (.int (115 + 2 + 22 * (0 + (i : Int)))), some (.str start), some (.str (hereOf start ds)), some (.ref g), v10, v11, v12, v13] ∧ Ex H2 H' ∧ H' g = some (.lst acc2) ∧ DpAll K (del H' g) acc2 (ds.map dDeed) ∧ ds.length = j ∧ HandOk D ⟨nm, start, ds⟩) ⟨v10, v11, v12, v13, [], [], rfl, eg, upd_same, .nil, rfl, hand0 nmn sin⟩ ?_ ?_⟩⟩
      · rintro j σ H3 hj ⟨v10, v11, v12, v13, acc2, ds, rfl, e3, hmg, dag, lds, hok⟩
        have e13 := e12.trans e3
        have N3 := N.ex e13
        have S3 := S.ex e13
        have l2 : acc2.length = j := by rw [dps_len dag, List.length_map, lds]
        have room : acc2.length < sizeLine := sz_lt (by omega)
        -- one deed more
        have add : ∀ (H4 : Hp) (d : Deed) (ys : List V) (v10 v11 v12 v13 : Option V), Ex H3 H4 → DeedOk D (hereOf start ds) d → (∀ (H5 : Hp) (u : Addr), SqT K H5 u ys → Dp K H5 (.ref u) (dDeed d)) → ∀ u, H4 u = none → ∃ (v10' v11' v12' v13' : Option V) (acc2' : List V) (ds' : List Deed), [some (V.ref q), some (.int 115), some (.ref p), some (.ref nq), some (.ref f), some (.int (0 + (i : Int))), some (.int (115 + 2 + 22 * (0 + (i : Int)))), some (.str start), some (.str (match d with | .walk t => t | _ => hereOf start ds)), some (.ref g), v10, v11, v12, v13] = [some (.ref q), some (.int 115), some (.ref p), some (.ref nq), some (.ref f), some (.int (0 + (i : Int))), some (.int (115 + 2 + 22 * (0 + (i : Int)))), some (.str start), some (.str (hereOf start ds')), some (.ref g), v10', v11', v12', v13'] ∧ Ex H2 (upd (upd H4 u (.tup ys)) g (.lst (acc2 ++ [.ref u]))) ∧ (upd (upd H4 u (.tup ys)) g (.lst (acc2 ++ [.ref u]))) g = some (.lst acc2') ∧ DpAll K (del (upd (upd H4 u (.tup ys)) g (.lst (acc2 ++ [.ref u]))) g) acc2' (ds'.map dDeed) ∧ ds'.length = j + 1 ∧ HandOk D ⟨nm, start, ds'⟩ := fun H4 d ys v10 v11 v12 v13 e4 od dd u hu => by
          have eT := Ex.new (o := .tup ys) hu
          have ug : u ≠ g := fun x => by rw [x, e4 _ _ hmg] at hu; cases hu
          refine ⟨v10, v11, v12, v13, _, ds ++ [d], by rw [hereOf_app], ((e3.trans e4).trans eT).mut hg, upd_same, ?_, by rw [List.length_append, lds]; rfl, hok.add (by omega) od⟩
          rw [del_upd, List.map_append]
          exact dps_app (dps_ex (ex_del (e4.trans eT)) dag) (dps_one (dd _ _ (st_of (del_at ug upd_same))))
        refine ⟨_, rfl, _, rfl, p, D, wi, pl, li, pa, rows, prs, _, rfl, S3, by omega, fun H4 o ws e4 o0 ho da => ?_⟩
        have N4 := N3.ex e4
        obtain ⟨nk, f0, f1, gk⟩ := N4.getE (i := 115 + 2 + 22 * (0 + (i : Int)) + 2 + 2 * (0 + (j : Int))) (by omega) (by omega)
        obtain ⟨np, h0, h1, gp⟩ := N4.getE (i := 115 + 2 + 22 * (0 + (i : Int)) + 3 + 2 * (0 + (j : Int))) (by omega) (by omega)
        refine ⟨_, rfl, _, rfl, _, _, rfl, rfl, _, rfl, _, _, rfl, rfl, .inl ⟨by decide, by decide⟩, _, _, rfl, rfl, q, _, _, _, rfl, rfl, N4.at_, gk, .inl ⟨_, rfl, _, _, rfl, rfl, (by show (0 : Int) < 5; decide), ?_⟩⟩
        refine ⟨_, rfl, _, rfl, _, _, rfl, rfl, _, rfl, _, _, rfl, rfl, .inl ⟨by decide, by decide⟩, _, _, rfl, rfl, q, _, _, _, rfl, rfl, N4.at_, gp, .inl ⟨_, rfl, _, _, rfl, rfl, (by show (0 : Int) < 8; decide), _, _, rfl, rfl, ?_⟩⟩
        have m8 : 0 ≤ np % 8 ∧ np % 8 < 8 := ⟨Int.emod_nonneg _ (by decide), Int.emod_lt_of_pos _ (by decide)⟩
        refine ⟨_, rfl, _, _, rfl, rfl, _, rfl, ?_⟩
        have hmg4 := e4 _ _ hmg
        have lz : ws.length = (walksOf D.pa (hereOf start ds)).length := by rw [dps_len da, List.length_map]
        refine ite2 (fun c1 => ?_) (fun c1 => ?_)
        case' refine_1 =>
          refine ⟨_, rfl, o, _, rfl, .inl (SqL.of ho), _, _, rfl, rfl, _, rfl, ?_⟩
          refine ite2 (fun c2 => ?_) (fun c2 => ?_)
          · have c2 : (0 : Int) < (ws.length : Int) := of_decide_eq_true c2
            have h0' : 0 ≤ np.fmod ((ws.length : Nat) : Int) := Int.fmod_nonneg_of_pos _ (by omega)
            have h1' : np.fmod ((ws.length : Nat) : Int) < ((ws.length : Nat) : Int) := Int.fmod_lt_of_pos _ (by omega)
            obtain ⟨x, hx⟩ : ∃ x, ws[(np.fmod ((ws.length : Nat) : Int)).toNat]? = some x := ⟨_, List.getElem?_eq_getElem (by omega)⟩
            have hx' : atI ws (np.fmod ((ws.length : Nat) : Int)) = some x := by
              have := atI_nat hx
              rwa [Int.toNat_of_nonneg h0'] at this
            obtain ⟨r, hr0, hrm, dr⟩ := pickE da hx
            obtain ⟨t, rfl, hT⟩ := pm_in dr
            have hT := ex_t del_ex hT
            have wt := walk_to ok hrm
            refine ⟨_, rfl, _, rfl, _, rfl, _, _, rfl, rfl, _, rfl, _, _, rfl, rfl, .inl ⟨by decide, by decide⟩, _, _, rfl, rfl, q, _, _, _, rfl, rfl, N4.at_, gp, .inl ⟨_, rfl, _, rfl, o, _, rfl, .inl (SqL.of ho), _, _, rfl, rfl, by omega, o, _, _, _, rfl, rfl, SqL.of ho, hx', t, _, _, _, rfl, rfl, hT, atI_nat (j := 0) rfl, ?_⟩⟩
            refine ⟨_, rfl, .inl ⟨rfl, _, SqL.of hmg4⟩, _, rfl, by show 2 ≤ sizeLine; decide, fun u hu => ?_⟩
            exact ⟨g, _, _, rfl, rfl, Ex.new hu _ _ hmg4, room, add H4 (.walk r.1) _ _ _ _ _ e4 wt (fun H5 u st => .tup st (.cons (.str _) (.cons (.str _) .nil))) u hu⟩
        all_goals (
          refine ⟨_, rfl, _, _, rfl, rfl, _, rfl, ?_⟩
          refine ite2 (fun c3 => ?_) (fun c3 => ?_)
          · refine ⟨_, rfl, .inl ⟨rfl, _, SqL.of hmg4⟩, _, rfl, by show 2 ≤ sizeLine; decide, fun u hu => ?_⟩
            exact ⟨g, _, _, rfl, rfl, Ex.new hu _ _ hmg4, room, add H4 (.cut (1 + np % 8)) _ _ _ _ _ e4 (by constructor <;> omega) (fun H5 u st => .tup st (.cons (.str _) (.cons (.int _) .nil))) u hu⟩
          · refine ⟨_, rfl, .inl ⟨rfl, _, SqL.of hmg4⟩, _, rfl, by show 2 ≤ sizeLine; decide, fun u hu => ?_⟩
            exact ⟨g, _, _, rfl, rfl, Ex.new hu _ _ hmg4, room, add H4 (.wait (1 + np % 8)) _ _ _ _ _ e4 (by constructor <;> omega) (fun H5 u st => .tup st (.cons (.str _) (.cons (.int _) .nil))) u hu⟩)
      · rintro σ H3 ⟨v10, v11, v12, v13, acc2, ds, rfl, e3, hmg, dag, lds, hok⟩
        have gf : g ≠ f := fun x => by rw [x, hmf] at hg; cases hg
        have hmf3 := e3 _ _ hmf
        have l1 : acc.length = i := by rw [dps_len daf, List.length_map, lhs]
        have inm : atI (names.map V.str) (0 + (i : Int)) = some (.str nm) := by rw [Int.zero_add]; exact atI_nat (by rw [List.getElem?_map, hnm]; rfl)
        have e13 := e2.trans e3
        refine ⟨_, rfl, .inl ⟨rfl, _, SqL.of hmf3⟩, _, rfl, _, rfl, nq, _, _, _, rfl, rfl, SqL.of (e13 _ _ hnq), inm, _, rfl, _, rfl, by show 3 ≤ sizeLine; decide, fun u hu => ?_⟩
        have eT := Ex.new (o := .tup [.str nm, .str start, .ref g]) hu
        have uf : u ≠ f := fun x => by rw [x, hmf3] at hu; cases hu
        have mu : (upd H3 u (.tup [.str nm, .str start, .ref g])) u = some (.tup [.str nm, .str start, .ref g]) := upd_same
        generalize upd H3 u (.tup [.str nm, .str start, .ref g]) = H4 at eT mu
        refine ⟨f, _, _, rfl, rfl, eT _ _ hmf3, sz_lt (by omega), ?_⟩
        refine ⟨_, _, _, _, _, _, _, _, _, _, hs ++ [⟨nm, start, ds⟩], rfl, (e13.trans eT).mut hf, upd_same, ?_, by rw [List.length_append, lhs]; rfl, by rw [List.map_append, nhs, take_one hnm]; rfl, fun h hh => ?_⟩
        · rw [del_upd, List.map_append]
          refine dps_app (dps_ex (ex_del (e3.trans eT)) daf) (dps_one (.tup (st_of (del_at uf mu)) (.cons (.str _) (.cons (.str _) (.cons (.lst (SqL.of (del_at gf (eT _ _ hmg))) ?_) .nil)))))
          exact dps_exT ((exT_of (del_ex.trans eT)).trans (exT_delL (eT _ _ hmf3))) dag (frozen_deeds _)
        · rcases List.mem_append.mp hh with hh | hh
          · exact okh h hh
          · rw [List.mem_singleton.mp hh]
            exact hok
    · rintro σ H2 ⟨v5, v6, v7, v8, v9, v10, v11, v12, v13, acc, hs, rfl, e2, hmf, daf, lhs, nhs, okh⟩
      refine ⟨_, rfl, k H2 f acc hs (e1.trans e2) (fresh_back e1 hf) hmf (dps_ex del_ex daf) ⟨by omega, ?_, okh⟩ (by omega)⟩
      rw [nhs]
      exact gn.2.sublist (List.take_sublist _ _)
end
end EV

set_option Elab.async false
set_option linter.all false
set_option maxRecDepth 100000
set_option maxHeartbeats 4000000
namespace EV
open PySem PySem.Spec PyProof.Rows L2 EvS Evl FD
structure TwoL (K : PySem.W.Frag) (H : Hp) (r c : Addr) (rows : List Stay) (cuts : List (Str × Int)) : Prop where
  hs : ∃ vs, H r = some (.lst vs) ∧ DpAll K H vs (rows.map dStay)
  hc : ∃ us, H c = some (.lst us) ∧ DpAll K H us (cuts.map dPm)
  ne : r ≠ c
theorem TwoL.ex {K : PySem.W.Frag} {H H' : Hp} {r c : Addr} {rows : List Stay} {cuts : List (Str × Int)} (ex : Ex H H') (h : TwoL K H r c rows cuts) : TwoL K H' r c rows cuts := by
  obtain ⟨⟨vs, h1, h2⟩, ⟨us, h3, h4⟩, ne⟩ := h
  exact ⟨⟨vs, ex _ _ h1, dps_ex ex h2⟩, ⟨us, ex _ _ h3, dps_ex ex h4⟩, ne⟩
theorem TwoL.stay {K : PySem.W.Frag} {H : Hp} {s c : Addr} {rows : List Stay} {cuts : List (Str × Int)} (h : TwoL K H s c rows cuts) {vs : List V} (hv : H s = some (.lst vs)) (dv : DpAll K H vs (rows.map dStay)) {v : V} {y : Stay} (hy : Dp K H v (dStay y)) : TwoL K (upd H s (.lst (vs ++ [v]))) s c (rows ++ [y]) cuts := by
  obtain ⟨_, ⟨us, h3, h4⟩, ne⟩ := h
  have t := exT_mut (ys := vs ++ [v]) hv
  refine ⟨⟨_, upd_same, ?_⟩, ⟨us, by rw [upd_ne (fun z => ne z.symm)]; exact h3, dps_exT t h4 (frozen_pms _)⟩, ne⟩
  rw [List.map_append]
  exact dps_app (dps_exT t dv (frozen_stays _)) (dps_one (dp_exT t hy (frozen_stay _)))
theorem TwoL.cutm {K : PySem.W.Frag} {H : Hp} {s c : Addr} {rows : List Stay} {cuts : List (Str × Int)} (h : TwoL K H s c rows cuts) {us : List V} (hv : H c = some (.lst us)) (dv : DpAll K H us (cuts.map dPm)) {v : V} {y : Str × Int} (hy : Dp K H v (dPm y)) : TwoL K (upd H c (.lst (us ++ [v]))) s c rows (cuts ++ [y]) := by
  obtain ⟨⟨vs, h3, h4⟩, _, ne⟩ := h
  have t := exT_mut (ys := us ++ [v]) hv
  refine ⟨⟨vs, by rw [upd_ne ne]; exact h3, dps_exT t h4 (frozen_stays _)⟩, ⟨_, upd_same, ?_⟩, ne⟩
  rw [List.map_append]
  exact dps_app (dps_exT t dv (frozen_pms _)) (dps_one (dp_exT t hy (frozen_pm _)))
def minsTo (ws : List (Str × Int)) (t : Str) : List V := (ws.filter fun w => w.1 == t).map fun w => V.int w.2
theorem mins_head {pa : List (Str × Str × Int)} {a b : Str} {m : Int} (h : minB pa a b = some m) : atI (minsTo (walksOf pa a) b) 0 = some (.int m) := by
  rw [← walks_min] at h
  unfold minsTo
  cases hh : (walksOf pa a).filter fun w => w.1 == b with
  | nil => rw [hh] at h; cases h
  | cons x y =>
    rw [hh] at h
    rw [← Option.some.inj h]
    exact atI_nat (j := 0) rfl
def sp__law_course (K : PySem.W.Frag) : Sp := fun vs H Q _ => ∃ (p : Addr) (v : V) (h : Hand) (D : LandD) (wi pl li pa : Addr) (rows prs : List V), vs = [.ref p, v] ∧ Parts2 K H p D wi pl li pa rows prs ∧ LandOk D ∧ Dp K H v (dHand h) ∧ HandOk D h ∧
  ∀ H' t r c, Ex H H' → SqT K H' t [.ref r, .ref c, .int (run D.pa h).now] → H r = none → H c = none → TwoL K H' r c (rowsOf D.pa h) (run D.pa h).cuts → Q (.ref t) H'
section
variable {P : Program} {w : World} {K : PySem.W.Frag} {mg : Str → Option Value} {base : Heap} {a : Ad}
theorem G__law_course (T : Txt K mg a) : FnOk P w K mg base CX0 2 a.f__law_course a.d__law_course ["parts", "hand"] (sp__law_course K) := by
  refine T.F__law_course.ok sc__law_course (fun vs H Q E h => ?_) (fun cdv A outer s0 H vs Q E hr h => ?_)
  · obtain ⟨p, v, h, D, wi, pl, li, pa, rows, prs, rfl, _⟩ := h
    rfl
  · obtain ⟨p, v, hd, D, wi, pl, li, pa, rows, prs, rfl, S, ok, dv, hok, k⟩ := h
    have a60 := ok.a60
    refine ⟨_, (pss_cons (ps_asg (pv 1) (pg_tup (by rfl) (pgs_cons (pg_name (i := 2) sc__law_course.nd rfl (Or.inl rfl)) (pgs_cons (pg_name (i := 3) sc__law_course.nd rfl (Or.inl rfl)) (pgs_cons (pg_name (i := 4) sc__law_course.nd rfl (Or.inl rfl)) pgs_nil)))))
      (pss_cons (ps_set (i := 5) sc__law_course.nd rfl (Or.inl rfl) (pe_lst pa_nil))
      (pss_cons (ps_set (i := 6) sc__law_course.nd rfl (Or.inl rfl) (pe_lst pa_nil))
      (pss_cons (ps_set (i := 7) sc__law_course.nd rfl (Or.inl rfl) pe_int)
      (pss_cons (ps_set (i := 8) sc__law_course.nd rfl (Or.inl rfl) pe_int)
      (pss_cons (ps_for PassesOwn.never rfl (pi_list (pv 4)) (pg_tup (by rfl) (pgs_cons (pg_name (i := 9) sc__law_course.nd rfl (Or.inl rfl)) (pgs_cons (pg_name (i := 10) sc__law_course.nd rfl (Or.inr rfl)) pgs_nil))) (pss_one (ps_if (pt_cmpR op_eq (pv 9) pe_str (nomark _)) (pss_cons (ps_set (i := 11) sc__law_course.nd rfl (Or.inl rfl) (pe_ix ix_list (pe_lc (own := [("walk", 12)]) (g := gName 12) rfl sc__law_course.nd (pi_list (pe_call (G__law_walks T) (hr.mono (by decide)) (by rfl) T.g__law_walks T.k__law_walks T.B__law_walks .nil pass0 (pa_cons (pv 0) (pa_cons (pv 3) pa_nil)))) (blkOk_by (N := ["parts", "hand", "name", "here", "deeds", "rows", "cuts", "now", "since", "word", "part", "minutes", "walk"]) (sc := defScope s__law_course) (by decide +kernel)) (fun _ _ _ _ _ => pg_name (i := 12) sc__law_course.nd rfl (Or.inl rfl)) (fun _ _ _ _ _ => pts_one (pt_cmpR op_eq (pe_ix (show IxR _ (rIxT K) from ix_tup) (pv 12) pe_int (fun _ _ => rfl)) (pv 10) (nomark _))) (fun _ _ _ _ _ => (pe_ix (show IxR _ (rIxT K) from ix_tup) (pv 12) pe_int (fun _ _ => rfl)))) pe_int (fun _ _ => rfl)))
          (pss_cons (ps_expr (pe_bm PySem.F.plainAttrs_list PySem.F.slot_list_append PySem.F.type_list_append mt_append (pv 5) (pa_cons (pe_tup (pa_cons (pv 2) (pa_cons (pv 3) (pa_cons (pv 8) (pa_cons (pv 7) pa_nil))))) pa_nil)))
          (pss_cons (ps_set (i := 7) sc__law_course.nd rfl (Or.inl rfl) (pe_op op_add (pv 7) (pv 11)))
          (pss_cons (ps_set (i := 8) sc__law_course.nd rfl (Or.inl rfl) (pv 7))
          (pss_one (ps_set (i := 3) sc__law_course.nd rfl (Or.inl rfl) (pv 10))))))) (pss_cons (ps_set (i := 7) sc__law_course.nd rfl (Or.inl rfl) (pe_op op_add (pv 7) (pv 10)))
          (pss_one (ps_if (pt_cmpR op_eq (pv 9) pe_str (nomark _)) (pss_one (ps_expr (pe_bm PySem.F.plainAttrs_list PySem.F.slot_list_append PySem.F.type_list_append mt_append (pv 6) (pa_cons (pe_tup (pa_cons (pv 3) (pa_cons (pv 7) pa_nil))) pa_nil)))) pss_nil))))))
      (pss_cons (ps_expr (pe_bm PySem.F.plainAttrs_list PySem.F.slot_list_append PySem.F.type_list_append mt_append (pv 5) (pa_cons (pe_tup (pa_cons (pv 2) (pa_cons (pv 3) (pa_cons (pv 8) (pa_cons pe_non pa_nil))))) pa_nil)))
      (pss_one (ps_ret (pe_tup (pa_cons (pv 5) (pa_cons (pv 6) (pa_cons (pv 7) pa_nil))))))))))))), ?_⟩
    obtain ⟨t, u, vs, rfl, hT, hU, dds⟩ := hand_in dv
    have lv : vs.length = hd.ds.length := by rw [dps_len dds, List.length_map]
    have l30 := hok.len
    refine ⟨_, rfl, t, _, rfl, hT, rfl, _, _, rfl, _, _, rfl, _, _, rfl, rfl, ?_⟩
    refine ⟨Nat.zero_le _, fun s hs => ⟨Nat.zero_le _, fun c hc => ?_⟩⟩
    have s00 : H s = none := hs
    have c0 : H c = none := fresh_back (Ex.new hs) hc
    have e0 : Ex H (upd (upd H s (.lst [])) c (.lst [])) := (Ex.new hs).trans (Ex.new hc)
    have L0 : TwoL K (upd (upd H s (.lst [])) c (.lst [])) s c [] [] := by
      have sc : s ≠ c := fun z => by rw [← z, upd_same] at hc; cases hc
      exact ⟨⟨[], by rw [upd_ne sc, upd_same], .nil⟩, ⟨[], upd_same, .nil⟩, sc⟩
    generalize upd (upd H s (.lst [])) c (.lst []) = H1 at e0 L0
    refine ⟨_, rfl, u, rfl, ⟨_, ex_l e0 hU⟩, for_list (K := K) (a := u) (xs := vs) (fun i σ H' => ∃ v9 v10 v11, σ = [some (.ref p), some (.ref t), some (.str hd.n), some (.str (runTo D.pa hd i).here), some (.ref u), some (.ref s), some (.ref c), some (.int (runTo D.pa hd i).now), some (.int (runTo D.pa hd i).since), v9, v10, v11, none] ∧ Ex H H' ∧ TwoL K H' s c (runTo D.pa hd i).rows (runTo D.pa hd i).cuts) ⟨none, none, none, rfl, e0, L0⟩ (fun i σ H' _ z => by obtain ⟨_, _, _, rfl, ex, _⟩ := z; exact ex_l ex hU) ?_ ?_⟩
    · rintro i y σ H2 hy ⟨v9, v10, v11, rfl, ex, C1⟩
      obtain ⟨d, hdd, hm, dp⟩ := pickE (dps_ex ex dds) hy
      have hi : i < hd.ds.length := (List.getElem?_eq_some_iff.mp hdd).1
      have rl := run_len D.pa hd i
      obtain ⟨tt, rfl, hTT⟩ := deed_in dp
      have nx := runTo_more (pa := D.pa) hdd
      cases d with
      | walk z =>
        obtain ⟨m, hmm⟩ := Option.isSome_iff_exists.mp (hok.path i z hdd)
        refine ⟨tt, _, rfl, hTT, rfl, _, _, rfl, _, _, rfl, rfl, ?_⟩
        refine ⟨_, rfl, rfl, _, rfl, ?_⟩
        rw [decide_eq_true (rfl : V.str "walk" = V.str "walk")]
        refine iteT ?_
        refine ⟨_, rfl, _, rfl, p, D, wi, pl, li, pa, rows, prs, _, rfl, S.ex ex, by omega, fun H3 o ws e3 o0 ho da => ?_⟩
        have lz : ws.length = (walksOf D.pa (runTo D.pa hd i).here).length := by rw [dps_len da, List.length_map]
        have lw := walks_len D.pa (runTo D.pa hd i).here
        refine ⟨o, rfl, ⟨_, SqL.of ho⟩, fun F hF => lc_list (K := K) (a := o) (xs := ws) (fun j H' => Ex H3 H' ∧ H' F = some (.lst (minsTo ((walksOf D.pa (runTo D.pa hd i).here).take j) z)) ∧ j ≤ ws.length) ⟨Ex.new hF, upd_same, Nat.zero_le _⟩ (fun j H' _ q => SqL.of (q.1 _ _ ho)) (fun j y H' hy q => ?_) (fun H4 q => ?_)⟩
        · obtain ⟨e4, mF, _⟩ := q
          obtain ⟨r, hr0, hrm, dr⟩ := pickE da hy
          obtain ⟨rt, rfl, hR⟩ := pm_in dr
          have hR := ex_t (del_ex.trans e4) hR
          have hj := (List.getElem?_eq_some_iff.mp hy).1
          have tk : minsTo ((walksOf D.pa (runTo D.pa hd i).here).take (j + 1)) z = minsTo ((walksOf D.pa (runTo D.pa hd i).here).take j) z ++ (if (r.1 == z) = true then [V.int r.2] else []) := by
            unfold minsTo
            rw [take_one hr0, List.filter_append, List.map_append, List.filter_cons, List.filter_nil]
            congr 1
            split <;> rfl
          rw [tk]
          refine ⟨rfl, _, rfl, rt, _, _, _, rfl, rfl, hR, atI_nat (j := 0) rfl, _, rfl, rfl, _, rfl, ?_⟩
          have ec : decide (V.str r.1 = V.str z) = (r.1 == z) := by
            cases q : (r.1 == z) with
            | true => rw [eq_of_beq q, decide_eq_true rfl]
            | false => exact decide_eq_false fun e => by rw [V.str.inj e, beq_self_eq_true] at q; cases q
          rw [ec]
          have lf : (minsTo ((walksOf D.pa (runTo D.pa hd i).here).take j) z).length ≤ j := by
            unfold minsTo
            rw [List.length_map]
            refine Nat.le_trans (List.length_filter_le _ _) ?_
            rw [List.length_take]
            omega
          cases q : (r.1 == z) with
          | true =>
            refine iteT ⟨_, rfl, rt, _, _, _, rfl, rfl, hR, atI_nat (j := 1) rfl, _, mF, sz_lt (by omega), e4.mut hF, ?_, hj⟩
            rw [if_pos rfl, upd_same]
          | false =>
            rw [if_neg (by decide), List.append_nil]
            exact iteF ⟨e4, mF, hj⟩
        · obtain ⟨e4, mF, _⟩ := q
          rw [lz, List.take_length] at mF
          refine ⟨F, _, _, _, rfl, rfl, SqL.of mF, mins_head hmm, ?_⟩
          have ex4 := (ex.trans e3).trans e4
          have C4 := C1.ex (e3.trans e4)
          obtain ⟨vsS, hS, dS⟩ := C4.hs
          have room : vsS.length < sizeLine := sz_lt (by rw [dps_len dS, List.length_map]; omega)
          refine ⟨_, rfl, .inl ⟨rfl, _, SqL.of hS⟩, _, rfl, _, rfl, _, rfl, _, rfl, by show 4 ≤ sizeLine; decide, fun q hq => ?_⟩
          have e5 := Ex.new (o := .tup [.str hd.n, .str (runTo D.pa hd i).here, .int (runTo D.pa hd i).since, .int (runTo D.pa hd i).now]) hq
          have dq : Dp K (upd H4 q (.tup [.str hd.n, .str (runTo D.pa hd i).here, .int (runTo D.pa hd i).since, .int (runTo D.pa hd i).now])) (.ref q) (dStay ⟨hd.n, (runTo D.pa hd i).here, (runTo D.pa hd i).since, some (runTo D.pa hd i).now⟩) := .tup (st_of upd_same) (.cons (.str _) (.cons (.str _) (.cons (.int _) (.cons (.int _) .nil))))
          generalize upd H4 q (.tup [.str hd.n, .str (runTo D.pa hd i).here, .int (runTo D.pa hd i).since, .int (runTo D.pa hd i).now]) = H5 at e5 dq
          refine ⟨s, _, _, rfl, rfl, e5 _ _ hS, room, ?_⟩
          have C5 := (C4.ex e5).stay (e5 _ _ hS) (dps_ex e5 dS) dq
          have ex5 := (ex4.trans e5).mut (o := .lst (vsS ++ [.ref q])) s00
          refine ⟨_, rfl, _, rfl, _, _, rfl, rfl, ?_⟩
          refine ⟨_, rfl, _, rfl, ?_⟩
          refine ⟨some (.str "walk"), some (.str z), some (.int m), ?_, ex5, ?_⟩
          rotate_left
          · rw [nx]
            exact C5
          · rw [nx]
            show _ = [some (V.ref p), some (.ref t), some (.str hd.n), some (.str z), some (.ref u), some (.ref s), some (.ref c), some (.int ((runTo D.pa hd i).now + (minB D.pa (runTo D.pa hd i).here z).getD 0)), some (.int ((runTo D.pa hd i).now + (minB D.pa (runTo D.pa hd i).here z).getD 0)), some (.str "walk"), some (.str z), some (.int m), none]
            rw [hmm]
            rfl
      | cut m =>
        refine ⟨tt, _, rfl, hTT, rfl, _, _, rfl, _, _, rfl, rfl, ?_⟩
        refine ⟨_, rfl, rfl, _, rfl, ?_⟩
        rw [decide_eq_false (show ¬ V.str "cut" = V.str "walk" from fun z => absurd (V.str.inj z) (by decide +kernel))]
        refine iteF ?_
        refine ⟨_, rfl, _, rfl, _, _, rfl, rfl, ?_⟩
        refine ⟨_, rfl, rfl, _, rfl, ?_⟩
        rw [decide_eq_true (rfl : V.str "cut" = V.str "cut")]
        obtain ⟨vsC, hC, dC⟩ := C1.hc
        have room : vsC.length < sizeLine := sz_lt (by rw [dps_len dC, List.length_map]; omega)
        refine iteT ⟨_, rfl, .inl ⟨rfl, _, SqL.of hC⟩, _, rfl, _, rfl, by show 2 ≤ sizeLine; decide, fun q hq => ?_⟩
        have e3 := Ex.new (o := .tup [.str (runTo D.pa hd i).here, .int ((runTo D.pa hd i).now + m)]) hq
        have dq : Dp K (upd H2 q (.tup [.str (runTo D.pa hd i).here, .int ((runTo D.pa hd i).now + m)])) (.ref q) (dPm ((runTo D.pa hd i).here, (runTo D.pa hd i).now + m)) := .tup (st_of upd_same) (.cons (.str _) (.cons (.int _) .nil))
        refine ⟨c, _, _, rfl, rfl, e3 _ _ hC, room, ?_⟩
        generalize upd H2 q (.tup [.str (runTo D.pa hd i).here, .int ((runTo D.pa hd i).now + m)]) = H3 at e3 dq
        have C3 := (C1.ex e3).cutm (e3 _ _ hC) (dps_ex e3 dC) dq
        have ex3 := (ex.trans e3).mut (o := .lst (vsC ++ [.ref q])) c0
        refine ⟨some (.str "cut"), some (.int m), v11, ?_, ex3, ?_⟩
        rotate_left
        · rw [nx]
          exact C3
        · rw [nx]
          rfl
      | wait m =>
        refine ⟨tt, _, rfl, hTT, rfl, _, _, rfl, _, _, rfl, rfl, ?_⟩
        refine ⟨_, rfl, rfl, _, rfl, ?_⟩
        rw [decide_eq_false (show ¬ V.str "wait" = V.str "walk" from fun z => absurd (V.str.inj z) (by decide +kernel))]
        refine iteF ?_
        refine ⟨_, rfl, _, rfl, _, _, rfl, rfl, ?_⟩
        refine ⟨_, rfl, rfl, _, rfl, ?_⟩
        rw [decide_eq_false (show ¬ V.str "wait" = V.str "cut" from fun z => absurd (V.str.inj z) (by decide +kernel))]
        refine iteF ⟨some (.str "wait"), some (.int m), v11, ?_, ex, ?_⟩
        rotate_left
        · rw [nx]
          exact C1
        · rw [nx]
          rfl
    · rintro σ H2 ⟨v9, v10, v11, rfl, ex, C1⟩
      have er : runTo D.pa hd vs.length = run D.pa hd := by rw [lv]; rfl
      rw [er] at C1 ⊢
      have rl := run_len D.pa hd hd.ds.length
      have rl : (run D.pa hd).rows.length ≤ hd.ds.length ∧ (run D.pa hd).cuts.length ≤ hd.ds.length := rl
      obtain ⟨vsS, hS, dS⟩ := C1.hs
      have room : vsS.length < sizeLine := sz_lt (by rw [dps_len dS, List.length_map]; omega)
      refine ⟨_, rfl, .inl ⟨rfl, _, SqL.of hS⟩, _, rfl, _, rfl, _, rfl, by show 4 ≤ sizeLine; decide, fun q hq => ?_⟩
      have e3 := Ex.new (o := .tup [.str hd.n, .str (run D.pa hd).here, .int (run D.pa hd).since, .non]) hq
      have dq : Dp K (upd H2 q (.tup [.str hd.n, .str (run D.pa hd).here, .int (run D.pa hd).since, .non])) (.ref q) (dStay ⟨hd.n, (run D.pa hd).here, (run D.pa hd).since, none⟩) := .tup (st_of upd_same) (.cons (.str _) (.cons (.str _) (.cons (.int _) (.cons .non .nil))))
      generalize upd H2 q (.tup [.str hd.n, .str (run D.pa hd).here, .int (run D.pa hd).since, .non]) = H3 at e3 dq
      refine ⟨s, _, _, rfl, rfl, e3 _ _ hS, room, ?_⟩
      have C3 := (C1.ex e3).stay (e3 _ _ hS) (dps_ex e3 dS) dq
      have ex3 := (ex.trans e3).mut (o := .lst (vsS ++ [.ref q])) s00
      generalize upd H3 s (.lst (vsS ++ [.ref q])) = H4 at C3 ex3
      refine ⟨_, rfl, _, rfl, _, rfl, by show 3 ≤ sizeLine; decide, fun x hx => ?_⟩
      exact k _ x s c (ex3.trans (Ex.new hx)) (st_of upd_same) s00 c0 (C3.ex (Ex.new hx))
end
end EV

set_option Elab.async false
set_option linter.all false
set_option maxRecDepth 100000
set_option maxHeartbeats 4000000
namespace EV
open PySem PySem.Spec PyProof.Rows L2 EvS Evl FD
def msOf (cuts : List (Str × Int)) (p : Str) : List Int := (cuts.filter fun w => w.1 == p).map (·.2)
theorem fold_ms (p : Str) : ∀ (cuts : List (Str × Int)) (c : Option Int), cuts.foldl (fun c r => if r.1 = p then FP.least c (some r.2) else c) c = (msOf cuts p).foldl (fun c x => FP.least c (some x)) c
  | [], _ => rfl
  | r :: t, c => by
    rw [List.foldl_cons]
    unfold msOf
    rw [List.filter_cons]
    by_cases h : r.1 = p
    · rw [if_pos h, if_pos (by rw [h]; exact beq_self_eq_true _), List.map_cons, List.foldl_cons]
      exact fold_ms p t _
    · rw [if_neg h, if_neg (by simpa using h)]
      exact fold_ms p t _
theorem fold_least : ∀ (ms : List Int) (a : Int), ∃ b, ms.foldl (fun c x => FP.least c (some x)) (some a) = some b ∧ (b = a ∨ b ∈ ms) ∧ b ≤ a ∧ ∀ y ∈ ms, b ≤ y
  | [], a => ⟨a, rfl, .inl rfl, Int.le_refl _, fun y h => by cases h⟩
  | x :: r, a => by
    rw [List.foldl_cons]
    by_cases h : x < a
    · obtain ⟨b, e, h1, h2, h3⟩ := fold_least r x
      refine ⟨b, by rw [show FP.least (some a) (some x) = some x from if_pos h]; exact e, ?_, by omega, fun y hy => ?_⟩
      · rcases h1 with rfl | h1
        · exact .inr List.mem_cons_self
        · exact .inr (List.mem_cons_of_mem _ h1)
      · rcases List.mem_cons.mp hy with rfl | hy
        · exact h2
        · exact h3 y hy
    · obtain ⟨b, e, h1, h2, h3⟩ := fold_least r a
      refine ⟨b, by rw [show FP.least (some a) (some x) = some a from if_neg h]; exact e, ?_, h2, fun y hy => ?_⟩
      · rcases h1 with rfl | h1
        · exact .inl rfl
        · exact .inr (List.mem_cons_of_mem _ h1)
      · rcases List.mem_cons.mp hy with rfl | hy
        · omega
        · exact h3 y hy
theorem minOf_none {cuts : List (Str × Int)} {p : Str} (h : msOf cuts p = []) : FP.minOf cuts p = none := by
  unfold FP.minOf
  rw [fold_ms, h]
  rfl
theorem minOf_some {cuts : List (Str × Int)} {p : Str} {m : Int} (h1 : m ∈ msOf cuts p) (h2 : ∀ y ∈ msOf cuts p, m ≤ y) : FP.minOf cuts p = some m := by
  unfold FP.minOf
  rw [fold_ms]
  cases hm : msOf cuts p with
  | nil => rw [hm] at h1; cases h1
  | cons x r =>
    rw [hm] at h1 h2
    rw [List.foldl_cons, show FP.least none (some x) = some x from rfl]
    obtain ⟨b, e, e1, e2, e3⟩ := fold_least r x
    rw [e]
    congr 1
    have le1 : m ≤ b := by
      rcases e1 with rfl | e1
      · exact h2 _ List.mem_cons_self
      · exact h2 _ (List.mem_cons_of_mem _ e1)
    have le2 : b ≤ m := by
      rcases List.mem_cons.mp h1 with rfl | h1
      · exact e2
      · exact e3 _ h1
    omega
def sp__law_cut (K : PySem.W.Frag) : Sp := fun vs H Q _ => ∃ (p o : Addr) (us : List V) (hs : List Hand) (D : LandD) (wi pl li pa : Addr) (rows prs : List V), vs = [.ref p, .ref o] ∧ Parts2 K H p D wi pl li pa rows prs ∧ LandOk D ∧ HandsIn K H o us hs ∧ HandsOk D hs ∧
  ∀ H' f ws, Ex H H' → H f = none → H' f = some (.lst ws) → DpAll K H' ws ((brkOf D hs).map dPm) → Q (.ref f) H'
section
variable {P : Program} {w : World} {K : PySem.W.Frag} {mg : Str → Option Value} {base : Heap} {a : Ad}
theorem G__law_cut (T : Txt K mg a) : FnOk P w K mg base CX0 3 a.f__law_cut a.d__law_cut ["parts", "hands"] (sp__law_cut K) := by
  refine T.F__law_cut.ok sc__law_cut (fun vs H Q E h => ?_) (fun cdv A outer s0 H vs Q E hr h => ?_)
  · obtain ⟨p, o, us, hs, D, wi, pl, li, pa, rows, prs, rfl, _⟩ := h
    rfl
  · obtain ⟨p, o, us, hs, D, wi, pl, li, pa, rows, prs, rfl, S, ok, HI, hok, k⟩ := h
    have lu := HI.len
    have l5 := hok.l5
    have p24 := ok.p24
    have lpl : (D.ps.map V.str).length = D.ps.length := List.length_map ..
    refine ⟨_, (pss_cons (ps_set (i := 2) sc__law_cut.nd rfl (Or.inl rfl) (pe_lst pa_nil))
      (pss_cons (ps_for PassesOwn.never rfl (pi_list (pv 1)) (pg_name (i := 3) sc__law_cut.nd rfl (Or.inl rfl)) (pss_one (ps_set (i := 2) sc__law_cut.nd rfl (Or.inl rfl) (pe_op op_cat (pv 2) (pe_ix ix_tup (pe_call (G__law_course T) (hr.mono (by decide)) (by rfl) T.g__law_course T.k__law_course T.B__law_course .nil pass0 (pa_cons (pv 0) (pa_cons (pv 3) pa_nil))) pe_int (fun _ _ => rfl))))))
      (pss_cons (ps_set (i := 4) sc__law_cut.nd rfl (Or.inl rfl) (pe_lst pa_nil))
      (pss_cons (ps_for PassesOwn.never rfl (pi_tup (pe_ix ix_list (pv 0) pe_int (fun _ _ => rfl))) (pg_name (i := 5) sc__law_cut.nd rfl (Or.inr rfl)) (pss_cons (ps_setLc (i := 6) (own := [("cut", 7)]) (g := gName 7) rfl sc__law_cut.nd rfl rfl (sw_true rfl rfl rfl (by decide +kernel)) (pi_list (pv 2)) (blkOk_by (N := ["parts", "hands", "cuts", "hand", "found", "place", "minutes", "cut"]) (sc := defScope s__law_cut) (by decide +kernel)) (fun _ _ _ _ _ => pg_name (i := 7) sc__law_cut.nd rfl (Or.inl rfl)) (fun _ _ _ _ _ => pts_one (pt_cmpR op_eq (pe_ix (show IxR _ (rIxT K) from ix_tup) (pv 7) pe_int (fun _ _ => rfl)) (pv 5) (nomark _))) (fun _ _ _ _ _ => (pe_ix (show IxR _ (rIxT K) from ix_tup) (pv 7) pe_int (fun _ _ => rfl))))
        (pss_one (ps_if (pt_cmpR op_gt (pe_callB call_len_seq (by rfl) T.z_len PySem.boot_len (pa_cons (pv 6) pa_nil)) pe_int (nomark _)) (pss_one (ps_expr (pe_bm PySem.F.plainAttrs_list PySem.F.slot_list_append PySem.F.type_list_append mt_append (pv 4) (pa_cons (pe_tup (pa_cons (pv 5) (pa_cons (pe_callB (cr_min rfl) (by rfl) T.z_min (by decide +kernel) (pa_cons (pv 6) pa_nil)) pa_nil))) pa_nil)))) pss_nil))))
      (pss_one (ps_ret (pv 4))))))), ?_⟩
    refine ⟨Nat.zero_le _, fun c0 hc0 => ?_⟩
    refine ⟨_, rfl, o, rfl, ⟨_, ex_l (Ex.new hc0) HI.at_⟩, for_list (K := K) (a := o) (xs := us) (fun i σ H' => ∃ (v3 : Option V) (cu : Addr) (cs : List V), σ = [some (.ref p), some (.ref o), some (.ref cu), v3, none, none, none, none] ∧ Ex H H' ∧ H' cu = some (.lst cs) ∧ DpAll K H' cs ((allCuts D (hs.take i)).map dPm)) ⟨none, c0, [], rfl, Ex.new hc0, upd_same, .nil⟩ (fun i σ H' _ z => by obtain ⟨_, _, _, rfl, e, _⟩ := z; exact ex_l e HI.at_) ?_ ?_⟩
    · rintro i y σ H1 hy ⟨v3, cu, cs, rfl, e, hcu, dcs⟩
      obtain ⟨h, hh, hm, dp⟩ := pickE (dps_ex e HI.ds) hy
      have hi := (List.getElem?_eq_some_iff.mp hh).1
      refine ⟨_, rfl, _, rfl, _, rfl, p, y, h, D, wi, pl, li, pa, rows, prs, rfl, S.ex e, ok, dp, hok.ok h hm, fun H2 t r c e2 ht r0 c00 TL => ?_⟩
      obtain ⟨us2, hc, dc⟩ := TL.hc
      refine ⟨t, _, _, _, rfl, rfl, ht, atI_nat (j := 1) rfl, ?_⟩
      have rl := rows_len (D := D) (hs := hs.take i) fun z hz => hok.ok z (List.mem_of_mem_take hz)
      have l1 := run_len D.pa h h.ds.length
      have l1 : (run D.pa h).rows.length ≤ h.ds.length ∧ (run D.pa h).cuts.length ≤ h.ds.length := l1
      have l30 := (hok.ok h hm).len
      rw [List.length_take] at rl
      have a1 : cs.length ≤ 150 := by rw [dps_len dcs, List.length_map]; omega
      have a2 : us2.length ≤ 30 := by rw [dps_len dc, List.length_map]; omega
      refine ⟨cu, c, _, _, rfl, rfl, e2 _ _ hcu, hc, sz_of (by omega), fun n hn => ?_⟩
      have e3 := Ex.new (o := .lst (cs ++ us2)) hn
      refine ⟨_, n, _, rfl, (e.trans e2).trans e3, upd_same, ?_⟩
      rw [take_one hh, allCuts_more, List.map_append]
      exact dps_app (dps_ex (e2.trans e3) dcs) (dps_ex e3 dc)
    · rintro σ H1 ⟨v3, cu, cs, rfl, e, hcu, dcs⟩
      rw [lu, List.take_length] at dcs
      have rl := rows_len (D := D) (hs := hs) hok.ok
      have lcs : cs.length = (allCuts D hs).length := by rw [dps_len dcs, List.length_map]
      refine ⟨Nat.zero_le _, fun f hf => ?_⟩
      have ef := Ex.new (o := .lst []) hf
      refine ⟨_, rfl, p, _, _, _, rfl, rfl, ex_l (e.trans ef) S.ob, atI_nat (j := 1) rfl, pl, rfl, ⟨_, ex_t (e.trans ef) S.pl⟩, for_tup (K := K) (a := pl) (xs := D.ps.map V.str) (fun i σ H' => ∃ (v5 v6 : Option V) (acc : List V), σ = [some (.ref p), some (.ref o), some (.ref cu), v3, some (.ref f), v5, v6, none] ∧ Ex H1 H' ∧ H' f = some (.lst acc) ∧ acc.length ≤ i ∧ DpAll K (del H' f) acc (((D.ps.take i).filterMap fun p => (FP.minOf (allCuts D hs) p).map fun m => (p, m)).map dPm)) ⟨none, none, [], rfl, ef, upd_same, Nat.le_refl _, .nil⟩ (fun i σ H' _ z => by obtain ⟨_, _, _, rfl, e2, _⟩ := z; exact ex_t (e.trans e2) S.pl) ?_ ?_⟩
      · rintro i y σ H2 hy ⟨v5, v6, acc, rfl, e2, hmf, la, da⟩
        have hi : i < D.ps.length := by have := (List.getElem?_eq_some_iff.mp hy).1; rwa [lpl] at this
        obtain ⟨q, hq⟩ : ∃ q, D.ps[i]? = some q := ⟨_, List.getElem?_eq_getElem hi⟩
        rw [List.getElem?_map, hq] at hy
        obtain rfl := Option.some.inj hy
        have hcu2 := e2 _ _ hcu
        refine ⟨_, rfl, cu, rfl, ⟨_, SqL.of hcu2⟩, fun F hF => lc_list (K := K) (a := cu) (xs := cs) (fun j H' => Ex H2 H' ∧ H' F = some (.lst ((msOf ((allCuts D hs).take j) q).map V.int)) ∧ j ≤ cs.length) ⟨Ex.new hF, upd_same, Nat.zero_le _⟩ (fun j H' _ z => SqL.of (z.1 _ _ hcu2)) (fun j y H' hy z => ?_) (fun H3 z => ?_)⟩
        · obtain ⟨e4, mF, _⟩ := z
          obtain ⟨r, hr0, hrm, dr⟩ := pickE dcs hy
          obtain ⟨rt, rfl, hR⟩ := pm_in dr
          have hR := ex_t (e2.trans e4) hR
          have hj := (List.getElem?_eq_some_iff.mp hy).1
          have tk : (msOf ((allCuts D hs).take (j + 1)) q).map V.int = (msOf ((allCuts D hs).take j) q).map V.int ++ (if (r.1 == q) = true then [V.int r.2] else []) := by
            unfold msOf
            rw [take_one hr0, List.filter_append, List.map_append, List.map_append, List.filter_cons, List.filter_nil]
            congr 1
            split <;> rfl
          rw [tk]
          refine ⟨rfl, _, rfl, rt, _, _, _, rfl, rfl, hR, atI_nat (j := 0) rfl, _, rfl, rfl, _, rfl, ?_⟩
          have ec : decide (V.str r.1 = V.str q) = (r.1 == q) := by
            cases z : (r.1 == q) with
            | true => rw [eq_of_beq z, decide_eq_true rfl]
            | false => exact decide_eq_false fun e => by rw [V.str.inj e, beq_self_eq_true] at z; cases z
          rw [ec]
          have lf : ((msOf ((allCuts D hs).take j) q).map V.int).length ≤ j := by
            unfold msOf
            rw [List.length_map, List.length_map]
            refine Nat.le_trans (List.length_filter_le _ _) ?_
            rw [List.length_take]
            omega
          cases z : (r.1 == q) with
          | true =>
            refine iteT ⟨_, rfl, rt, _, _, _, rfl, rfl, hR, atI_nat (j := 1) rfl, _, mF, sz_lt (by omega), e4.mut hF, ?_, hj⟩
            rw [if_pos rfl, upd_same]
          | false =>
            rw [if_neg (by decide), List.append_nil]
            exact iteF ⟨e4, mF, hj⟩
        · obtain ⟨e4, mF, _⟩ := z
          rw [lcs, List.take_length] at mF
          have hmf3 := e4 _ _ hmf
          refine ⟨_, rfl, F, _, rfl, .inl (SqL.of mF), _, _, rfl, rfl, _, rfl, ?_⟩
          rw [List.length_map]
          refine ite2 (fun c => ?_) (fun c => ?_)
          · have c : (0 : Int) < ((msOf (allCuts D hs) q).length : Int) := of_decide_eq_true c
            refine ⟨_, rfl, .inl ⟨rfl, _, SqL.of hmf3⟩, _, rfl, _, rfl, F, _, rfl, SqL.of mF, by omega, fun m hm1 hm2 => ?_⟩
            refine ⟨by show 2 ≤ sizeLine; decide, fun u hu => ?_⟩
            have eT := Ex.new (o := .tup [.str q, .int m]) hu
            have uf : u ≠ f := fun x => by rw [x, hmf3] at hu; cases hu
            refine ⟨f, _, _, rfl, rfl, eT _ _ hmf3, sz_lt (by omega), _, _, _, rfl, ((e2.trans e4).trans eT).mut hf, upd_same, by rw [List.length_append]; show _ + 1 ≤ _; omega, ?_⟩
            rw [del_upd, take_one hq, List.filterMap_append, show (List.filterMap (fun p => Option.map (fun m => (p, m)) (FP.minOf (allCuts D hs) p)) [q]) = [(q, m)] by rw [List.filterMap_cons, minOf_some hm1 hm2]; rfl, List.map_append]
            exact dps_app (dps_ex (ex_del (e4.trans eT)) da) (dps_one (.tup (st_of (del_at uf upd_same)) (.cons (.str _) (.cons (.int _) .nil))))
          · have c : ¬ ((0 : Int) < ((msOf (allCuts D hs) q).length : Int)) := fun z => c (decide_eq_true z)
            have em : msOf (allCuts D hs) q = [] := List.eq_nil_of_length_eq_zero (by omega)
            refine ⟨_, _, acc, rfl, e2.trans e4, hmf3, by omega, ?_⟩
            rw [take_one hq, List.filterMap_append, show (List.filterMap (fun p => Option.map (fun m => (p, m)) (FP.minOf (allCuts D hs) p)) [q]) = [] by rw [List.filterMap_cons, minOf_none em]; rfl, List.append_nil]
            exact dps_ex (ex_del e4) da
      · rintro σ H2 ⟨v5, v6, acc, rfl, e2, hmf, la, da⟩
        rw [lpl, List.take_length] at da
        exact ⟨_, rfl, k H2 f acc (e.trans e2) (fresh_back e hf) hmf (dps_ex del_ex da)⟩
end
end EV

set_option Elab.async false
set_option linter.all false
set_option maxRecDepth 100000
set_option maxHeartbeats 4000000
namespace EV
open PySem PySem.Spec PyProof.Rows L2 EvS Evl FD
theorem sh_nn {n : Nat} : Sh (n + 1) .none := ⟨by simp only [PyData.canLay0], by simp only [PyData.depth]; omega⟩
theorem sh_lit {n : Nat} {z : Str} (h : PyData.strOk z = true) : Sh (n + 1) (.str z) := ⟨by simp only [PyData.canLay0]; exact h, by simp only [PyData.depth]; omega⟩
theorem run_rows {D : LandD} {h : Hand} (ok : HandOk D h) : ∀ i, i ≤ h.ds.length → (∀ s ∈ (runTo D.pa h i).rows, s.n = h.n ∧ s.p ∈ D.ps) ∧ ∀ c ∈ (runTo D.pa h i).cuts, c.1 ∈ D.ps
  | 0, _ => ⟨(fun s hs => by cases hs), (fun c hc => by cases hc)⟩
  | i + 1, hi => by
    obtain ⟨a, b⟩ := run_rows ok i (by omega)
    have hin := here_in ok i (by omega)
    rw [runTo_more (List.getElem?_eq_getElem (show i < h.ds.length by omega))]
    cases h.ds[i] with
    | walk t =>
      refine ⟨fun s hs => ?_, b⟩
      have hs : s ∈ (runTo D.pa h i).rows ++ [⟨h.n, (runTo D.pa h i).here, (runTo D.pa h i).since, some (runTo D.pa h i).now⟩] := hs
      rcases List.mem_append.mp hs with hs | hs
      · exact a s hs
      · rw [List.mem_singleton.mp hs]
        exact ⟨rfl, hin⟩
    | cut m =>
      refine ⟨a, fun c hc => ?_⟩
      have hc : c ∈ (runTo D.pa h i).cuts ++ [((runTo D.pa h i).here, (runTo D.pa h i).now + m)] := hc
      rcases List.mem_append.mp hc with hc | hc
      · exact b c hc
      · rw [List.mem_singleton.mp hc]
        exact hin
    | wait m => exact ⟨a, b⟩
theorem sh_stay {D : LandD} (lok : LandOk D) {s : Stay} (h1 : isName s.n = true) (h2 : s.p ∈ D.ps) : Sh 3 (dStay s) := sh_tup (n := 2) fun d hd => by
  have : d = .str s.n ∨ d = .str s.p ∨ d = .int s.a ∨ d = dOptI s.b := by simpa using hd
  rcases this with rfl | rfl | rfl | rfl
  · exact sh_str h1
  · exact sh_str (lok.gp.1 _ h2)
  · exact sh_int _ 1
  · cases s.b with
    | none => exact sh_nn
    | some i => exact sh_int _ 1
theorem shp_rows {D : LandD} (lok : LandOk D) {hs : List Hand} (ok : HandsOk D hs) : SeqAt.shaped (.list ((allRows D hs).map dStay)) = true := sh_shaped (sh_lst (n := 3) fun d hd => by
  obtain ⟨s, hs', rfl⟩ := List.mem_map.mp hd
  obtain ⟨h, hh, hm⟩ := List.mem_flatMap.mp hs'
  have hok := ok.ok h hh
  have r := (run_rows hok h.ds.length (Nat.le_refl _)).1
  rcases List.mem_append.mp hm with hm | hm
  · obtain ⟨r1, r2⟩ := r s hm
    exact sh_stay lok (by rw [r1]; exact hok.n) r2
  · rw [List.mem_singleton.mp hm]
    exact sh_stay lok hok.n (here_in hok h.ds.length (Nat.le_refl _))) (by decide)
theorem shp_brk {D : LandD} (lok : LandOk D) (hs : List Hand) : SeqAt.shaped (.list ((brkOf D hs).map dPm)) = true := sh_shaped (sh_lst (n := 3) fun d hd => by
  obtain ⟨s, hs', rfl⟩ := List.mem_map.mp hd
  obtain ⟨q, hq, hm⟩ := List.mem_filterMap.mp hs'
  obtain ⟨m, _, rfl⟩ := Option.map_eq_some_iff.mp hm
  refine sh_tup (n := 2) fun d hd => ?_
  have : d = .str q ∨ d = .int m := by simpa using hd
  rcases this with rfl | rfl
  · exact sh_str (lok.gp.1 _ hq)
  · exact sh_int _ 1) (by decide)
theorem sh_deed {D : LandD} (lok : LandOk D) {h : Hand} (ok : HandOk D h) {d : Deed} (hd : d ∈ h.ds) : Sh 3 (dDeed d) := by
  cases d with
  | walk t =>
    refine sh_tup (n := 2) fun d hd' => ?_
    have : d = .str "walk" ∨ d = .str t := by simpa using hd'
    rcases this with rfl | rfl
    · exact sh_lit (by decide +kernel)
    · exact sh_str (lok.gp.1 _ (ok.to t hd))
  | cut m =>
    refine sh_tup (n := 2) fun d hd' => ?_
    have : d = .str "cut" ∨ d = .int m := by simpa using hd'
    rcases this with rfl | rfl
    · exact sh_lit (by decide +kernel)
    · exact sh_int _ 1
  | wait m =>
    refine sh_tup (n := 2) fun d hd' => ?_
    have : d = .str "wait" ∨ d = .int m := by simpa using hd'
    rcases this with rfl | rfl
    · exact sh_lit (by decide +kernel)
    · exact sh_int _ 1
theorem shp_hands {D : LandD} (lok : LandOk D) {hs : List Hand} (ok : HandsOk D hs) : SeqAt.shaped (.list (hs.map dHand)) = true := sh_shaped (sh_lst (n := 5) fun d hd => by
  obtain ⟨h, hh, rfl⟩ := List.mem_map.mp hd
  have hok := ok.ok h hh
  refine sh_tup (n := 4) fun d hd => ?_
  have : d = .str h.n ∨ d = .str h.s ∨ d = .list (h.ds.map dDeed) := by simpa using hd
  rcases this with rfl | rfl | rfl
  · exact sh_str hok.n
  · exact sh_str (lok.gp.1 _ hok.s)
  · refine sh_lst (n := 3) fun x hx => ?_
    obtain ⟨e, he, rfl⟩ := List.mem_map.mp hx
    exact sh_deed lok hok he) (by decide)
def spLaw (K : PySem.W.Frag) : Sp := fun vs H Q _ => ∃ (p : Addr) (ns : List Int), vs = [.ref p] ∧ SqL K H p (ns.map V.int) ∧ ∀ H', Q (.bl true) H'
section
variable {P : Program} {w : World} {K : PySem.W.Frag} {mg : Str → Option Value} {base : Heap} {a : Ad}
theorem G_law (T : Txt K mg a) : FnOk P w K mg base CX0 7 a.f_law a.d_law ["script"] (spLaw K) := by
  refine T.F_law.ok sc_law (fun vs H Q E h => ?_) (fun cdv A outer s H vs Q E hr h => ?_)
  · obtain ⟨p, ns, rfl, _⟩ := h
    rfl
  · obtain ⟨sc, ns, rfl, hS, k⟩ := h
    refine ⟨_, (pss_cons (ps_set (i := 1) sc_law.nd rfl (Or.inl rfl) (pe_call (G__law_numbers T) (hr.mono (by decide)) (by rfl) T.g__law_numbers T.k__law_numbers T.B__law_numbers .nil pass0 (pa_cons (pv 0) (pa_cons pe_int pa_nil))))
      (pss_cons (ps_set (i := 2) sc_law.nd rfl (Or.inl rfl) (pe_call (G__law_parts T) (hr.mono (by decide)) (by rfl) T.g__law_parts T.k__law_parts T.B__law_parts .nil pass0 (pa_cons (pv 1) (pa_cons pe_int pa_nil))))
      (pss_cons (ps_set (i := 3) sc_law.nd rfl (Or.inl rfl) (pe_call (G__law_hands T) (hr.mono (by decide)) (by rfl) T.g__law_hands T.k__law_hands T.B__law_hands .nil pass0 (pa_cons (pv 1) (pa_cons pe_int (pa_cons (pv 2) pa_nil)))))
      (pss_cons (ps_set (i := 4) sc_law.nd rfl (Or.inl rfl) (pe_call (G__law_make T) (hr.mono (by decide)) (by rfl) T.g__law_make T.k__law_make T.B__law_make .nil pass0 (pa_cons (pv 2) pa_nil)))
      (pss_cons (ps_setLc (i := 5) (own := [("hand", 8)]) (g := gName 8) (tt := tYes) rfl sc_law.nd rfl rfl (sw_true rfl rfl rfl (by decide +kernel)) (pi_list (pv 3)) (blkOk_by (N := ["script", "numbers", "parts", "hands", "land", "passed", "rows", "end", "hand", "course", "told"]) (sc := defScope s_law) (by decide +kernel)) (fun _ _ _ _ _ => pg_name (i := 8) sc_law.nd rfl (Or.inl rfl)) (fun _ _ _ _ _ => pts_nil) (fun _ _ _ _ _ => (pe_tup (pa_cons (pe_ix (show IxR _ (rIxT K) from ix_tup) (pv 8) pe_int (fun _ _ => rfl)) (pa_cons (pe_ix (show IxR _ (rIxT K) from ix_tup) (pv 8) pe_int (fun _ _ => rfl)) (pa_cons (pe_callTy (show CallR _ _ (rLstK K) from call_lstK) (by rfl) T.z_list (by decide +kernel) (pa_cons (pe_ix (show IxR _ (rIxT K) from ix_tup) (pv 8) pe_int (fun _ _ => rfl)) pa_nil)) pa_nil))))))
      (pss_cons (ps_set (i := 6) sc_law.nd rfl (Or.inl rfl) (pe_lst pa_nil))
      (pss_cons (ps_set (i := 7) sc_law.nd rfl (Or.inl rfl) pe_int)
      (pss_cons (ps_for PassesOwn.never rfl (pi_list (pv 3)) (pg_name (i := 8) sc_law.nd rfl (Or.inl rfl)) (pss_cons (ps_set (i := 9) sc_law.nd rfl (Or.inl rfl) (pe_call (G__law_course T) (hr.mono (by decide)) (by rfl) T.g__law_course T.k__law_course T.B__law_course .nil pass0 (pa_cons (pv 2) (pa_cons (pv 8) pa_nil))))
        (pss_cons (ps_set (i := 6) sc_law.nd rfl (Or.inl rfl) (pe_op op_cat (pv 6) (pe_ix ix_tup (pv 9) pe_int (fun _ _ => rfl))))
        (pss_one (ps_set (i := 7) sc_law.nd rfl (Or.inl rfl) (pe_callB (call_max2 rfl) (by rfl) T.z_max (by decide +kernel) (pa_cons (pv 7) (pa_cons (pe_ix ix_tup (pv 9) pe_int (fun _ _ => rfl)) pa_nil))))))))
      (pss_cons (ps_set (i := 10) sc_law.nd rfl (Or.inl rfl) (pe_call (G_stays T) (hr.mono (by decide)) (by rfl) T.g_stays T.k_stays T.B_stays .nil pass0 (pa_cons (pv 4) (pa_cons (pv 5) pa_nil))))
      (pss_cons (ps_if (PW.pt (pw_or (pt_not (pt_val (pe_callB call_isi (by rfl) T.z_isinstance (by decide +kernel) (pa_cons (pv 10) (pa_cons (pe_bltn (v := .ty "list") (u := .type "list") (by rfl) T.z_list (by decide +kernel) rfl) pa_nil))))) (pw_or (pt_cmpR (op_neD hr.units) (pv 10) (pv 6) (nomark _)) (pw_or1 (pt_cmpR (op_neD hr.units) (pv 5) (pv 3) (nomark _)))))) (pss_one (ps_ret pe_bl)) pss_nil)
      (pss_cons (ps_expr (pe_bm PySem.F.plainAttrs_list PySem.F.slot_list_append PySem.F.type_list_append mt_append (pv 10) (pa_cons pe_int pa_nil)))
      (pss_cons (ps_if (PW.pt (pw_or (pt_cmpR (op_neD hr.units) (pe_call (G_breaks_of T) (hr.mono (by decide)) (by rfl) T.g_breaks_of T.k_breaks_of T.B_breaks_of .nil pass0 (pa_cons (pv 4) (pa_cons (pv 5) pa_nil))) (pe_call (G__law_cut T) (hr.mono (by decide)) (by rfl) T.g__law_cut T.k__law_cut T.B__law_cut .nil pass0 (pa_cons (pv 2) (pa_cons (pv 3) pa_nil))) (nomark _)) (pw_or1 (pt_cmpR op_ne (pe_call (G_end_of T) (hr.mono (by decide)) (by rfl) T.g_end_of T.k_end_of T.B_end_of .nil pass0 (pa_cons (pv 4) (pa_cons (pv 5) pa_nil))) (pv 7) (nomark _))))) (pss_one (ps_ret pe_bl)) pss_nil)
      (pss_one (ps_ret (pe_and (pe_cmpR (op_eqD hr.units) (pe_call (G_stays T) (hr.mono (by decide)) (by rfl) T.g_stays T.k_stays T.B_stays .nil pass0 (pa_cons (pv 4) (pa_cons (pv 5) pa_nil))) (pv 6) (nomark _)) (pe_one (pe_cmpR (op_eqD hr.units) (pv 5) (pv 3) (nomark _)))))))))))))))))), ?_⟩
    refine ⟨_, rfl, sc, ns, 200, rfl, hS, by decide, by decide, fun H1 q ks e1 _ hq lq sm => ?_⟩
    have N : Nums K H1 q ks := ⟨SqL.of hq, sm, by omega, by omega⟩
    refine ⟨_, rfl, q, ks, rfl, N, fun H2 p D wi pl li pa rows prs e2 _ _ S lok sml => ?_⟩
    have N2 := N.ex e2
    refine ⟨_, rfl, _, rfl, q, p, ks, D, wi, pl, li, pa, rows, prs, rfl, N2, S, lok, sml, fun H3 o us hs e3 _ ho dh hok l3 => ?_⟩
    have S3 := S.ex e3
    have HI3 : HandsIn K H3 o us hs := ⟨SqL.of ho, dh⟩
    have lu := HI3.len
    refine ⟨_, rfl, p, D, wi, pl, li, pa, rows, prs, rfl, S3, lok, fun H4 l e4 _ IL => ?_⟩
    have S4 := S3.ex e4
    have HI4 := HI3.ex e4
    -- passed
    refine ⟨_, rfl, o, rfl, ⟨_, HI4.at_⟩, fun B hB => lcY_list (K := K) (a := o) (xs := us) (fun i H' => Ex H4 H' ∧ ∃ acc, H' B = some (.lst acc) ∧ acc.length = i ∧ DpAll K (del H' B) acc ((hs.take i).map dHand)) ⟨Ex.new hB, [], upd_same, rfl, .nil⟩ (fun i H' _ z => ex_l z.1 HI4.at_) (fun i y H' hy z => ?_) (fun H5 z => ?_)⟩
    · obtain ⟨e, acc, ha, la, da⟩ := z
      obtain ⟨h, hh, hm, dp⟩ := pickE (dps_ex e HI4.ds) hy
      obtain ⟨t, u, vs, rfl, hT, hU, dd⟩ := hand_in dp
      have hi := (List.getElem?_eq_some_iff.mp hh).1
      refine ⟨rfl, _, rfl, t, _, _, _, rfl, rfl, hT, atI_nat (j := 0) rfl, _, rfl, t, _, _, _, rfl, rfl, hT, atI_nat (j := 1) rfl, _, rfl, t, _, _, _, rfl, rfl, hT, atI_nat (j := 2) rfl, u, _, rfl, .inl hU, fun n hn => ?_⟩
      have e5 := Ex.new (o := .lst vs) hn
      have nB : n ≠ B := fun z => by rw [z, ha] at hn; cases hn
      have mn : (upd H' n (.lst vs)) n = some (.lst vs) := upd_same
      generalize upd H' n (.lst vs) = H6 at e5 mn
      refine ⟨by show 3 ≤ sizeLine; decide, fun x hx => ?_⟩
      have e6 := Ex.new (o := .tup [.str h.n, .str h.s, .ref n]) hx
      have xB : x ≠ B := fun z => by rw [z, e5 _ _ ha] at hx; cases hx
      have mx : (upd H6 x (.tup [.str h.n, .str h.s, .ref n])) x = some (.tup [.str h.n, .str h.s, .ref n]) := upd_same
      generalize upd H6 x (.tup [.str h.n, .str h.s, .ref n]) = H7 at e6 mx
      have e57 := e5.trans e6
      refine ⟨acc, e57 _ _ ha, sz_lt (by omega), (e.trans e57).mut hB, acc ++ [.ref x], upd_same, by rw [List.length_append, la]; rfl, ?_⟩
      rw [del_upd, take_one hh, List.map_append]
      refine dps_app (dps_ex (ex_del e57) da) (dps_one (.tup (st_of (del_at xB mx)) (.cons (.str _) (.cons (.str _) (.cons (.lst (SqL.of (del_at nB (e6 _ _ mn))) ?_) .nil)))))
      exact dps_exT ((exT_of e57).trans (exT_delL (e57 _ _ ha))) dd (frozen_deeds _)
    obtain ⟨e5, acc, ha, la, da⟩ := z
    rw [lu, List.take_length] at da
    have HB : HandsIn K H5 B acc hs := ⟨SqL.of ha, dps_ex del_ex da⟩
    refine ⟨Nat.zero_le _, fun r0 hr0 => ?_⟩
    have e6 := Ex.new (o := .lst []) hr0
    have e46 := e5.trans e6
    refine ⟨_, rfl, o, rfl, ⟨_, ex_l e46 HI4.at_⟩, for_list (K := K) (a := o) (xs := us) (fun i σ H' => ∃ (v8 v9 : Option V) (rr : Addr) (rs : List V), σ = [some (.ref sc), some (.ref q), some (.ref p), some (.ref o), some (.ref l), some (.ref B), some (.ref rr), some (.int (endOf D (hs.take i))), v8, v9, none] ∧ Ex H5 H' ∧ H' rr = some (.lst rs) ∧ DpAll K H' rs ((allRows D (hs.take i)).map dStay)) ⟨none, none, r0, [], rfl, e6, upd_same, .nil⟩ (fun i σ H' _ z => by obtain ⟨_, _, _, _, rfl, e, _⟩ := z; exact ex_l (e5.trans e) HI4.at_) ?_ ?_⟩
    · rintro i y σ H7 hy ⟨v8, v9, rr, rs, rfl, e7, hrr, drs⟩
      have e47 := e5.trans e7
      obtain ⟨h, hh, hm, dp⟩ := pickE (dps_ex e47 HI4.ds) hy
      have hi := (List.getElem?_eq_some_iff.mp hh).1
      refine ⟨_, rfl, _, rfl, p, y, h, D, wi, pl, li, pa, rows, prs, rfl, S4.ex e47, lok, dp, hok.ok h hm, fun H8 t r c e8 ht _ _ TL => ?_⟩
      obtain ⟨us2, hc, dc⟩ := TL.hs
      refine ⟨_, rfl, _, rfl, t, _, _, _, rfl, rfl, ht, atI_nat (j := 0) rfl, ?_⟩
      have rl := rows_len (D := D) (hs := hs.take i) fun z hz => hok.ok z (List.mem_of_mem_take hz)
      have l1 := run_len D.pa h h.ds.length
      have l1 : (run D.pa h).rows.length ≤ h.ds.length ∧ (run D.pa h).cuts.length ≤ h.ds.length := l1
      have l30 := (hok.ok h hm).len
      rw [List.length_take] at rl
      have a1 : rs.length ≤ 155 := by rw [dps_len drs, List.length_map]; omega
      have a2 : us2.length ≤ 31 := by rw [dps_len dc, List.length_map]; unfold rowsOf; rw [List.length_append]; show _ + 1 ≤ _; omega
      refine ⟨rr, r, _, _, rfl, rfl, e8 _ _ hrr, hc, sz_of (by omega), fun n hn => ?_⟩
      have e9 := Ex.new (o := .lst (rs ++ us2)) hn
      have mn : (upd H8 n (.lst (rs ++ us2))) n = some (.lst (rs ++ us2)) := upd_same
      generalize upd H8 n (.lst (rs ++ us2)) = H9 at e9 mn
      refine ⟨_, rfl, _, rfl, t, _, _, _, rfl, rfl, ex_t e9 ht, atI_nat (j := 2) rfl, _, _, rfl, ?_⟩
      refine ⟨some y, some (.ref t), n, rs ++ us2, ?_, (e7.trans e8).trans e9, mn, ?_⟩
      · rw [take_one hh, endOf_more]
        rfl
      · rw [take_one hh, allRows_more, List.map_append]
        exact dps_app (dps_ex (e8.trans e9) drs) (dps_ex e9 dc)
    · rintro σ H7 ⟨v8, v9, rr, rs, rfl, e7, hrr, drs⟩
      rw [lu, List.take_length] at drs ⊢
      have e47 := e5.trans e7
      have IL7 := IsLand.ex e47 IL
      have HB7 := HB.ex e7
      have HO7 := HI4.ex e47
      have shr := shp_rows lok hok
      have shh := shp_hands lok hok
      have shb := shp_brk lok hs
      refine ⟨_, rfl, _, rfl, l, B, acc, hs, D, rfl, IL7, lok, HB7, hok, fun H8 s8 ws8 e8 s80 hs8 ds8 => ?_⟩
      have dR : ∀ {H' : Hp}, Ex H7 H' → Dp K H' (.ref rr) (.list ((allRows D hs).map dStay)) := fun e => .lst (SqL.of (e _ _ hrr)) (dps_ex e drs)
      have dB : ∀ {H' : Hp}, Ex H7 H' → Dp K H' (.ref B) (.list (hs.map dHand)) := fun e => .lst (HB7.ex e).at_ (HB7.ex e).ds
      have dO : ∀ {H' : Hp}, Ex H7 H' → Dp K H' (.ref o) (.list (hs.map dHand)) := fun e => .lst (HO7.ex e).at_ (HO7.ex e).ds
      refine ⟨_, rfl, .ref s8, .ty "list", _, _, true, rfl, .ty "list", .base (.lst hs8), kit_ty (by decide +kernel), _, rfl, iteF ?_⟩
      refine ⟨_, rfl, _, rfl, _, _, .lst (SqL.of hs8) ds8, dR e8, shr, shr, ?_⟩
      rw [eqv_self shr]
      refine ⟨_, rfl, iteF ?_⟩
      refine ⟨_, rfl, _, rfl, _, _, dB e8, dO e8, shh, shh, ?_⟩
      rw [eqv_self shh]
      refine ⟨_, rfl, iteF ?_⟩
      have ls8 : ws8.length ≤ 200 := by
        have rl := rows_len (D := D) (hs := hs) hok.ok
        rw [dps_len ds8, List.length_map]
        have := hok.l5
        omega
      refine ⟨_, rfl, .inl ⟨rfl, _, SqL.of hs8⟩, s8, _, _, rfl, rfl, hs8, sz_lt (by omega), ?_⟩
      have e9 : Ex H7 (upd H8 s8 (.lst (ws8 ++ [.int 0]))) := e8.mut s80
      generalize upd H8 s8 (.lst (ws8 ++ [.int 0])) = H9 at e9
      refine ⟨_, rfl, _, rfl, l, B, acc, hs, D, rfl, IsLand.ex e9 IL7, lok, HB7.ex e9, hok, fun H10 o1 ws1 e10 _ ho1 dw1 => ?_⟩
      have e710 := e9.trans e10
      refine ⟨_, rfl, _, rfl, p, o, us, hs, D, wi, pl, li, pa, rows, prs, rfl, S4.ex (e47.trans e710), lok, HO7.ex e710, hok, fun H11 o2 ws2 e11 _ ho2 dw2 => ?_⟩
      refine ⟨_, _, .lst (SqL.of (e11 _ _ ho1)) (dps_ex e11 dw1), .lst (SqL.of ho2) dw2, shb, shb, ?_⟩
      rw [eqv_self shb]
      refine ⟨_, rfl, iteF ?_⟩
      have e711 := e710.trans e11
      refine ⟨_, rfl, _, rfl, l, B, acc, hs, D, rfl, IsLand.ex e711 IL7, lok, HB7.ex e711, hok, fun H12 e12 => ?_⟩
      have e712 := e711.trans e12
      refine ⟨_, rfl, rfl, _, rfl, ?_⟩
      rw [decide_eq_true (rfl : V.int (endOf D hs) = V.int (endOf D hs))]
      refine iteF ?_
      refine ⟨_, rfl, _, rfl, l, B, acc, hs, D, rfl, IsLand.ex e712 IL7, lok, HB7.ex e712, hok, fun H13 s9 ws9 e13 _ hs9 ds9 => ?_⟩
      have e713 := e712.trans e13
      refine ⟨_, rfl, _, _, .lst (SqL.of hs9) ds9, dR e713, shr, shr, ?_⟩
      rw [eqv_self shr]
      refine ⟨_, rfl, _, rfl, _, rfl, _, _, dB e713, dO e713, shh, shh, ?_⟩
      rw [eqv_self shh]
      exact k _
end
end EV

set_option Elab.async false
set_option linter.all false
set_option maxRecDepth 100000
set_option maxHeartbeats 4000000
namespace EV
open PySem PySem.Spec PyProof.Rows L2 EvS Evl
theorem all_mk {l : PySem.W.OpenLaw} {w : World} {K : PySem.W.Frag} {h : Heap} {mg : Str → Option Value} {fa C tl te pr D C_Course f_least_minutes f_is_name f__check_count f_check_names_lands f__check_ends f__as_bounds f__as_link f__as_path f__check_single_paths f__is_between f_init f_link_names f_check_place f_minutes_between f_Course_init f_Course_follow f_Course_breaks_in f_stays f_breaks_of f_end_of f__course_of f_check_names_hands f__check_places f__check_deeds f__is_deed f__law_row f__law_numbers f__law_names f__law_parts f__law_make f__law_walks f__law_hands f__law_course f__law_cut f_law : Addr} (X : K.In h) (G : h.Ns mainGlobals mg) (hfa : mg "law" = some (.ref fa))
    {od_least_minutes an_least_minutes od_is_name an_is_name od__check_count an__check_count od_check_names_lands an_check_names_lands od__check_ends an__check_ends od__as_bounds an__as_bounds od__as_link an__as_link od__as_path an__as_path od__check_single_paths an__check_single_paths od__is_between an__is_between od_init an_init od_link_names an_link_names od_check_place an_check_place od_minutes_between an_minutes_between od_Course_init an_Course_init od_Course_follow an_Course_follow od_Course_breaks_in an_Course_breaks_in od_stays an_stays od_breaks_of an_breaks_of od_end_of an_end_of od__course_of an__course_of od_check_names_hands an_check_names_hands od__check_places an__check_places od__check_deeds an__check_deeds od__is_deed an__is_deed od__law_row an__law_row od__law_numbers an__law_numbers od__law_names an__law_names od__law_parts an__law_parts od__law_make an__law_make od__law_walks an__law_walks od__law_hands an__law_hands od__law_course an__law_course od__law_cut an__law_cut od_law an_law dd_tl dd_te : Option Addr} {sl_least_minutes sl_is_name sl__check_count sl_check_names_lands sl__check_ends sl__as_bounds sl__as_link sl__as_path sl__check_single_paths sl__is_between sl_init sl_link_names sl_check_place sl_minutes_between sl_Course_init sl_Course_follow sl_Course_breaks_in sl_stays sl_breaks_of sl_end_of sl__course_of sl_check_names_hands sl__check_places sl__check_deeds sl__is_deed sl__law_row sl__law_numbers sl__law_names sl__law_parts sl__law_make sl__law_walks sl__law_hands sl__law_course sl__law_cut sl_law sl_tl sl_te : Array (Option Value)} {oc_least_minutes kV_least_minutes dc_least_minutes pm_least_minutes cd_least_minutes ct_least_minutes oc_is_name kV_is_name dc_is_name pm_is_name cd_is_name ct_is_name oc__check_count kV__check_count dc__check_count pm__check_count cd__check_count ct__check_count oc_check_names_lands kV_check_names_lands dc_check_names_lands pm_check_names_lands cd_check_names_lands ct_check_names_lands oc__check_ends kV__check_ends dc__check_ends pm__check_ends cd__check_ends ct__check_ends oc__as_bounds kV__as_bounds dc__as_bounds pm__as_bounds cd__as_bounds ct__as_bounds oc__as_link kV__as_link dc__as_link pm__as_link cd__as_link ct__as_link oc__as_path kV__as_path dc__as_path pm__as_path cd__as_path ct__as_path oc__check_single_paths kV__check_single_paths dc__check_single_paths pm__check_single_paths cd__check_single_paths ct__check_single_paths oc__is_between kV__is_between dc__is_between pm__is_between cd__is_between ct__is_between oc_init dc_init pm_init cd_init ct_init oc_link_names kV_link_names dc_link_names pm_link_names cd_link_names ct_link_names oc_check_place kV_check_place dc_check_place pm_check_place cd_check_place ct_check_place oc_minutes_between kV_minutes_between dc_minutes_between pm_minutes_between cd_minutes_between ct_minutes_between oc_Course_init kV_Course_init dc_Course_init pm_Course_init cd_Course_init ct_Course_init oc_Course_follow kV_Course_follow dc_Course_follow pm_Course_follow cd_Course_follow ct_Course_follow oc_Course_breaks_in kV_Course_breaks_in dc_Course_breaks_in pm_Course_breaks_in cd_Course_breaks_in ct_Course_breaks_in oc_stays kV_stays dc_stays pm_stays cd_stays ct_stays oc_breaks_of kV_breaks_of dc_breaks_of pm_breaks_of cd_breaks_of ct_breaks_of oc_end_of kV_end_of dc_end_of pm_end_of cd_end_of ct_end_of oc__course_of kV__course_of dc__course_of pm__course_of cd__course_of ct__course_of oc_check_names_hands kV_check_names_hands dc_check_names_hands pm_check_names_hands cd_check_names_hands ct_check_names_hands oc__check_places kV__check_places dc__check_places pm__check_places cd__check_places ct__check_places oc__check_deeds kV__check_deeds dc__check_deeds pm__check_deeds cd__check_deeds ct__check_deeds oc__is_deed kV__is_deed dc__is_deed pm__is_deed cd__is_deed ct__is_deed oc__law_row kV__law_row dc__law_row pm__law_row cd__law_row ct__law_row oc__law_numbers kV__law_numbers dc__law_numbers pm__law_numbers cd__law_numbers ct__law_numbers oc__law_names kV__law_names dc__law_names pm__law_names cd__law_names ct__law_names oc__law_parts kV__law_parts dc__law_parts pm__law_parts cd__law_parts ct__law_parts oc__law_make kV__law_make dc__law_make pm__law_make cd__law_make ct__law_make oc__law_walks kV__law_walks dc__law_walks pm__law_walks cd__law_walks ct__law_walks oc__law_hands kV__law_hands dc__law_hands pm__law_hands cd__law_hands ct__law_hands oc__law_course kV__law_course dc__law_course pm__law_course cd__law_course ct__law_course oc__law_cut kV__law_cut dc__law_cut pm__law_cut cd__law_cut ct__law_cut oc_law kV_law dc_law pm_law cd_law ct_law : Value} {n_tl n_te : Nat} {rest_pr : List Value} {t_CUT t_DIGITS t_LETTERS t_LONGEST_NAME t_MOST_DEEDS t_MOST_HANDS t_MOST_LINKS t_MOST_MINUTES t_MOST_PATHS t_MOST_PLACES t_MOST_WINDS t_WAIT t_WALK : Tok} 
    (aC : PySem.W.nsIn K mainGlobals "Land" = some (some (.ref C)))
    (aC_Course : PySem.W.nsIn K mainGlobals "Course" = some (some (.ref C_Course)))
    (pg_C_Course : PySem.W.plainGet K C_Course Str.empty = true)
    (hd_C_Course : PySem.W.hasDictIn K C_Course = true)
    (po_C_Course : PySem.W.plainOver K C_Course = true)
    (sa_C_Course : PySem.W.findIn K (.ref C_Course) "__setattr__" = some (some (.builtin "object.__setattr__")))
    (mk_C_Course : PySem.W.makesIn K C_Course = true)
    (kc_C_Course : PySem.W.keepIn K (.ref C_Course) = true)
    (na_Course_stays : PySem.W.findIn K (.ref C_Course) "stays" = some none)
    (na_Course_cuts : PySem.W.findIn K (.ref C_Course) "cuts" = some none)
    (na_Course_end : PySem.W.findIn K (.ref C_Course) "end" = some none)
    (a_least_minutes : PySem.W.nsIn K mainGlobals "least_minutes" = some (some (.ref f_least_minutes)))
    (l_least_minutes : K.lookup f_least_minutes = some ⟨oc_least_minutes, od_least_minutes, .func (PySem.W.fnOf "least_minutes" "least_minutes" (defArgs s_least_minutes) (defBody s_least_minutes) (defScope s_least_minutes) .none kV_least_minutes dc_least_minutes pm_least_minutes an_least_minutes cd_least_minutes ct_least_minutes), sl_least_minutes⟩)
    (c_least_minutes : PySem.W.codeIn K cd_least_minutes "least_minutes" = true)
    (k_least_minutes : PySem.W.keepIn K (.ref f_least_minutes) = true)
    (a_is_name : PySem.W.nsIn K mainGlobals "is_name" = some (some (.ref f_is_name)))
    (l_is_name : K.lookup f_is_name = some ⟨oc_is_name, od_is_name, .func (PySem.W.fnOf "is_name" "is_name" (defArgs s_is_name) (defBody s_is_name) (defScope s_is_name) .none kV_is_name dc_is_name pm_is_name an_is_name cd_is_name ct_is_name), sl_is_name⟩)
    (c_is_name : PySem.W.codeIn K cd_is_name "is_name" = true)
    (k_is_name : PySem.W.keepIn K (.ref f_is_name) = true)
    (a__check_count : PySem.W.nsIn K mainGlobals "_check_count" = some (some (.ref f__check_count)))
    (l__check_count : K.lookup f__check_count = some ⟨oc__check_count, od__check_count, .func (PySem.W.fnOf "_check_count" "_check_count" (defArgs s__check_count) (defBody s__check_count) (defScope s__check_count) .none kV__check_count dc__check_count pm__check_count an__check_count cd__check_count ct__check_count), sl__check_count⟩)
    (c__check_count : PySem.W.codeIn K cd__check_count "_check_count" = true)
    (k__check_count : PySem.W.keepIn K (.ref f__check_count) = true)
    (a_check_names_lands : PySem.W.nsIn K mainGlobals "check_names_lands" = some (some (.ref f_check_names_lands)))
    (l_check_names_lands : K.lookup f_check_names_lands = some ⟨oc_check_names_lands, od_check_names_lands, .func (PySem.W.fnOf "_check_names" "_check_names" (defArgs s_check_names_lands) (defBody s_check_names_lands) (defScope s_check_names_lands) .none kV_check_names_lands dc_check_names_lands pm_check_names_lands an_check_names_lands cd_check_names_lands ct_check_names_lands), sl_check_names_lands⟩)
    (c_check_names_lands : PySem.W.codeIn K cd_check_names_lands "_check_names" = true)
    (k_check_names_lands : PySem.W.keepIn K (.ref f_check_names_lands) = true)
    (a__check_ends : PySem.W.nsIn K mainGlobals "_check_ends" = some (some (.ref f__check_ends)))
    (l__check_ends : K.lookup f__check_ends = some ⟨oc__check_ends, od__check_ends, .func (PySem.W.fnOf "_check_ends" "_check_ends" (defArgs s__check_ends) (defBody s__check_ends) (defScope s__check_ends) .none kV__check_ends dc__check_ends pm__check_ends an__check_ends cd__check_ends ct__check_ends), sl__check_ends⟩)
    (c__check_ends : PySem.W.codeIn K cd__check_ends "_check_ends" = true)
    (k__check_ends : PySem.W.keepIn K (.ref f__check_ends) = true)
    (a__as_bounds : PySem.W.nsIn K mainGlobals "_as_bounds" = some (some (.ref f__as_bounds)))
    (l__as_bounds : K.lookup f__as_bounds = some ⟨oc__as_bounds, od__as_bounds, .func (PySem.W.fnOf "_as_bounds" "_as_bounds" (defArgs s__as_bounds) (defBody s__as_bounds) (defScope s__as_bounds) .none kV__as_bounds dc__as_bounds pm__as_bounds an__as_bounds cd__as_bounds ct__as_bounds), sl__as_bounds⟩)
    (c__as_bounds : PySem.W.codeIn K cd__as_bounds "_as_bounds" = true)
    (k__as_bounds : PySem.W.keepIn K (.ref f__as_bounds) = true)
    (a__as_link : PySem.W.nsIn K mainGlobals "_as_link" = some (some (.ref f__as_link)))
    (l__as_link : K.lookup f__as_link = some ⟨oc__as_link, od__as_link, .func (PySem.W.fnOf "_as_link" "_as_link" (defArgs s__as_link) (defBody s__as_link) (defScope s__as_link) .none kV__as_link dc__as_link pm__as_link an__as_link cd__as_link ct__as_link), sl__as_link⟩)
    (c__as_link : PySem.W.codeIn K cd__as_link "_as_link" = true)
    (k__as_link : PySem.W.keepIn K (.ref f__as_link) = true)
    (a__as_path : PySem.W.nsIn K mainGlobals "_as_path" = some (some (.ref f__as_path)))
    (l__as_path : K.lookup f__as_path = some ⟨oc__as_path, od__as_path, .func (PySem.W.fnOf "_as_path" "_as_path" (defArgs s__as_path) (defBody s__as_path) (defScope s__as_path) .none kV__as_path dc__as_path pm__as_path an__as_path cd__as_path ct__as_path), sl__as_path⟩)
    (c__as_path : PySem.W.codeIn K cd__as_path "_as_path" = true)
    (k__as_path : PySem.W.keepIn K (.ref f__as_path) = true)
    (a__check_single_paths : PySem.W.nsIn K mainGlobals "_check_single_paths" = some (some (.ref f__check_single_paths)))
    (l__check_single_paths : K.lookup f__check_single_paths = some ⟨oc__check_single_paths, od__check_single_paths, .func (PySem.W.fnOf "_check_single_paths" "_check_single_paths" (defArgs s__check_single_paths) (defBody s__check_single_paths) (defScope s__check_single_paths) .none kV__check_single_paths dc__check_single_paths pm__check_single_paths an__check_single_paths cd__check_single_paths ct__check_single_paths), sl__check_single_paths⟩)
    (c__check_single_paths : PySem.W.codeIn K cd__check_single_paths "_check_single_paths" = true)
    (k__check_single_paths : PySem.W.keepIn K (.ref f__check_single_paths) = true)
    (a__is_between : PySem.W.nsIn K mainGlobals "_is_between" = some (some (.ref f__is_between)))
    (l__is_between : K.lookup f__is_between = some ⟨oc__is_between, od__is_between, .func (PySem.W.fnOf "_is_between" "_is_between" (defArgs s__is_between) (defBody s__is_between) (defScope s__is_between) .none kV__is_between dc__is_between pm__is_between an__is_between cd__is_between ct__is_between), sl__is_between⟩)
    (c__is_between : PySem.W.codeIn K cd__is_between "_is_between" = true)
    (k__is_between : PySem.W.keepIn K (.ref f__is_between) = true)
    (a_init : PySem.W.findIn K (.ref C) "__init__" = some (some (.ref f_init)))
    (i_init : PySem.W.isFn K (.ref f_init) = true)
    (l_init : K.lookup f_init = some ⟨oc_init, od_init, .func (PySem.W.fnOf "__init__" "Land.__init__" (defArgs s_init) (defBody s_init) (defScope s_init) .none (.ref D) dc_init pm_init an_init cd_init ct_init), sl_init⟩)
    (c_init : PySem.W.codeIn K cd_init "Land.__init__" = true)
    (k_init : PySem.W.keepIn K (.ref f_init) = true)
    (tl1 : PySem.W.nsIn K D "links" = some (some (.ref tl)))
    (te1 : PySem.W.nsIn K D "paths" = some (some (.ref te)))
    (tl2 : K.lookup tl = some ⟨.type "tuple", dd_tl, .seq #[] n_tl, sl_tl⟩)
    (te2 : K.lookup te = some ⟨.type "tuple", dd_te, .seq #[] n_te, sl_te⟩)
    (pr1 : PySem.W.findIn K (.ref C) "link_names" = some (some (.ref pr)))
    (pr2 : PySem.W.specialIn K (.ref pr) "__get__" = some (some (.builtin "property.__get__")))
    (pr3 : PySem.W.takesIn K (.ref pr) = some true)
    (pr4 : PySem.W.recIn K pr "property" = some (.ref f_link_names :: rest_pr))
    (l_link_names : K.lookup f_link_names = some ⟨oc_link_names, od_link_names, .func (PySem.W.fnOf "link_names" "Land.link_names" (defArgs s_link_names) (defBody s_link_names) (defScope s_link_names) .none kV_link_names dc_link_names pm_link_names an_link_names cd_link_names ct_link_names), sl_link_names⟩)
    (c_link_names : PySem.W.codeIn K cd_link_names "Land.link_names" = true)
    (k_link_names : PySem.W.keepIn K (.ref f_link_names) = true)
    (a_check_place : PySem.W.findIn K (.ref C) "check_place" = some (some (.ref f_check_place)))
    (i_check_place : PySem.W.isFn K (.ref f_check_place) = true)
    (l_check_place : K.lookup f_check_place = some ⟨oc_check_place, od_check_place, .func (PySem.W.fnOf "check_place" "Land.check_place" (defArgs s_check_place) (defBody s_check_place) (defScope s_check_place) .none kV_check_place dc_check_place pm_check_place an_check_place cd_check_place ct_check_place), sl_check_place⟩)
    (c_check_place : PySem.W.codeIn K cd_check_place "Land.check_place" = true)
    (k_check_place : PySem.W.keepIn K (.ref f_check_place) = true)
    (a_minutes_between : PySem.W.findIn K (.ref C) "minutes_between" = some (some (.ref f_minutes_between)))
    (i_minutes_between : PySem.W.isFn K (.ref f_minutes_between) = true)
    (l_minutes_between : K.lookup f_minutes_between = some ⟨oc_minutes_between, od_minutes_between, .func (PySem.W.fnOf "minutes_between" "Land.minutes_between" (defArgs s_minutes_between) (defBody s_minutes_between) (defScope s_minutes_between) .none kV_minutes_between dc_minutes_between pm_minutes_between an_minutes_between cd_minutes_between ct_minutes_between), sl_minutes_between⟩)
    (c_minutes_between : PySem.W.codeIn K cd_minutes_between "Land.minutes_between" = true)
    (k_minutes_between : PySem.W.keepIn K (.ref f_minutes_between) = true)
    (a_Course_init : PySem.W.findIn K (.ref C_Course) "__init__" = some (some (.ref f_Course_init)))
    (i_Course_init : PySem.W.isFn K (.ref f_Course_init) = true)
    (l_Course_init : K.lookup f_Course_init = some ⟨oc_Course_init, od_Course_init, .func (PySem.W.fnOf "__init__" "Course.__init__" (defArgs s_Course_init) (defBody s_Course_init) (defScope s_Course_init) .none kV_Course_init dc_Course_init pm_Course_init an_Course_init cd_Course_init ct_Course_init), sl_Course_init⟩)
    (c_Course_init : PySem.W.codeIn K cd_Course_init "Course.__init__" = true)
    (k_Course_init : PySem.W.keepIn K (.ref f_Course_init) = true)
    (a_Course_follow : PySem.W.findIn K (.ref C_Course) "follow" = some (some (.ref f_Course_follow)))
    (i_Course_follow : PySem.W.isFn K (.ref f_Course_follow) = true)
    (l_Course_follow : K.lookup f_Course_follow = some ⟨oc_Course_follow, od_Course_follow, .func (PySem.W.fnOf "follow" "Course.follow" (defArgs s_Course_follow) (defBody s_Course_follow) (defScope s_Course_follow) .none kV_Course_follow dc_Course_follow pm_Course_follow an_Course_follow cd_Course_follow ct_Course_follow), sl_Course_follow⟩)
    (c_Course_follow : PySem.W.codeIn K cd_Course_follow "Course.follow" = true)
    (k_Course_follow : PySem.W.keepIn K (.ref f_Course_follow) = true)
    (a_Course_breaks_in : PySem.W.findIn K (.ref C_Course) "breaks_in" = some (some (.ref f_Course_breaks_in)))
    (i_Course_breaks_in : PySem.W.isFn K (.ref f_Course_breaks_in) = true)
    (l_Course_breaks_in : K.lookup f_Course_breaks_in = some ⟨oc_Course_breaks_in, od_Course_breaks_in, .func (PySem.W.fnOf "breaks_in" "Course.breaks_in" (defArgs s_Course_breaks_in) (defBody s_Course_breaks_in) (defScope s_Course_breaks_in) .none kV_Course_breaks_in dc_Course_breaks_in pm_Course_breaks_in an_Course_breaks_in cd_Course_breaks_in ct_Course_breaks_in), sl_Course_breaks_in⟩)
    (c_Course_breaks_in : PySem.W.codeIn K cd_Course_breaks_in "Course.breaks_in" = true)
    (k_Course_breaks_in : PySem.W.keepIn K (.ref f_Course_breaks_in) = true)
    (a_stays : PySem.W.nsIn K mainGlobals "stays" = some (some (.ref f_stays)))
    (l_stays : K.lookup f_stays = some ⟨oc_stays, od_stays, .func (PySem.W.fnOf "stays" "stays" (defArgs s_stays) (defBody s_stays) (defScope s_stays) .none kV_stays dc_stays pm_stays an_stays cd_stays ct_stays), sl_stays⟩)
    (c_stays : PySem.W.codeIn K cd_stays "stays" = true)
    (k_stays : PySem.W.keepIn K (.ref f_stays) = true)
    (a_breaks_of : PySem.W.nsIn K mainGlobals "breaks_of" = some (some (.ref f_breaks_of)))
    (l_breaks_of : K.lookup f_breaks_of = some ⟨oc_breaks_of, od_breaks_of, .func (PySem.W.fnOf "breaks_of" "breaks_of" (defArgs s_breaks_of) (defBody s_breaks_of) (defScope s_breaks_of) .none kV_breaks_of dc_breaks_of pm_breaks_of an_breaks_of cd_breaks_of ct_breaks_of), sl_breaks_of⟩)
    (c_breaks_of : PySem.W.codeIn K cd_breaks_of "breaks_of" = true)
    (k_breaks_of : PySem.W.keepIn K (.ref f_breaks_of) = true)
    (a_end_of : PySem.W.nsIn K mainGlobals "end_of" = some (some (.ref f_end_of)))
    (l_end_of : K.lookup f_end_of = some ⟨oc_end_of, od_end_of, .func (PySem.W.fnOf "end_of" "end_of" (defArgs s_end_of) (defBody s_end_of) (defScope s_end_of) .none kV_end_of dc_end_of pm_end_of an_end_of cd_end_of ct_end_of), sl_end_of⟩)
    (c_end_of : PySem.W.codeIn K cd_end_of "end_of" = true)
    (k_end_of : PySem.W.keepIn K (.ref f_end_of) = true)
    (a__course_of : PySem.W.nsIn K mainGlobals "_course_of" = some (some (.ref f__course_of)))
    (l__course_of : K.lookup f__course_of = some ⟨oc__course_of, od__course_of, .func (PySem.W.fnOf "_course_of" "_course_of" (defArgs s__course_of) (defBody s__course_of) (defScope s__course_of) .none kV__course_of dc__course_of pm__course_of an__course_of cd__course_of ct__course_of), sl__course_of⟩)
    (c__course_of : PySem.W.codeIn K cd__course_of "_course_of" = true)
    (k__course_of : PySem.W.keepIn K (.ref f__course_of) = true)
    (a_check_names_hands : PySem.W.nsIn K mainGlobals "check_names_hands" = some (some (.ref f_check_names_hands)))
    (l_check_names_hands : K.lookup f_check_names_hands = some ⟨oc_check_names_hands, od_check_names_hands, .func (PySem.W.fnOf "_check_names" "_check_names" (defArgs s_check_names_hands) (defBody s_check_names_hands) (defScope s_check_names_hands) .none kV_check_names_hands dc_check_names_hands pm_check_names_hands an_check_names_hands cd_check_names_hands ct_check_names_hands), sl_check_names_hands⟩)
    (c_check_names_hands : PySem.W.codeIn K cd_check_names_hands "_check_names" = true)
    (k_check_names_hands : PySem.W.keepIn K (.ref f_check_names_hands) = true)
    (a__check_places : PySem.W.nsIn K mainGlobals "_check_places" = some (some (.ref f__check_places)))
    (l__check_places : K.lookup f__check_places = some ⟨oc__check_places, od__check_places, .func (PySem.W.fnOf "_check_places" "_check_places" (defArgs s__check_places) (defBody s__check_places) (defScope s__check_places) .none kV__check_places dc__check_places pm__check_places an__check_places cd__check_places ct__check_places), sl__check_places⟩)
    (c__check_places : PySem.W.codeIn K cd__check_places "_check_places" = true)
    (k__check_places : PySem.W.keepIn K (.ref f__check_places) = true)
    (a__check_deeds : PySem.W.nsIn K mainGlobals "_check_deeds" = some (some (.ref f__check_deeds)))
    (l__check_deeds : K.lookup f__check_deeds = some ⟨oc__check_deeds, od__check_deeds, .func (PySem.W.fnOf "_check_deeds" "_check_deeds" (defArgs s__check_deeds) (defBody s__check_deeds) (defScope s__check_deeds) .none kV__check_deeds dc__check_deeds pm__check_deeds an__check_deeds cd__check_deeds ct__check_deeds), sl__check_deeds⟩)
    (c__check_deeds : PySem.W.codeIn K cd__check_deeds "_check_deeds" = true)
    (k__check_deeds : PySem.W.keepIn K (.ref f__check_deeds) = true)
    (a__is_deed : PySem.W.nsIn K mainGlobals "_is_deed" = some (some (.ref f__is_deed)))
    (l__is_deed : K.lookup f__is_deed = some ⟨oc__is_deed, od__is_deed, .func (PySem.W.fnOf "_is_deed" "_is_deed" (defArgs s__is_deed) (defBody s__is_deed) (defScope s__is_deed) .none kV__is_deed dc__is_deed pm__is_deed an__is_deed cd__is_deed ct__is_deed), sl__is_deed⟩)
    (c__is_deed : PySem.W.codeIn K cd__is_deed "_is_deed" = true)
    (k__is_deed : PySem.W.keepIn K (.ref f__is_deed) = true)
    (a__law_row : PySem.W.nsIn K mainGlobals "_law_row" = some (some (.ref f__law_row)))
    (l__law_row : K.lookup f__law_row = some ⟨oc__law_row, od__law_row, .func (PySem.W.fnOf "_law_row" "_law_row" (defArgs s__law_row) (defBody s__law_row) (defScope s__law_row) .none kV__law_row dc__law_row pm__law_row an__law_row cd__law_row ct__law_row), sl__law_row⟩)
    (c__law_row : PySem.W.codeIn K cd__law_row "_law_row" = true)
    (k__law_row : PySem.W.keepIn K (.ref f__law_row) = true)
    (a__law_numbers : PySem.W.nsIn K mainGlobals "_law_numbers" = some (some (.ref f__law_numbers)))
    (l__law_numbers : K.lookup f__law_numbers = some ⟨oc__law_numbers, od__law_numbers, .func (PySem.W.fnOf "_law_numbers" "_law_numbers" (defArgs s__law_numbers) (defBody s__law_numbers) (defScope s__law_numbers) .none kV__law_numbers dc__law_numbers pm__law_numbers an__law_numbers cd__law_numbers ct__law_numbers), sl__law_numbers⟩)
    (c__law_numbers : PySem.W.codeIn K cd__law_numbers "_law_numbers" = true)
    (k__law_numbers : PySem.W.keepIn K (.ref f__law_numbers) = true)
    (a__law_names : PySem.W.nsIn K mainGlobals "_law_names" = some (some (.ref f__law_names)))
    (l__law_names : K.lookup f__law_names = some ⟨oc__law_names, od__law_names, .func (PySem.W.fnOf "_law_names" "_law_names" (defArgs s__law_names) (defBody s__law_names) (defScope s__law_names) .none kV__law_names dc__law_names pm__law_names an__law_names cd__law_names ct__law_names), sl__law_names⟩)
    (c__law_names : PySem.W.codeIn K cd__law_names "_law_names" = true)
    (k__law_names : PySem.W.keepIn K (.ref f__law_names) = true)
    (a__law_parts : PySem.W.nsIn K mainGlobals "_law_parts" = some (some (.ref f__law_parts)))
    (l__law_parts : K.lookup f__law_parts = some ⟨oc__law_parts, od__law_parts, .func (PySem.W.fnOf "_law_parts" "_law_parts" (defArgs s__law_parts) (defBody s__law_parts) (defScope s__law_parts) .none kV__law_parts dc__law_parts pm__law_parts an__law_parts cd__law_parts ct__law_parts), sl__law_parts⟩)
    (c__law_parts : PySem.W.codeIn K cd__law_parts "_law_parts" = true)
    (k__law_parts : PySem.W.keepIn K (.ref f__law_parts) = true)
    (a__law_make : PySem.W.nsIn K mainGlobals "_law_make" = some (some (.ref f__law_make)))
    (l__law_make : K.lookup f__law_make = some ⟨oc__law_make, od__law_make, .func (PySem.W.fnOf "_law_make" "_law_make" (defArgs s__law_make) (defBody s__law_make) (defScope s__law_make) .none kV__law_make dc__law_make pm__law_make an__law_make cd__law_make ct__law_make), sl__law_make⟩)
    (c__law_make : PySem.W.codeIn K cd__law_make "_law_make" = true)
    (k__law_make : PySem.W.keepIn K (.ref f__law_make) = true)
    (a__law_walks : PySem.W.nsIn K mainGlobals "_law_walks" = some (some (.ref f__law_walks)))
    (l__law_walks : K.lookup f__law_walks = some ⟨oc__law_walks, od__law_walks, .func (PySem.W.fnOf "_law_walks" "_law_walks" (defArgs s__law_walks) (defBody s__law_walks) (defScope s__law_walks) .none kV__law_walks dc__law_walks pm__law_walks an__law_walks cd__law_walks ct__law_walks), sl__law_walks⟩)
    (c__law_walks : PySem.W.codeIn K cd__law_walks "_law_walks" = true)
    (k__law_walks : PySem.W.keepIn K (.ref f__law_walks) = true)
    (a__law_hands : PySem.W.nsIn K mainGlobals "_law_hands" = some (some (.ref f__law_hands)))
    (l__law_hands : K.lookup f__law_hands = some ⟨oc__law_hands, od__law_hands, .func (PySem.W.fnOf "_law_hands" "_law_hands" (defArgs s__law_hands) (defBody s__law_hands) (defScope s__law_hands) .none kV__law_hands dc__law_hands pm__law_hands an__law_hands cd__law_hands ct__law_hands), sl__law_hands⟩)
    (c__law_hands : PySem.W.codeIn K cd__law_hands "_law_hands" = true)
    (k__law_hands : PySem.W.keepIn K (.ref f__law_hands) = true)
    (a__law_course : PySem.W.nsIn K mainGlobals "_law_course" = some (some (.ref f__law_course)))
    (l__law_course : K.lookup f__law_course = some ⟨oc__law_course, od__law_course, .func (PySem.W.fnOf "_law_course" "_law_course" (defArgs s__law_course) (defBody s__law_course) (defScope s__law_course) .none kV__law_course dc__law_course pm__law_course an__law_course cd__law_course ct__law_course), sl__law_course⟩)
    (c__law_course : PySem.W.codeIn K cd__law_course "_law_course" = true)
    (k__law_course : PySem.W.keepIn K (.ref f__law_course) = true)
    (a__law_cut : PySem.W.nsIn K mainGlobals "_law_cut" = some (some (.ref f__law_cut)))
    (l__law_cut : K.lookup f__law_cut = some ⟨oc__law_cut, od__law_cut, .func (PySem.W.fnOf "_law_cut" "_law_cut" (defArgs s__law_cut) (defBody s__law_cut) (defScope s__law_cut) .none kV__law_cut dc__law_cut pm__law_cut an__law_cut cd__law_cut ct__law_cut), sl__law_cut⟩)
    (c__law_cut : PySem.W.codeIn K cd__law_cut "_law_cut" = true)
    (k__law_cut : PySem.W.keepIn K (.ref f__law_cut) = true)
    (a_law : PySem.W.nsIn K mainGlobals "law" = some (some (.ref f_law)))
    (l_law : K.lookup f_law = some ⟨oc_law, od_law, .func (PySem.W.fnOf "law" "law" (defArgs s_law) (defBody s_law) (defScope s_law) .none kV_law dc_law pm_law an_law cd_law ct_law), sl_law⟩)
    (c_law : PySem.W.codeIn K cd_law "law" = true)
    (k_law : PySem.W.keepIn K (.ref f_law) = true)
    (z_abs : PySem.W.nsIn K mainGlobals "abs" = some none)
    (z_all : PySem.W.nsIn K mainGlobals "all" = some none)
    (z_enumerate : PySem.W.nsIn K mainGlobals "enumerate" = some none)
    (z_int : PySem.W.nsIn K mainGlobals "int" = some none)
    (z_isinstance : PySem.W.nsIn K mainGlobals "isinstance" = some none)
    (z_len : PySem.W.nsIn K mainGlobals "len" = some none)
    (z_list : PySem.W.nsIn K mainGlobals "list" = some none)
    (z_max : PySem.W.nsIn K mainGlobals "max" = some none)
    (z_min : PySem.W.nsIn K mainGlobals "min" = some none)
    (z_range : PySem.W.nsIn K mainGlobals "range" = some none)
    (z_set : PySem.W.nsIn K mainGlobals "set" = some none)
    (z_sorted : PySem.W.nsIn K mainGlobals "sorted" = some none)
    (z_tuple : PySem.W.nsIn K mainGlobals "tuple" = some none)
    (g_CUT : PySem.W.nsIn K mainGlobals "CUT" = some (some (.str "cut" t_CUT)))
    (g_DIGITS : PySem.W.nsIn K mainGlobals "DIGITS" = some (some (.str "0123456789" t_DIGITS)))
    (g_LETTERS : PySem.W.nsIn K mainGlobals "LETTERS" = some (some (.str "abcdefghijklmnopqrstuvwxyz" t_LETTERS)))
    (g_LONGEST_NAME : PySem.W.nsIn K mainGlobals "LONGEST_NAME" = some (some (.int 12 t_LONGEST_NAME)))
    (g_MOST_DEEDS : PySem.W.nsIn K mainGlobals "MOST_DEEDS" = some (some (.int 30 t_MOST_DEEDS)))
    (g_MOST_HANDS : PySem.W.nsIn K mainGlobals "MOST_HANDS" = some (some (.int 5 t_MOST_HANDS)))
    (g_MOST_LINKS : PySem.W.nsIn K mainGlobals "MOST_LINKS" = some (some (.int 60 t_MOST_LINKS)))
    (g_MOST_MINUTES : PySem.W.nsIn K mainGlobals "MOST_MINUTES" = some (some (.int 1000 t_MOST_MINUTES)))
    (g_MOST_PATHS : PySem.W.nsIn K mainGlobals "MOST_PATHS" = some (some (.int 60 t_MOST_PATHS)))
    (g_MOST_PLACES : PySem.W.nsIn K mainGlobals "MOST_PLACES" = some (some (.int 24 t_MOST_PLACES)))
    (g_MOST_WINDS : PySem.W.nsIn K mainGlobals "MOST_WINDS" = some (some (.int 4 t_MOST_WINDS)))
    (g_WAIT : PySem.W.nsIn K mainGlobals "WAIT" = some (some (.str "wait" t_WAIT)))
    (g_WALK : PySem.W.nsIn K mainGlobals "WALK" = some (some (.str "walk" t_WALK)))
    (pg : PySem.W.plainGet K C Str.empty = true)
    (hd : PySem.W.hasDictIn K C = true)
    (po : PySem.W.plainOver K C = true)
    (sa : PySem.W.findIn K (.ref C) "__setattr__" = some (some (.builtin "object.__setattr__")))
    (mk : PySem.W.makesIn K C = true)
    (kc : PySem.W.keepIn K (.ref C) = true)
    (nW : PySem.W.findIn K (.ref C) "winds" = some none)
    (nP : PySem.W.findIn K (.ref C) "places" = some none)
    (nL : PySem.W.findIn K (.ref C) "links" = some none)
    (nA : PySem.W.findIn K (.ref C) "paths" = some none)
    : ∃ fd : FuncData, (∀ (s : Shared) (v : Value), BindsTo s fd ⟨[v], []⟩ [("script", v)]) ∧ ∀ base : Heap, K.In base → base.Ns mainGlobals mg → FnOk l.prog w K mg base CX0 7 fa fd ["script"] (spLaw K) := by
  have e := hfa.symm.trans (PySem.W.mg_of X G a_law)
  cases e
  have F_least_minutes := fun_mk (st := s_least_minutes) l_least_minutes c_least_minutes k_least_minutes
  have B_least_minutes := F_least_minutes.binds (ps := ["rows"]) fun _ _ _ _ _ _ us hl => match us, hl with | [_], _ => rfl
  have F_is_name := fun_mk (st := s_is_name) l_is_name c_is_name k_is_name
  have B_is_name := F_is_name.binds (ps := ["text"]) fun _ _ _ _ _ _ us hl => match us, hl with | [_], _ => rfl
  have F__check_count := fun_mk (st := s__check_count) l__check_count c__check_count k__check_count
  have B__check_count := F__check_count.binds (ps := ["sort", "rows", "least", "most"]) fun _ _ _ _ _ _ us hl => match us, hl with | [_, _, _, _], _ => rfl
  have F_check_names_lands := fun_mk (st := s_check_names_lands) l_check_names_lands c_check_names_lands k_check_names_lands
  have B_check_names_lands := F_check_names_lands.binds (ps := ["sort", "names"]) fun _ _ _ _ _ _ us hl => match us, hl with | [_, _], _ => rfl
  have F__check_ends := fun_mk (st := s__check_ends) l__check_ends c__check_ends k__check_ends
  have B__check_ends := F__check_ends.binds (ps := ["sort", "one", "other", "places"]) fun _ _ _ _ _ _ us hl => match us, hl with | [_, _, _, _], _ => rfl
  have F__as_bounds := fun_mk (st := s__as_bounds) l__as_bounds c__as_bounds k__as_bounds
  have B__as_bounds := F__as_bounds.binds (ps := ["bounds"]) fun _ _ _ _ _ _ us hl => match us, hl with | [_], _ => rfl
  have F__as_link := fun_mk (st := s__as_link) l__as_link c__as_link k__as_link
  have B__as_link := F__as_link.binds (ps := ["link", "winds", "places"]) fun _ _ _ _ _ _ us hl => match us, hl with | [_, _, _], _ => rfl
  have F__as_path := fun_mk (st := s__as_path) l__as_path c__as_path k__as_path
  have B__as_path := F__as_path.binds (ps := ["path", "places"]) fun _ _ _ _ _ _ us hl => match us, hl with | [_, _], _ => rfl
  have F__check_single_paths := fun_mk (st := s__check_single_paths) l__check_single_paths c__check_single_paths k__check_single_paths
  have B__check_single_paths := F__check_single_paths.binds (ps := ["paths"]) fun _ _ _ _ _ _ us hl => match us, hl with | [_], _ => rfl
  have F__is_between := fun_mk (st := s__is_between) l__is_between c__is_between k__is_between
  have B__is_between := F__is_between.binds (ps := ["path", "one", "other"]) fun _ _ _ _ _ _ us hl => match us, hl with | [_, _, _], _ => rfl
  have F_init : FunD K "__init__" "Land.__init__" (defArgs s_init) (defBody s_init) (defScope s_init) [] [("links", .ref tl), ("paths", .ref te)] f_init _ := ⟨⟨_, _, _, _, _, _, _, _, _, _, rfl, l_init, c_init, .inl ⟨rfl, rfl⟩, .inr ⟨D, rfl, fun q hq => by
    rcases List.mem_cons.mp hq with z | z
    · rw [z]; exact ⟨_, tl1, rfl⟩
    · rw [List.mem_singleton.mp z]; exact ⟨_, te1, rfl⟩⟩⟩, k_init⟩
  have F_link_names := fun_mk (st := s_link_names) l_link_names c_link_names k_link_names
  have B_link_names := F_link_names.binds (ps := ["self"]) fun _ _ _ _ _ _ us hl => match us, hl with | [_], _ => rfl
  have F_check_place := fun_mk (st := s_check_place) l_check_place c_check_place k_check_place
  have B_check_place := F_check_place.binds (ps := ["self", "place"]) fun _ _ _ _ _ _ us hl => match us, hl with | [_, _], _ => rfl
  have F_minutes_between := fun_mk (st := s_minutes_between) l_minutes_between c_minutes_between k_minutes_between
  have B_minutes_between := F_minutes_between.binds (ps := ["self", "one", "other"]) fun _ _ _ _ _ _ us hl => match us, hl with | [_, _, _], _ => rfl
  have F_Course_init := fun_mk (st := s_Course_init) l_Course_init c_Course_init k_Course_init
  have B_Course_init := F_Course_init.binds (ps := ["self"]) fun _ _ _ _ _ _ us hl => match us, hl with | [_], _ => rfl
  have F_Course_follow := fun_mk (st := s_Course_follow) l_Course_follow c_Course_follow k_Course_follow
  have B_Course_follow := F_Course_follow.binds (ps := ["self", "land", "number", "hand"]) fun _ _ _ _ _ _ us hl => match us, hl with | [_, _, _, _], _ => rfl
  have F_Course_breaks_in := fun_mk (st := s_Course_breaks_in) l_Course_breaks_in c_Course_breaks_in k_Course_breaks_in
  have B_Course_breaks_in := F_Course_breaks_in.binds (ps := ["self", "land"]) fun _ _ _ _ _ _ us hl => match us, hl with | [_, _], _ => rfl
  have F_stays := fun_mk (st := s_stays) l_stays c_stays k_stays
  have B_stays := F_stays.binds (ps := ["land", "hands"]) fun _ _ _ _ _ _ us hl => match us, hl with | [_, _], _ => rfl
  have F_breaks_of := fun_mk (st := s_breaks_of) l_breaks_of c_breaks_of k_breaks_of
  have B_breaks_of := F_breaks_of.binds (ps := ["land", "hands"]) fun _ _ _ _ _ _ us hl => match us, hl with | [_, _], _ => rfl
  have F_end_of := fun_mk (st := s_end_of) l_end_of c_end_of k_end_of
  have B_end_of := F_end_of.binds (ps := ["land", "hands"]) fun _ _ _ _ _ _ us hl => match us, hl with | [_, _], _ => rfl
  have F__course_of := fun_mk (st := s__course_of) l__course_of c__course_of k__course_of
  have B__course_of := F__course_of.binds (ps := ["land", "hands"]) fun _ _ _ _ _ _ us hl => match us, hl with | [_, _], _ => rfl
  have F_check_names_hands := fun_mk (st := s_check_names_hands) l_check_names_hands c_check_names_hands k_check_names_hands
  have B_check_names_hands := F_check_names_hands.binds (ps := ["hands"]) fun _ _ _ _ _ _ us hl => match us, hl with | [_], _ => rfl
  have F__check_places := fun_mk (st := s__check_places) l__check_places c__check_places k__check_places
  have B__check_places := F__check_places.binds (ps := ["land", "hands"]) fun _ _ _ _ _ _ us hl => match us, hl with | [_, _], _ => rfl
  have F__check_deeds := fun_mk (st := s__check_deeds) l__check_deeds c__check_deeds k__check_deeds
  have B__check_deeds := F__check_deeds.binds (ps := ["hands"]) fun _ _ _ _ _ _ us hl => match us, hl with | [_], _ => rfl
  have F__is_deed := fun_mk (st := s__is_deed) l__is_deed c__is_deed k__is_deed
  have B__is_deed := F__is_deed.binds (ps := ["deed"]) fun _ _ _ _ _ _ us hl => match us, hl with | [_], _ => rfl
  have F__law_row := fun_mk (st := s__law_row) l__law_row c__law_row k__law_row
  have B__law_row := F__law_row.binds (ps := ["cell", "many"]) fun _ _ _ _ _ _ us hl => match us, hl with | [_, _], _ => rfl
  have F__law_numbers := fun_mk (st := s__law_numbers) l__law_numbers c__law_numbers k__law_numbers
  have B__law_numbers := F__law_numbers.binds (ps := ["script", "many"]) fun _ _ _ _ _ _ us hl => match us, hl with | [_, _], _ => rfl
  have F__law_names := fun_mk (st := s__law_names) l__law_names c__law_names k__law_names
  have B__law_names := F__law_names.binds (ps := ["number", "many"]) fun _ _ _ _ _ _ us hl => match us, hl with | [_, _], _ => rfl
  have F__law_parts := fun_mk (st := s__law_parts) l__law_parts c__law_parts k__law_parts
  have B__law_parts := F__law_parts.binds (ps := ["numbers", "at"]) fun _ _ _ _ _ _ us hl => match us, hl with | [_, _], _ => rfl
  have F__law_make := fun_mk (st := s__law_make) l__law_make c__law_make k__law_make
  have B__law_make := F__law_make.binds (ps := ["parts"]) fun _ _ _ _ _ _ us hl => match us, hl with | [_], _ => rfl
  have F__law_walks := fun_mk (st := s__law_walks) l__law_walks c__law_walks k__law_walks
  have B__law_walks := F__law_walks.binds (ps := ["parts", "place"]) fun _ _ _ _ _ _ us hl => match us, hl with | [_, _], _ => rfl
  have F__law_hands := fun_mk (st := s__law_hands) l__law_hands c__law_hands k__law_hands
  have B__law_hands := F__law_hands.binds (ps := ["numbers", "at", "parts"]) fun _ _ _ _ _ _ us hl => match us, hl with | [_, _, _], _ => rfl
  have F__law_course := fun_mk (st := s__law_course) l__law_course c__law_course k__law_course
  have B__law_course := F__law_course.binds (ps := ["parts", "hand"]) fun _ _ _ _ _ _ us hl => match us, hl with | [_, _], _ => rfl
  have F__law_cut := fun_mk (st := s__law_cut) l__law_cut c__law_cut k__law_cut
  have B__law_cut := F__law_cut.binds (ps := ["parts", "hands"]) fun _ _ _ _ _ _ us hl => match us, hl with | [_, _], _ => rfl
  have F_law := fun_mk (st := s_law) l_law c_law k_law
  have B_law := F_law.binds (ps := ["script"]) fun _ _ _ _ _ _ us hl => match us, hl with | [_], _ => rfl
  have T : Txt K mg { C := C, tl := tl, te := te, pr := pr, C_Course := C_Course, f_least_minutes := f_least_minutes, d_least_minutes := _, f_is_name := f_is_name, d_is_name := _, f__check_count := f__check_count, d__check_count := _, f_check_names_lands := f_check_names_lands, d_check_names_lands := _, f__check_ends := f__check_ends, d__check_ends := _, f__as_bounds := f__as_bounds, d__as_bounds := _, f__as_link := f__as_link, d__as_link := _, f__as_path := f__as_path, d__as_path := _, f__check_single_paths := f__check_single_paths, d__check_single_paths := _, f__is_between := f__is_between, d__is_between := _, f_init := f_init, d_init := _, f_link_names := f_link_names, d_link_names := _, f_check_place := f_check_place, d_check_place := _, f_minutes_between := f_minutes_between, d_minutes_between := _, f_Course_init := f_Course_init, d_Course_init := _, f_Course_follow := f_Course_follow, d_Course_follow := _, f_Course_breaks_in := f_Course_breaks_in, d_Course_breaks_in := _, f_stays := f_stays, d_stays := _, f_breaks_of := f_breaks_of, d_breaks_of := _, f_end_of := f_end_of, d_end_of := _, f__course_of := f__course_of, d__course_of := _, f_check_names_hands := f_check_names_hands, d_check_names_hands := _, f__check_places := f__check_places, d__check_places := _, f__check_deeds := f__check_deeds, d__check_deeds := _, f__is_deed := f__is_deed, d__is_deed := _, f__law_row := f__law_row, d__law_row := _, f__law_numbers := f__law_numbers, d__law_numbers := _, f__law_names := f__law_names, d__law_names := _, f__law_parts := f__law_parts, d__law_parts := _, f__law_make := f__law_make, d__law_make := _, f__law_walks := f__law_walks, d__law_walks := _, f__law_hands := f__law_hands, d__law_hands := _, f__law_course := f__law_course, d__law_course := _, f__law_cut := f__law_cut, d__law_cut := _, f_law := fa, d_law := _ } := {
    F_least_minutes := F_least_minutes
    B_least_minutes := B_least_minutes
    k_least_minutes := k_least_minutes
    g_least_minutes := PySem.W.mg_of X G a_least_minutes
    F_is_name := F_is_name
    B_is_name := B_is_name
    k_is_name := k_is_name
    g_is_name := PySem.W.mg_of X G a_is_name
    F__check_count := F__check_count
    B__check_count := B__check_count
    k__check_count := k__check_count
    g__check_count := PySem.W.mg_of X G a__check_count
    F_check_names_lands := F_check_names_lands
    B_check_names_lands := B_check_names_lands
    k_check_names_lands := k_check_names_lands
    g_check_names_lands := PySem.W.mg_of X G a_check_names_lands
    F__check_ends := F__check_ends
    B__check_ends := B__check_ends
    k__check_ends := k__check_ends
    g__check_ends := PySem.W.mg_of X G a__check_ends
    F__as_bounds := F__as_bounds
    B__as_bounds := B__as_bounds
    k__as_bounds := k__as_bounds
    g__as_bounds := PySem.W.mg_of X G a__as_bounds
    F__as_link := F__as_link
    B__as_link := B__as_link
    k__as_link := k__as_link
    g__as_link := PySem.W.mg_of X G a__as_link
    F__as_path := F__as_path
    B__as_path := B__as_path
    k__as_path := k__as_path
    g__as_path := PySem.W.mg_of X G a__as_path
    F__check_single_paths := F__check_single_paths
    B__check_single_paths := B__check_single_paths
    k__check_single_paths := k__check_single_paths
    g__check_single_paths := PySem.W.mg_of X G a__check_single_paths
    F__is_between := F__is_between
    B__is_between := B__is_between
    k__is_between := k__is_between
    g__is_between := PySem.W.mg_of X G a__is_between
    F_init := F_init
    F_link_names := F_link_names
    B_link_names := B_link_names
    k_link_names := k_link_names
    F_check_place := F_check_place
    B_check_place := B_check_place
    k_check_place := k_check_place
    m_check_place := ⟨a_check_place, i_check_place, k_check_place⟩
    F_minutes_between := F_minutes_between
    B_minutes_between := B_minutes_between
    k_minutes_between := k_minutes_between
    m_minutes_between := ⟨a_minutes_between, i_minutes_between, k_minutes_between⟩
    F_Course_init := F_Course_init
    B_Course_init := B_Course_init
    k_Course_init := k_Course_init
    mk_Course := ⟨mk_C_Course, a_Course_init, i_Course_init, kc_C_Course⟩
    F_Course_follow := F_Course_follow
    B_Course_follow := B_Course_follow
    k_Course_follow := k_Course_follow
    m_Course_follow := ⟨a_Course_follow, i_Course_follow, k_Course_follow⟩
    F_Course_breaks_in := F_Course_breaks_in
    B_Course_breaks_in := B_Course_breaks_in
    k_Course_breaks_in := k_Course_breaks_in
    m_Course_breaks_in := ⟨a_Course_breaks_in, i_Course_breaks_in, k_Course_breaks_in⟩
    F_stays := F_stays
    B_stays := B_stays
    k_stays := k_stays
    g_stays := PySem.W.mg_of X G a_stays
    F_breaks_of := F_breaks_of
    B_breaks_of := B_breaks_of
    k_breaks_of := k_breaks_of
    g_breaks_of := PySem.W.mg_of X G a_breaks_of
    F_end_of := F_end_of
    B_end_of := B_end_of
    k_end_of := k_end_of
    g_end_of := PySem.W.mg_of X G a_end_of
    F__course_of := F__course_of
    B__course_of := B__course_of
    k__course_of := k__course_of
    g__course_of := PySem.W.mg_of X G a__course_of
    F_check_names_hands := F_check_names_hands
    B_check_names_hands := B_check_names_hands
    k_check_names_hands := k_check_names_hands
    g_check_names_hands := PySem.W.mg_of X G a_check_names_hands
    F__check_places := F__check_places
    B__check_places := B__check_places
    k__check_places := k__check_places
    g__check_places := PySem.W.mg_of X G a__check_places
    F__check_deeds := F__check_deeds
    B__check_deeds := B__check_deeds
    k__check_deeds := k__check_deeds
    g__check_deeds := PySem.W.mg_of X G a__check_deeds
    F__is_deed := F__is_deed
    B__is_deed := B__is_deed
    k__is_deed := k__is_deed
    g__is_deed := PySem.W.mg_of X G a__is_deed
    F__law_row := F__law_row
    B__law_row := B__law_row
    k__law_row := k__law_row
    g__law_row := PySem.W.mg_of X G a__law_row
    F__law_numbers := F__law_numbers
    B__law_numbers := B__law_numbers
    k__law_numbers := k__law_numbers
    g__law_numbers := PySem.W.mg_of X G a__law_numbers
    F__law_names := F__law_names
    B__law_names := B__law_names
    k__law_names := k__law_names
    g__law_names := PySem.W.mg_of X G a__law_names
    F__law_parts := F__law_parts
    B__law_parts := B__law_parts
    k__law_parts := k__law_parts
    g__law_parts := PySem.W.mg_of X G a__law_parts
    F__law_make := F__law_make
    B__law_make := B__law_make
    k__law_make := k__law_make
    g__law_make := PySem.W.mg_of X G a__law_make
    F__law_walks := F__law_walks
    B__law_walks := B__law_walks
    k__law_walks := k__law_walks
    g__law_walks := PySem.W.mg_of X G a__law_walks
    F__law_hands := F__law_hands
    B__law_hands := B__law_hands
    k__law_hands := k__law_hands
    g__law_hands := PySem.W.mg_of X G a__law_hands
    F__law_course := F__law_course
    B__law_course := B__law_course
    k__law_course := k__law_course
    g__law_course := PySem.W.mg_of X G a__law_course
    F__law_cut := F__law_cut
    B__law_cut := B__law_cut
    k__law_cut := k__law_cut
    g__law_cut := PySem.W.mg_of X G a__law_cut
    F_law := F_law
    B_law := B_law
    k_law := k_law
    g_law := PySem.W.mg_of X G a_law
    z_abs := PySem.W.mg_none_of X G z_abs
    z_all := PySem.W.mg_none_of X G z_all
    z_enumerate := PySem.W.mg_none_of X G z_enumerate
    z_int := PySem.W.mg_none_of X G z_int
    z_isinstance := PySem.W.mg_none_of X G z_isinstance
    z_len := PySem.W.mg_none_of X G z_len
    z_list := PySem.W.mg_none_of X G z_list
    z_max := PySem.W.mg_none_of X G z_max
    z_min := PySem.W.mg_none_of X G z_min
    z_range := PySem.W.mg_none_of X G z_range
    z_set := PySem.W.mg_none_of X G z_set
    z_sorted := PySem.W.mg_none_of X G z_sorted
    z_tuple := PySem.W.mg_none_of X G z_tuple
    c_CUT := ⟨_, PySem.W.mg_of X G g_CUT⟩
    c_DIGITS := ⟨_, PySem.W.mg_of X G g_DIGITS⟩
    c_LETTERS := ⟨_, PySem.W.mg_of X G g_LETTERS⟩
    c_LONGEST_NAME := ⟨_, PySem.W.mg_of X G g_LONGEST_NAME⟩
    c_MOST_DEEDS := ⟨_, PySem.W.mg_of X G g_MOST_DEEDS⟩
    c_MOST_HANDS := ⟨_, PySem.W.mg_of X G g_MOST_HANDS⟩
    c_MOST_LINKS := ⟨_, PySem.W.mg_of X G g_MOST_LINKS⟩
    c_MOST_MINUTES := ⟨_, PySem.W.mg_of X G g_MOST_MINUTES⟩
    c_MOST_PATHS := ⟨_, PySem.W.mg_of X G g_MOST_PATHS⟩
    c_MOST_PLACES := ⟨_, PySem.W.mg_of X G g_MOST_PLACES⟩
    c_MOST_WINDS := ⟨_, PySem.W.mg_of X G g_MOST_WINDS⟩
    c_WAIT := ⟨_, PySem.W.mg_of X G g_WAIT⟩
    c_WALK := ⟨_, PySem.W.mg_of X G g_WALK⟩
    cl_Course := ⟨pg_C_Course, hd_C_Course, po_C_Course, sa_C_Course⟩
    g_Course := PySem.W.mg_of X G aC_Course
    na_Course_stays := na_Course_stays
    na_Course_cuts := na_Course_cuts
    na_Course_end := na_Course_end
    cl := ⟨pg, hd, po, sa⟩
    mk_Land := ⟨mk, a_init, i_init, kc⟩
    g_Land := PySem.W.mg_of X G aC
    nW := nW
    nP := nP
    nL := nL
    nA := nA
    p_link_names := ⟨pr1, pr2, pr3, ⟨_, pr4⟩⟩
    tlT := fun H => .inr ⟨_, #[], _, tl2, rfl, rfl, Nat.zero_le _, .nil⟩
    teT := fun H => .inr ⟨_, #[], _, te2, rfl, rfl, Nat.zero_le _, .nil⟩ }
  exact ⟨_, fun s v => .of_eq rfl, fun base _ _ => G_law T⟩
theorem walk {l : PySem.W.OpenLaw} {q : Program} {loose : List Str} {XP : (Str → Option Value) → Heap → Prop} {YP : World → Heap → Prop} {d : DefRec} {K : Params → PySem.W.Frag} (hn : l.most = some 63) (hdf : d.params.defaults = [])
    (hY : ∀ (w : World) (h : Heap), YP w h → (K w.params).In h)
    (F : ∀ (w : World) (mg : Str → Option Value) (fa : Addr) (h : Heap), (K w.params).In h → h.Ns mainGlobals mg → mg d.name = some (.ref fa) →
      ∃ fd : FuncData, (∀ (s : Shared) (u : Value), BindsTo s fd ⟨[u], []⟩ [("script", u)]) ∧ ∀ base : Heap, (K w.params).In base → base.Ns mainGlobals mg → FnOk l.prog w (K w.params) mg base CX0 7 fa fd ["script"] (spLaw (K w.params))) :
    PySem.W.WalkO q loose XP YP l.row.toRowW d [] (fun f vs => PySem.call f vs) :=
  L2.walk_of (n := 63) (k := 7) (x := "script") (CX := fun _ => CX0) (sp := fun w => spLaw (K w.params)) hn (by decide) hdf ⟨rfl, by decide, by decide⟩ hY F (fun _ _ a ns hl _ hS => ⟨a, ns, rfl, hS, fun _ => rfl⟩) fun _ _ _ _ _ z => z
end EV
open PySem PySem.W PyProof.Rows in
set_option maxRecDepth 100000 in
set_option maxHeartbeats 0 in
theorem PySem.Challenge.cw_everyfire_k42_courses_of_hands_holds : PySem.Challenge.rw_everyfire_k42_courses_of_hands.Holds := by
  w_on; o_law; k_head; (case hw => w_witness2)
  k_fill
  refine EV.walk (l := PySem.Challenge.rw_everyfire_k42_courses_of_hands) rfl rfl (fun w h Y => PySem.W.kIn_of Y) ?F
  case F =>
    intro w mg fa h KX G hmg
    refine' EV.all_mk KX G hmg ?aC ?aC_Course ?pg_C_Course ?hd_C_Course ?po_C_Course ?sa_C_Course ?mk_C_Course ?kc_C_Course ?na_Course_stays ?na_Course_cuts ?na_Course_end ?a_least_minutes ?l_least_minutes ?c_least_minutes ?k_least_minutes ?a_is_name ?l_is_name ?c_is_name ?k_is_name ?a__check_count ?l__check_count ?c__check_count ?k__check_count ?a_check_names_lands ?l_check_names_lands ?c_check_names_lands ?k_check_names_lands ?a__check_ends ?l__check_ends ?c__check_ends ?k__check_ends ?a__as_bounds ?l__as_bounds ?c__as_bounds ?k__as_bounds ?a__as_link ?l__as_link ?c__as_link ?k__as_link ?a__as_path ?l__as_path ?c__as_path ?k__as_path ?a__check_single_paths ?l__check_single_paths ?c__check_single_paths ?k__check_single_paths ?a__is_between ?l__is_between ?c__is_between ?k__is_between ?a_init ?i_init ?l_init ?c_init ?k_init ?tl1 ?te1 ?tl2 ?te2 ?pr1 ?pr2 ?pr3 ?pr4 ?l_link_names ?c_link_names ?k_link_names ?a_check_place ?i_check_place ?l_check_place ?c_check_place ?k_check_place ?a_minutes_between ?i_minutes_between ?l_minutes_between ?c_minutes_between ?k_minutes_between ?a_Course_init ?i_Course_init ?l_Course_init ?c_Course_init ?k_Course_init ?a_Course_follow ?i_Course_follow ?l_Course_follow ?c_Course_follow ?k_Course_follow ?a_Course_breaks_in ?i_Course_breaks_in ?l_Course_breaks_in ?c_Course_breaks_in ?k_Course_breaks_in ?a_stays ?l_stays ?c_stays ?k_stays ?a_breaks_of ?l_breaks_of ?c_breaks_of ?k_breaks_of ?a_end_of ?l_end_of ?c_end_of ?k_end_of ?a__course_of ?l__course_of ?c__course_of ?k__course_of ?a_check_names_hands ?l_check_names_hands ?c_check_names_hands ?k_check_names_hands ?a__check_places ?l__check_places ?c__check_places ?k__check_places ?a__check_deeds ?l__check_deeds ?c__check_deeds ?k__check_deeds ?a__is_deed ?l__is_deed ?c__is_deed ?k__is_deed ?a__law_row ?l__law_row ?c__law_row ?k__law_row ?a__law_numbers ?l__law_numbers ?c__law_numbers ?k__law_numbers ?a__law_names ?l__law_names ?c__law_names ?k__law_names ?a__law_parts ?l__law_parts ?c__law_parts ?k__law_parts ?a__law_make ?l__law_make ?c__law_make ?k__law_make ?a__law_walks ?l__law_walks ?c__law_walks ?k__law_walks ?a__law_hands ?l__law_hands ?c__law_hands ?k__law_hands ?a__law_course ?l__law_course ?c__law_course ?k__law_course ?a__law_cut ?l__law_cut ?c__law_cut ?k__law_cut ?a_law ?l_law ?c_law ?k_law ?z_abs ?z_all ?z_enumerate ?z_int ?z_isinstance ?z_len ?z_list ?z_max ?z_min ?z_range ?z_set ?z_sorted ?z_tuple ?g_CUT ?g_DIGITS ?g_LETTERS ?g_LONGEST_NAME ?g_MOST_DEEDS ?g_MOST_HANDS ?g_MOST_LINKS ?g_MOST_MINUTES ?g_MOST_PATHS ?g_MOST_PLACES ?g_MOST_WINDS ?g_WAIT ?g_WALK ?pg ?hd ?po ?sa ?mk ?kc ?nW ?nP ?nL ?nA
    (case aC => k_is)
    (case aC_Course => k_is)
    (case pg_C_Course => k_is)
    (case hd_C_Course => k_is)
    (case po_C_Course => k_is)
    (case sa_C_Course => k_is)
    (case mk_C_Course => k_is)
    (case kc_C_Course => k_is)
    (case na_Course_stays => k_is)
    (case na_Course_cuts => k_is)
    (case na_Course_end => k_is)
    (case a_least_minutes => k_is)
    (case l_least_minutes => k_is)
    (case c_least_minutes => k_is)
    (case k_least_minutes => k_is)
    (case a_is_name => k_is)
    (case l_is_name => k_is)
    (case c_is_name => k_is)
    (case k_is_name => k_is)
    (case a__check_count => k_is)
    (case l__check_count => k_is)
    (case c__check_count => k_is)
    (case k__check_count => k_is)
    (case a_check_names_lands => k_is)
    (case l_check_names_lands => k_is)
    (case c_check_names_lands => k_is)
    (case k_check_names_lands => k_is)
    (case a__check_ends => k_is)
    (case l__check_ends => k_is)
    (case c__check_ends => k_is)
    (case k__check_ends => k_is)
    (case a__as_bounds => k_is)
    (case l__as_bounds => k_is)
    (case c__as_bounds => k_is)
    (case k__as_bounds => k_is)
    (case a__as_link => k_is)
    (case l__as_link => k_is)
    (case c__as_link => k_is)
    (case k__as_link => k_is)
    (case a__as_path => k_is)
    (case l__as_path => k_is)
    (case c__as_path => k_is)
    (case k__as_path => k_is)
    (case a__check_single_paths => k_is)
    (case l__check_single_paths => k_is)
    (case c__check_single_paths => k_is)
    (case k__check_single_paths => k_is)
    (case a__is_between => k_is)
    (case l__is_between => k_is)
    (case c__is_between => k_is)
    (case k__is_between => k_is)
    (case a_init => k_is)
    (case i_init => k_is)
    (case l_init => k_is)
    (case c_init => k_is)
    (case k_init => k_is)
    (case tl1 => k_is)
    (case te1 => k_is)
    (case tl2 => k_is)
    (case te2 => k_is)
    (case pr1 => k_is)
    (case pr2 => k_is)
    (case pr3 => k_is)
    (case pr4 => k_is)
    (case l_link_names => k_is)
    (case c_link_names => k_is)
    (case k_link_names => k_is)
    (case a_check_place => k_is)
    (case i_check_place => k_is)
    (case l_check_place => k_is)
    (case c_check_place => k_is)
    (case k_check_place => k_is)
    (case a_minutes_between => k_is)
    (case i_minutes_between => k_is)
    (case l_minutes_between => k_is)
    (case c_minutes_between => k_is)
    (case k_minutes_between => k_is)
    (case a_Course_init => k_is)
    (case i_Course_init => k_is)
    (case l_Course_init => k_is)
    (case c_Course_init => k_is)
    (case k_Course_init => k_is)
    (case a_Course_follow => k_is)
    (case i_Course_follow => k_is)
    (case l_Course_follow => k_is)
    (case c_Course_follow => k_is)
    (case k_Course_follow => k_is)
    (case a_Course_breaks_in => k_is)
    (case i_Course_breaks_in => k_is)
    (case l_Course_breaks_in => k_is)
    (case c_Course_breaks_in => k_is)
    (case k_Course_breaks_in => k_is)
    (case a_stays => k_is)
    (case l_stays => k_is)
    (case c_stays => k_is)
    (case k_stays => k_is)
    (case a_breaks_of => k_is)
    (case l_breaks_of => k_is)
    (case c_breaks_of => k_is)
    (case k_breaks_of => k_is)
    (case a_end_of => k_is)
    (case l_end_of => k_is)
    (case c_end_of => k_is)
    (case k_end_of => k_is)
    (case a__course_of => k_is)
    (case l__course_of => k_is)
    (case c__course_of => k_is)
    (case k__course_of => k_is)
    (case a_check_names_hands => k_is)
    (case l_check_names_hands => k_is)
    (case c_check_names_hands => k_is)
    (case k_check_names_hands => k_is)
    (case a__check_places => k_is)
    (case l__check_places => k_is)
    (case c__check_places => k_is)
    (case k__check_places => k_is)
    (case a__check_deeds => k_is)
    (case l__check_deeds => k_is)
    (case c__check_deeds => k_is)
    (case k__check_deeds => k_is)
    (case a__is_deed => k_is)
    (case l__is_deed => k_is)
    (case c__is_deed => k_is)
    (case k__is_deed => k_is)
    (case a__law_row => k_is)
    (case l__law_row => k_is)
    (case c__law_row => k_is)
    (case k__law_row => k_is)
    (case a__law_numbers => k_is)
    (case l__law_numbers => k_is)
    (case c__law_numbers => k_is)
    (case k__law_numbers => k_is)
    (case a__law_names => k_is)
    (case l__law_names => k_is)
    (case c__law_names => k_is)
    (case k__law_names => k_is)
    (case a__law_parts => k_is)
    (case l__law_parts => k_is)
    (case c__law_parts => k_is)
    (case k__law_parts => k_is)
    (case a__law_make => k_is)
    (case l__law_make => k_is)
    (case c__law_make => k_is)
    (case k__law_make => k_is)
    (case a__law_walks => k_is)
    (case l__law_walks => k_is)
    (case c__law_walks => k_is)
    (case k__law_walks => k_is)
    (case a__law_hands => k_is)
    (case l__law_hands => k_is)
    (case c__law_hands => k_is)
    (case k__law_hands => k_is)
    (case a__law_course => k_is)
    (case l__law_course => k_is)
    (case c__law_course => k_is)
    (case k__law_course => k_is)
    (case a__law_cut => k_is)
    (case l__law_cut => k_is)
    (case c__law_cut => k_is)
    (case k__law_cut => k_is)
    (case a_law => k_is)
    (case l_law => k_is)
    (case c_law => k_is)
    (case k_law => k_is)
    (case z_abs => k_is)
    (case z_all => k_is)
    (case z_enumerate => k_is)
    (case z_int => k_is)
    (case z_isinstance => k_is)
    (case z_len => k_is)
    (case z_list => k_is)
    (case z_max => k_is)
    (case z_min => k_is)
    (case z_range => k_is)
    (case z_set => k_is)
    (case z_sorted => k_is)
    (case z_tuple => k_is)
    (case g_CUT => k_is)
    (case g_DIGITS => k_is)
    (case g_LETTERS => k_is)
    (case g_LONGEST_NAME => k_is)
    (case g_MOST_DEEDS => k_is)
    (case g_MOST_HANDS => k_is)
    (case g_MOST_LINKS => k_is)
    (case g_MOST_MINUTES => k_is)
    (case g_MOST_PATHS => k_is)
    (case g_MOST_PLACES => k_is)
    (case g_MOST_WINDS => k_is)
    (case g_WAIT => k_is)
    (case g_WALK => k_is)
    (case pg => k_is)
    (case hd => k_is)
    (case po => k_is)
    (case sa => k_is)
    (case mk => k_is)
    (case kc => k_is)
    (case nW => k_is)
    (case nP => k_is)
    (case nL => k_is)
    (case nA => k_is)

