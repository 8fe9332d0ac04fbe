import PyProof.Rows.All
import Wide.All
import OpenK.AllK
import Wide.FinOn
import PyProof.EqAt
import PyProof.EqKinds
import PyProof.TupleCall
import HandS.Base
import HandS.Call
import HandS.List
import HandS.ForMost
import HandS.ForExc
import HandS.RaiseMore
import HandS.FStr
import HandS.MakeKwOnly
import HandS.Property
import HandS.IsInst
import HandS.Evl
import HandS.Deep
import HandS.TupSets
import HandS.SetFor
import HandS.Ends
import HandS.Defaults
import PyProof.ReprRoads
import HandS.Text
import PyProof.StrBlock2
import PyProof.CallFns
import PyProof.ReprLen
import PyProof.ReprRoom
import PyProof.Rows.ReprShort
import HandS.StrMore
import HandS.Walk
import HandS.Strs
import PySem.Challenge.RW_everyfire_k53_words_of_a_session
set_option Elab.async false
set_option linter.all false
set_option maxRecDepth 100000
set_option maxHeartbeats 4000000
/-! len(set(xs)) of any number of texts -/
namespace EvS
open PySem PySem.Spec PyProof.Rows
/-- the different ones, each where it came first -/
def dd {α : Type} [DecidableEq α] : List α → List α → List α
  | acc, [] => acc
  | acc, x :: r => dd (if x ∈ acc then acc else acc ++ [x]) r
theorem dd_len_le {α : Type} [DecidableEq α] : ∀ (l acc : List α), (dd acc l).length ≤ acc.length + l.length
  | [], acc => Nat.le_refl _
  | x :: r, acc => by
    unfold dd
    by_cases h : x ∈ acc
    · rw [if_pos h]
      have := dd_len_le r acc
      simp only [List.length_cons]
      omega
    · rw [if_neg h]
      have := dd_len_le r (acc ++ [x])
      simp only [List.length_cons, List.length_append, List.length_nil] at this ⊢
      omega
theorem dd_len_eq {α : Type} [DecidableEq α] : ∀ (l acc : List α), acc.Nodup → ((dd acc l).length = acc.length + l.length ↔ (acc ++ l).Nodup)
  | [], acc, h => by simp [dd, h]
  | x :: r, acc, h => by
    unfold dd
    by_cases hx : x ∈ acc
    · rw [if_pos hx]
      have h1 := dd_len_le r acc
      constructor
      · intro e
        simp only [List.length_cons] at e
        omega
      · intro e
        have := (List.nodup_append.mp e).2.2 x hx x (List.mem_cons_self ..)
        exact absurd rfl this
    · rw [if_neg hx]
      have hn : (acc ++ [x]).Nodup := by
        rw [List.nodup_append]
        refine ⟨h, by simp, fun a ha b hb => ?_⟩
        rw [List.mem_singleton] at hb
        subst hb
        exact fun e => hx (e ▸ ha)
      have ih := dd_len_eq r (acc ++ [x]) hn
      simp only [List.length_cons, List.length_append, List.length_nil, List.append_assoc, List.singleton_append] at ih ⊢
      rw [← ih]
      omega
theorem dd_snoc {α : Type} [DecidableEq α] (x : α) : ∀ (l acc : List α), dd acc (l ++ [x]) = (if x ∈ dd acc l then dd acc l else dd acc l ++ [x])
  | [], acc => rfl
  | y :: r, acc => by
    show dd _ (r ++ [x]) = _
    rw [dd_snoc x r]
    rfl
section
variable {prog : Program} {w : World} {A : Around} {R : Result → Shared → Prop} {I : Addr} {fp wr : List Addr} {G : Array GenState → Array GenState → Prop} {n : Nat} {P : Nat → Value → Prop} {St : Nat → Shared → Prop}
variable {κ : Type} [DecidableEq κ] {kd : KeyKind prog w κ}
theorem turnK (W : WalksS prog w A.in1 I fp wr G n P St) (S : Addr) (hSf : S ∉ fp) (ks : List κ) (hlen : ks.length = n) (hmax : n < 4000)
    (hat : ∀ i v k, P i v → ks[i]? = some k → kd.is k v = true ∧ v.scannable = true) :
    ∀ (m i : Nat) (s : Shared), n - i = m → i ≤ n → St i s →
      Heap.SetOf kd s.heap S (fun k => decide (k ∈ dd [] (ks.take i))) (dd [] (ks.take i)).length →
      (∀ s', Moved (S :: wr) G s s' → Heap.SetOf kd s'.heap S (fun k => decide (k ∈ dd [] ks)) (dd [] ks).length → R (.ok (.ret .none)) s') →
      codeAny (model prog w) A (.builtin "set.update.loop" ⟨[.ref S, .ref I], []⟩) R s := by
  have nw : S ∉ wr := fun q => hSf (W.sub _ q)
  have up : ∀ c ∈ wr, c ∈ S :: wr := fun c hc => List.mem_cons_of_mem _ hc
  intro m
  induction m with
  | zero =>
    intro i s hm hi hst hS hR
    obtain rfl : i = n := by omega
    refine codeAny_builtin PyProof.Rows.F.entry_set_update_loop ?_
    rw [Around.under_plainId PyProof.Rows.F.plain_set_update_loop _]
    show wpAny _ A.in1 (pyNext (.ref I) >>= _) _ _ s
    refine wpAny_bind (W.done s _ _ hst fun s1 mv => ?_)
    refine wpAny_pure (hR s1 (mv.mono up) ?_)
    rw [← hlen, List.take_length] at hS
    obtain ⟨o, es, ep, t, ho, more⟩ := hS
    exact ⟨o, es, ep, t, mv.heap S _ nw ho, more⟩
  | succ m ih =>
    intro i s hm hi hst hS hR
    have lt : i < n := by omega
    obtain ⟨k0, hk0⟩ : ∃ k, ks[i]? = some k := ⟨ks[i]'(by omega), List.getElem?_eq_getElem (by omega)⟩
    refine codeAny_builtin PyProof.Rows.F.entry_set_update_loop ?_
    rw [Around.under_plainId PyProof.Rows.F.plain_set_update_loop _]
    show wpAny _ A.in1 (pyNext (.ref I) >>= _) _ _ s
    refine wpAny_bind (W.item i s _ _ lt hst fun v s1 hP hst1 mv => ?_)
    obtain ⟨hv, hsc⟩ := hat i v k0 hP hk0
    have hS1 : Heap.SetOf kd s1.heap S (fun k => decide (k ∈ dd [] (ks.take i))) (dd [] (ks.take i)).length := by
      obtain ⟨o, es, ep, t, ho, more⟩ := hS
      exact ⟨o, es, ep, t, mv.heap S _ nw ho, more⟩
    show wpAny _ A.in1 (holding [v] (setAdd S v) >>= _) _ _ s1
    refine wpAny_bind (wpAny_holding ?_)
    unfold setAdd
    refine wpAny_holding ?_
    refine wpAny_bind (kd.pyHash (k := k0) hv ?_)
    have small : (dd [] (ks.take i)).length + 1 < scanBound := by
      have q := dd_len_le (ks.take i) []
      rw [List.length_take, List.length_nil] at q
      unfold scanBound
      omega
    refine wpAny_setAddHashed_of (knd := kd) (s := { s1 with toks := s1.toks + 1 }) hv hsc hS1 small fun h2 sb hS2 => ?_
    have et : ks.take (i + 1) = ks.take i ++ [k0] := by
      rw [List.take_add_one, hk0] <;> rfl
    have hS3 : Heap.SetOf kd h2 S (fun k => decide (k ∈ dd [] (ks.take (i + 1)))) (dd [] (ks.take (i + 1))).length := by
      rw [et, dd_snoc]
      by_cases hin : k0 ∈ dd [] (ks.take i)
      · rw [if_pos hin]
        rw [if_pos (decide_eq_true hin)] at hS2
        have e : (fun k' => decide (k' ∈ dd [] (ks.take i)) || decide (k' = k0)) = fun k => decide (k ∈ dd [] (ks.take i)) := by
          funext k'
          by_cases q : k' = k0
          · subst q
            simp [hin]
          · simp [q]
        rw [e] at hS2
        exact hS2
      · rw [if_neg hin]
        rw [if_neg (by simpa using hin)] at hS2
        have e : (fun k' => decide (k' ∈ dd [] (ks.take i)) || decide (k' = k0)) = fun k => decide (k ∈ dd [] (ks.take i) ++ [k0]) := by
          funext k'
          simp [List.mem_append]
        rw [e] at hS2
        rw [List.length_append]
        exact hS2
    refine wpAny_pure ⟨plainId_quiet PyProof.Rows.F.plain_set_update_loop _, ih (i + 1) _ (by omega) lt (W.frame _ s1 _ _ hst1 (Nat.le_succ _) fun c hc o e => ?_) hS3 fun s3 mv3 hS4 => ?_⟩
    · rw [sb.2 c (fun z : c = S => hSf (by rw [← z]; exact hc))]
      exact e
    · refine hR s3 (Moved.trans W.gtrans ((mv.mono up).then_heap (Nat.le_succ _) fun c o hc e => ?_) mv3) hS4
      rw [sb.2 c (fun z : c = S => hc (by rw [z]; exact List.mem_cons_self))]
      exact e
end
section
variable {prog : Program} {w : World} {A : Around} {E : Value → Shared → Prop} {s : Shared} {κ : Type} [DecidableEq κ] {kd : KeyKind prog w κ}
def blankSet (led : Bool) : Obj := { cls := .type "set", dict := none, data := .set #[] 0 (.fresh 0 0 led) }
/-- set(l), l a list (isT false) or a tuple (isT true) -/
theorem call_setK {l : Addr} {its : Array Value} {ks : List κ} {Q : Value → Shared → Prop} (hA : A.handled = none) (hl : s.heap.IsList l its ∨ s.heap.IsTuple l its)
    (hlen : ks.length = its.size) (hmax : its.size < 4000) (hat : ∀ (i : Nat) (v : Value) (k : κ), its[i]? = some v → ks[i]? = some k → kd.is k v = true ∧ v.scannable = true)
    (h : ∀ (h' : Heap) (tk : Nat), Heap.SetOf kd h' s.heap.objs.size (fun k => decide (k ∈ dd [] ks)) (dd [] ks).length →
      (∀ c o, c < s.heap.objs.size → s.heap.get? c = some o → h'.get? c = some o) → Q (.ref s.heap.objs.size) { s with heap := h', toks := tk }) :
    wpAny (model prog w) A (call (.type "set") [.ref l]) Q E s := by
  obtain ⟨c, tl, hmro⟩ := PySem.F.called_set.mro
  have hmade := PySem.F.called_set.made
  have hsub := PySem.F.called_set.sub
  refine wpAny_call (codeAny_of_tree ?_)
  show wpAny _ _ (callAny (.type "set") _) _ _ _
  refine wpAny_pure ⟨Code.quiet_builtin _ (by decide +kernel), codeAny_builtin PySem.F.entry_type_call ?_⟩
  rw [Around.under_plain (weight_type_call_type "set" [.ref l] []) rfl]
  have h1 := PySem.F.called_set.notType
  have h2 := PySem.F.called_set.canCreate
  have hct := PySem.F.typeCall_set_1 (.ref l)
  repeat (any_goals (first | assumption | wp_step))
  refine codeAny_mono (code_set_new_1 (.ref l) (E := E) (Q₁ := fun b s₁ => ∃ led : Bool, b = .ref s.heap.objs.size ∧ s₁ = { s with heap := s.heap.push (blankSet led) }) fun led => ⟨led, rfl, rfl⟩) fun r s₁ hr => ?_
  cases r with
  | error e => exact hr
  | ok fl =>
    cases fl with
    | ret b =>
      obtain ⟨led, rfl, rfl⟩ := hr
      have hS : (s.heap.push (blankSet led)).get? s.heap.objs.size = some (blankSet led) := Heap.get?_push_size _ rfl
      have hT : Shared.TypeIs { s with heap := s.heap.push (blankSet led) } (.ref s.heap.objs.size) "set" := ⟨_, hS, rfl⟩
      have hli := PySem.F.called_set.init.lookup
      have hbi := PySem.F.called_set.init.bind (.ref s.heap.objs.size)
      repeat (any_goals (first | assumption | wp_step))
      refine codeAny_mono (codeAny_call_builtin (R := wants (fun r s₂ => r = .none ∧ ∃ h' tk, s₂ = { s with heap := h', toks := tk } ∧
          Heap.SetOf kd h' s.heap.objs.size (fun k => decide (k ∈ dd [] ks)) (dd [] ks).length ∧
          (∀ c o, c < s.heap.objs.size → s.heap.get? c = some o → h'.get? c = some o)) E) PySem.F.called_set.init.plain PySem.F.entry_set_init (check_set_init_1 hT ?_)) fun r₂ s₂ hr₂ => ?_
      · have fin : ∀ (s1 : Shared) (I : Addr), I ≠ s.heap.objs.size → s.heap.objs.size < I → Moved [s.heap.objs.size, I] (fun a b => a = b) { s with heap := (s.heap.push (blankSet led)) } s1 → True := fun _ _ _ _ _ => trivial
        clear fin
        rcases hl with hl | hl
        · obtain ⟨ol, hol, hcl, nl, hdl⟩ := hl
          obtain ⟨ocls, odict, odata, oslots⟩ := ol
          simp only at hcl hdl
          subst hcl; subst hdl
          have hol' : (s.heap.push (blankSet led)).get? l = some { cls := .type "list", dict := odict, data := .seq its nl, slots := oslots } := Heap.get?_push_of_some _ hol
          have hsls := PySem.F.sub_list_set
          have hslf := PySem.F.sub_list_frozenset
          have hne : (Value.type "list" == Value.type "dict") = false := by decide
          have hl1 : (s.heap.push (blankSet led)).IsList l its := ⟨_, hol', rfl, nl, rfl⟩
          unfold Builtin.«set.__init__» noKeywords Builtin.Frozenset.updateFrom
          generalize hPI : pyIter = PI
          wp_walk
          subst hPI
          refine wpAny_pyIter_list hl1 ?_
          refine wpAny_bind (wpAny_runValue ?_)
          have hlS : l < s.heap.objs.size := Heap.lt_size hol
          have h3 : A.in1.in1.in1.handled = none := by simp [hA]
          have nI : l ≠ (s.heap.push (blankSet led)).objs.size := by
            rw [Heap.size_push]; exact Nat.ne_of_lt (Nat.lt_succ_of_lt hlS)
          have nS : s.heap.objs.size ∉ [(s.heap.push (blankSet led)).objs.size, l] := by
            rw [Heap.size_push]; simp only [List.mem_cons, List.mem_singleton, List.not_mem_nil, or_false, not_or]
            exact ⟨Nat.ne_of_lt (Nat.lt_succ_self _), Nat.ne_of_gt hlS⟩
          refine turnK (kd := kd) ((Walks.list h3 _ l nI its).toS) s.heap.objs.size nS ks hlen hmax (fun i v k hv hk => hat i v k hv hk) (its.size - 0) 0 _ (by omega) (Nat.zero_le _) ⟨⟨_, Heap.get?_push_size _ rfl, rfl, rfl⟩, (hl1.push _)⟩ ?hS0 ?hR
          case hS0 =>
            have hget : ((s.heap.push (blankSet led)).push { cls := .type "list_iterator", data := .fields #[.ref l, .int 0 0] }).get? s.heap.objs.size = some (blankSet led) := Heap.get?_push_of_some _ hS
            exact PyProof.Rows.SetOf_congr ((PyProof.Rows.setObjOf_fresh (knd := kd) led).setOf hget (by unfold scanBound; omega)) (fun _ => rfl) rfl
          case hR =>
            intro s' mv hS'
            obtain ⟨h', g', d', tk', os'⟩ := s'
            obtain rfl : g' = s.gens := mv.gens
            obtain rfl : d' = s.drawn := mv.drawn
            obtain rfl : os' = s.os := mv.os
            show wpAny _ _ _ _ _ _
            refine wpAny_pure ?_
            show wpAny _ _ (ret Value.none) _ _ _
            refine wpAny_pure ⟨rfl, h', tk', rfl, hS', fun c o hc e => ?_⟩
            have n1 : c ≠ s.heap.objs.size := Nat.ne_of_lt hc
            have n2 : c ≠ (s.heap.push (blankSet led)).objs.size := by
              rw [Heap.size_push]; exact Nat.ne_of_lt (Nat.lt_succ_of_lt hc)
            exact mv.heap c o (by simp only [List.mem_cons, List.mem_singleton, List.not_mem_nil, or_false, not_or]; exact ⟨n1, n2⟩) (Heap.get?_push_of_some _ (Heap.get?_push_of_some _ e))
        · obtain ⟨ol, hol, hcl, nl, hdl⟩ := hl
          obtain ⟨ocls, odict, odata, oslots⟩ := ol
          simp only at hcl hdl
          subst hcl; subst hdl
          have hol' : (s.heap.push (blankSet led)).get? l = some { cls := .type "tuple", dict := odict, data := .seq its nl, slots := oslots } := Heap.get?_push_of_some _ hol
          have hsls := PySem.F.sub_tuple_set
          have hslf := PySem.F.sub_tuple_frozenset
          have hne : (Value.type "tuple" == Value.type "dict") = false := by decide
          have hl1 : (s.heap.push (blankSet led)).IsTuple l its := ⟨_, hol', rfl, nl, rfl⟩
          unfold Builtin.«set.__init__» noKeywords Builtin.Frozenset.updateFrom
          generalize hPI : pyIter = PI
          wp_walk
          subst hPI
          refine wpAny_pyIter_tuple hl1 ?_
          refine wpAny_bind (wpAny_runValue ?_)
          have hlS : l < s.heap.objs.size := Heap.lt_size hol
          have h3 : A.in1.in1.in1.handled = none := by simp [hA]
          have nI : l ≠ (s.heap.push (blankSet led)).objs.size := by
            rw [Heap.size_push]; exact Nat.ne_of_lt (Nat.lt_succ_of_lt hlS)
          have nS : s.heap.objs.size ∉ [(s.heap.push (blankSet led)).objs.size, l] := by
            rw [Heap.size_push]; simp only [List.mem_cons, List.mem_singleton, List.not_mem_nil, or_false, not_or]
            exact ⟨Nat.ne_of_lt (Nat.lt_succ_self _), Nat.ne_of_gt hlS⟩
          refine turnK (kd := kd) ((Walks.tuple h3 _ l nI its).toS) s.heap.objs.size nS ks hlen hmax (fun i v k hv hk => hat i v k hv hk) (its.size - 0) 0 _ (by omega) (Nat.zero_le _) ⟨⟨_, Heap.get?_push_size _ rfl, rfl, rfl⟩, (hl1.push _)⟩ ?hS0 ?hR
          case hS0 =>
            have hget : ((s.heap.push (blankSet led)).push { cls := .type "tuple_iterator", data := .fields #[.ref l, .int 0 0] }).get? s.heap.objs.size = some (blankSet led) := Heap.get?_push_of_some _ hS
            exact PyProof.Rows.SetOf_congr ((PyProof.Rows.setObjOf_fresh (knd := kd) led).setOf hget (by unfold scanBound; omega)) (fun _ => rfl) rfl
          case hR =>
            intro s' mv hS'
            obtain ⟨h', g', d', tk', os'⟩ := s'
            obtain rfl : g' = s.gens := mv.gens
            obtain rfl : d' = s.drawn := mv.drawn
            obtain rfl : os' = s.os := mv.os
            show wpAny _ _ _ _ _ _
            refine wpAny_pure ?_
            show wpAny _ _ (ret Value.none) _ _ _
            refine wpAny_pure ⟨rfl, h', tk', rfl, hS', fun c o hc e => ?_⟩
            have n1 : c ≠ s.heap.objs.size := Nat.ne_of_lt hc
            have n2 : c ≠ (s.heap.push (blankSet led)).objs.size := by
              rw [Heap.size_push]; exact Nat.ne_of_lt (Nat.lt_succ_of_lt hc)
            exact mv.heap c o (by simp only [List.mem_cons, List.mem_singleton, List.not_mem_nil, or_false, not_or]; exact ⟨n1, n2⟩) (Heap.get?_push_of_some _ (Heap.get?_push_of_some _ e))
      · cases r₂ with
        | error e => exact hr₂
        | ok fl₂ =>
          cases fl₂ with
          | ret r =>
            obtain ⟨rfl, h', tk, rfl, hS', hk'⟩ := hr₂
            repeat (any_goals (first | assumption | wp_step))
            exact h _ _ hS' hk'
          | _ => exact hr₂.elim
    | _ => exact hr.elim
end
end EvS
namespace L2
open PySem PySem.Spec PyProof.Rows EvS
section
variable {X : Cx}
/-- len(set(xs)), xs a list or a tuple of texts -/
def tLenSetS (K : PySem.W.Frag) (ta : TE) : TE := fun σ H Q => ta σ H fun x H1 => ∃ (l : Addr) (xs : List Str), x = .ref l ∧ (SqL K H1 l (xs.map V.str) ∨ SqT K H1 l (xs.map V.str)) ∧ xs.length < 4000 ∧ Q (.int ((dd [] xs).length : Nat)) H1
theorem texts_at : ∀ {xs : List Str} {us : List Value}, Vals (xs.map V.str) us → ∀ (i : Nat) (v : Value) (k : Str), us[i]? = some v → xs[i]? = some k → ∃ t, v = Value.str k t
  | [], _, _, i, v, k, _, h => by simp at h
  | x :: xs, _, .cons r t, 0, v, k, h1, h2 => by
    obtain ⟨tk, rfl⟩ := r
    simp only [List.getElem?_cons_zero, Option.some.injEq] at h1 h2
    subst h1 h2
    exact ⟨tk, rfl⟩
  | x :: xs, _, .cons r t, i + 1, v, k, h1, h2 => by
    simp only [List.getElem?_cons_succ] at h1 h2
    exact texts_at t i v k h1 h2
theorem pe_lenSetS {a : Expr} {ta : TE} {p p2 q pos : Pos} (hc : X.calm = true) (hg : Gl X "len") (hm : X.mg "len" = none) (hg2 : Gl X "set") (hm2 : X.mg "set" = none) (ha : PE X a ta)
    (na : starEach [a] X.env = (false, eval a X.env) :: starEach [] X.env := by rfl) : PE X (.Call (.Name "len" p) [.Call (.Name "set" p2) [a] [] q] [] pos) (tLenSetS X.K ta) := by
  refine ⟨fun pins s σ H Q I h => ?_⟩
  refine Call_ (ld_blt I hg hm boot_len ?_)
  refine PyProof.Rows.callWith_builtin1 (PyProof.Rows.args_cons ?_ rfl) rfl rfl
  refine Call_ (ld_blt I hg2 hm2 boot_set ?_)
  refine PyProof.Rows.callWith_type1 (PyProof.Rows.args_cons (thn (ha.run pins s σ H _ I h) fun v s1 ⟨x, H1, I1, r1, q1⟩ => PyProof.Rows.args_nil ?_) na) na rfl
  obtain ⟨l, xs, rfl, hq, hmax, q1⟩ := q1
  cases r1
  have go : ∀ (its : List Value), Vals (xs.map V.str) its → (s1.heap.IsList l its.toArray ∨ s1.heap.IsTuple l its.toArray) →
      wpAny (model X.prog X.w) X.A (call (.type "set") [.ref l]) (fun v s₂ => wpAny (model X.prog X.w) X.A (spliced (backTo pos (starEach [] X.env))) (fun vs s₃ => wpAny (model X.prog X.w) X.A (call (.builtin "len") (v :: vs)) (EP X pins σ Q) X.xe s₃) X.xe s₂) X.xe s1 := fun its r pl => by
    have hl : its.toArray.size = xs.length := by rw [List.size_toArray, ← r.length, List.length_map]
    refine call_setK (kd := PySem.strKind X.prog X.w) (ks := xs) (I1.ok.hd hc) pl hl.symm (by rw [hl]; exact hmax) (fun i v k hv hk => ?_) fun h' tk hS hk => ?_
    · obtain ⟨t, rfl⟩ := texts_at r i v k (by rw [List.getElem?_toArray] at hv; exact hv) hk
      exact ⟨strKind_is _ _ _ _, rfl⟩
    · refine PyProof.Rows.args_nil ?_
      obtain ⟨o, es, ep, t, ho, hex, hd, _, _, _, hf, hn⟩ := hS
      have I2 : Inv X pins σ H1 { s1 with heap := h', toks := tk } := I1.kept fun c o e => hk c o (Heap.lt_size e) e
      have sm := dd_len_le xs []
      rw [List.length_nil] at sm
      exact call_len_set ho hex hd hf (by rw [hn] <;> omega) ⟨.int ((dd [] xs).length : Nat), H1, I2.tok _, ⟨_, by rw [hn]⟩, q1⟩
  rcases hq with hq | hq
  · obtain ⟨its, r, pl, hz⟩ := I1.list hq
    exact go its r (.inl pl.isList)
  · obtain ⟨its, r, pl, hz⟩ := I1.tuple hq
    exact go its r (.inr pl)
end
end L2

set_option Elab.async false
set_option linter.all false
set_option maxRecDepth 100000
set_option maxHeartbeats 4000000
namespace EvS
open PySem PySem.Spec PyProof.Rows L2
section
variable {X : Cx}
def rTupK (K : PySem.W.Frag) : List V → Hp → VK → Prop := fun xs H Q => ∃ p ys, xs = [.ref p] ∧ ((SqL K H p ys ∧ ∀ l, H l = none → Q (.ref l) (upd H l (.tup ys))) ∨ (SqT K H p ys ∧ Q (.ref p) H))
theorem call_tupK : CallR X (.type "tuple") (rTupK X.K) := call_tuple_of
/-- tuple(xs), xs a list or a tuple -/
def rTupS (K : PySem.W.Frag) : List V → Hp → VK → Prop := fun xs H Q => ∃ p ys, xs = [.ref p] ∧ (SqL K H p ys ∨ SqT K H p ys) ∧ ∀ u H', Evl.Ex H H' → SqT K H' u ys → Q (.ref u) H'
theorem call_tupS : CallR X (.type "tuple") (rTupS X.K) := fun pins s σ H xs us Q I r h => by
  obtain ⟨p, ys, e, hs, q⟩ := h
  refine call_tuple_of pins s σ H xs us Q I r ⟨p, ys, e, ?_⟩
  rcases hs with hs | hs
  · exact .inl ⟨hs, fun l hl => q l _ (Evl.Ex.new hl) (Evl.st_of upd_same)⟩
  · exact .inr ⟨hs, q p H (Evl.Ex.refl H) hs⟩
def rLstK (K : PySem.W.Frag) : List V → Hp → VK → Prop := fun xs H Q => ∃ p ys, xs = [.ref p] ∧ (SqL K H p ys ∨ SqT K H p ys) ∧ ∀ l, H l = none → Q (.ref l) (upd H l (.lst ys))
theorem call_lstK : CallR X (.type "list") (rLstK X.K) := call_list_of
/-- what is never reached -/
theorem pss_any {b : List Stmt} : PSs X b (fun _ _ _ => False) := ⟨fun _ _ _ _ _ _ q => q.elim⟩
theorem ps_any {b : Stmt} : PS X b (fun _ _ _ => False) := ⟨fun _ _ _ _ _ _ q => q.elim⟩
theorem pe_any {e : Expr} : PE X e (fun _ _ _ => False) := ⟨fun _ _ _ _ _ _ q => q.elim⟩
theorem pt_any {e : Expr} : PT X e (fun _ _ _ => False) := ⟨fun _ _ _ _ _ _ q => q.elim⟩
/-- the one way or the other -/
theorem pi_or {tg it : Expr} {w1 w2 : TI} (a : PI X tg it w1) (b : PI X tg it w2) : PI X tg it (fun σ H R => w1 σ H R ∨ w2 σ H R) :=
  ⟨fun pins s σ H R I h => h.elim (fun q => a.run pins s σ H R I q) (fun q => b.run pins s σ H R I q)⟩
theorem pe_or2 {e : Expr} {t1 t2 : TE} (a : PE X e t1) (b : PE X e t2) : PE X e (fun σ H Q => t1 σ H Q ∨ t2 σ H Q) :=
  ⟨fun pins s σ H Q I h => h.elim (fun q => a.run pins s σ H Q I q) (fun q => b.run pins s σ H Q I q)⟩
end
section
variable {X : Cx}
theorem pe_gI {x : Str} {n : Int} {pos : Pos} (hg : Gl X x) (h : ∃ t, X.mg x = some (.int n t)) (hd : (x == ("__debug__" : Str)) = false := by decide) : PE X (.Name x pos) (tC (.int n)) := by
  obtain ⟨t, e⟩ := h
  exact pe_glob hg e ⟨t, rfl⟩ hd
theorem pe_gS {x : Str} {z : Str} {pos : Pos} (hg : Gl X x) (h : ∃ t, X.mg x = some (.str z t)) (hd : (x == ("__debug__" : Str)) = false := by decide) : PE X (.Name x pos) (tC (.str z)) := by
  obtain ⟨t, e⟩ := h
  exact pe_glob hg e ⟨t, rfl⟩ hd
end
/-- a op b op c op d, as a test -/
def tChain3 (r1 r2 r3 : R2) (ta tb tc td : TE) : TE := fun σ H Q => ta σ H fun x H1 => tb σ H1 fun y H2 => r1 x y H2 fun z H3 => ∃ k, z = .bl k ∧ (if k = true then tc σ H3 fun u H4 => r2 y u H4 fun z' H5 => ∃ k', z' = .bl k' ∧ (if k' = true then td σ H5 fun v H6 => r3 u v H6 Q else Q (.bl false) H5) else Q (.bl false) H3)
theorem pt_chain3 {X : Cx} {a b c d : Expr} {ta tb tc td : TE} {pos : Pos} {o1 o2 o3 : CmpOp} {r1 r2 r3 : R2} (h1 : OpR X (compareOp o1) r1) (h2 : OpR X (compareOp o2) r2) (h3 : OpR X (compareOp o3) r3) (ha : PE X a ta) (hb : PE X b tb) (hc : PE X c tc) (hd : PE X d td)
    (hm : lastMarks [o1, o2, o3] [b, c, d] = false := by with_unfolding_all rfl) : PT X (.Compare a [o1, o2, o3] [b, c, d] pos) (tTest (tChain3 r1 r2 r3 ta tb tc td)) := by
  refine ⟨fun pins s σ H Q I h => ?_⟩
  refine isTrue_chain (thn (ha.run pins s σ H _ I h) fun v1 s1 ⟨x, H1, I1, y1, q1⟩ => test_link (thn (hb.run pins s1 σ H1 _ I1 q1) fun v2 s2 ⟨y, H2, I2, y2, q2⟩ => thn (h1 pins s2 σ H2 x y v1 v2 _ I2 y1 y2 q2) fun v3 s3 ⟨z, H3, I3, y3, k, e, q3⟩ => ?_)) hm
  subst e
  cases y3
  refine wpAny_truthy_bool ?_
  cases k with
  | false =>
    obtain ⟨k', e', q'⟩ := q3
    cases e'
    exact ite_ff ⟨H3, I3, q'⟩
  | true =>
    refine ite_tt (test_link (thn (hc.run pins s3 σ H3 _ I3 q3) fun v4 s4 ⟨u, H4, I4, y4, q4⟩ => thn (h2 pins s4 σ H4 y u v2 v4 _ I4 y2 y4 q4) fun v5 s5 ⟨z', H5, I5, y5, k', e', q5⟩ => ?_))
    subst e'
    cases y5
    refine wpAny_truthy_bool ?_
    cases k' with
    | false =>
      obtain ⟨k2, e2, q2'⟩ := q5
      cases e2
      exact ite_ff ⟨H5, I5, q2'⟩
    | true =>
      refine ite_tt (test_last (thn (hd.run pins s5 σ H5 _ I5 q5) fun v6 s6 ⟨v, H6, I6, y6, q6⟩ => thn (h3 pins s6 σ H6 u v v4 v6 _ I6 y4 y6 q6) fun v7 s7 ⟨z2, H7, I7, y7, k2, e2, q7⟩ => ?_))
      subst e2
      cases y7
      exact wpAny_truthy_bool ⟨H7, I7, q7⟩
theorem for_sign {x : Str} {g : TG} {tb : TS} {D : Ends} {σ : L2.St} {H : Hp} (Pv : Nat → L2.St → Hp → Prop) (h0 : Pv 0 σ H)
    (hs : ∀ i c σ H, x.cps[i]? = some c → Pv i σ H → g (.str ⟨#[c]⟩) σ H fun σ2 H2 => tb { D with nx := Pv (i + 1), ct := Pv (i + 1), bk := D.nx } σ2 H2) (hd : ∀ σ H, Pv x.cps.size σ H → D.nx σ H) :
    ∃ W : Nat → Nat → L2.St → Hp → Prop, (∃ m, W 0 m σ H) ∧ ∀ i m σ H, W i m σ H → ((Its x).stop i H ∧ D.nx σ H) ∨
      ((Its x).go i H ∧ ∃ N : L2.St → Hp → Prop, (∀ σ' H', N σ' H' → ∃ m', m' < m ∧ W (i + 1) m' σ' H') ∧ ∀ v H', (Its x).yld i H v H' → g v σ H' fun σ2 H2 => tb { D with nx := N, ct := N, bk := D.nx } σ2 H2) := by
  refine ⟨fun i m σ H => m = x.cps.size - i ∧ i ≤ x.cps.size ∧ Pv i σ H, ⟨x.cps.size, rfl, Nat.zero_le _, h0⟩, ?_⟩
  rintro i m σ H ⟨rfl, hi, p⟩
  by_cases lt : i < x.cps.size
  · refine .inr ⟨lt, Pv (i + 1), fun σ' H' p' => ⟨x.cps.size - (i + 1), by omega, rfl, lt, p'⟩, fun v H' y => ?_⟩
    obtain ⟨rfl, c, hc, rfl⟩ := y
    exact hs i c σ _ hc p
  · obtain rfl : i = x.cps.size := by omega
    exact .inl ⟨Nat.le_refl _, hd σ H p⟩
theorem lc_sign {x : Str} {g : TG} {tt : TT} {te : TE} {vs : List Nat} {σ : L2.St} {H1 : Hp} {D : Addr} {Qd : Hp → Prop} (Pv : Nat → Hp → Prop) (h0 : Pv 0 (upd H1 D (.lst [])))
    (hs : ∀ i c H, x.cps[i]? = some c → Pv i H → g (.str ⟨#[c]⟩) (wipe σ vs) H fun σ2 H2 => wipe σ2 vs = wipe σ vs ∧ tt σ2 H2 fun b H3 =>
      if b = true then te σ2 H3 fun y H4 => ∃ acc, H4 D = some (.lst acc) ∧ acc.length < sizeLine ∧ Pv (i + 1) (upd H4 D (.lst (acc ++ [y]))) else Pv (i + 1) H3) (hd : ∀ H, Pv x.cps.size H → Qd H) :
    ∃ W : Nat → Nat → Hp → Prop, (∃ m, W 0 m (upd H1 D (.lst []))) ∧ ∀ i m H, W i m H → ((Its x).stop i H ∧ Qd H) ∨
      ((Its x).go i H ∧ ∃ Nx : Hp → Prop, (∀ H', Nx H' → ∃ m', m' < m ∧ W (i + 1) m' H') ∧ ∀ v H', (Its x).yld i H v H' → g v (wipe σ vs) H' fun σ2 H2 => wipe σ2 vs = wipe σ vs ∧ tt σ2 H2 fun b H3 =>
        if b = true then te σ2 H3 fun y H4 => ∃ acc, H4 D = some (.lst acc) ∧ acc.length < sizeLine ∧ Nx (upd H4 D (.lst (acc ++ [y]))) else Nx H3) := by
  refine ⟨fun i m H => m = x.cps.size - i ∧ i ≤ x.cps.size ∧ Pv i H, ⟨x.cps.size, rfl, Nat.zero_le _, h0⟩, ?_⟩
  rintro i m H ⟨rfl, hi, p⟩
  by_cases lt : i < x.cps.size
  · refine .inr ⟨lt, Pv (i + 1), fun H' p' => ⟨x.cps.size - (i + 1), by omega, rfl, lt, p'⟩, fun v H' y => ?_⟩
    obtain ⟨rfl, c, hc, rfl⟩ := y
    exact hs i c _ hc p
  · obtain rfl : i = x.cps.size := by omega
    exact .inl ⟨Nat.le_refl _, hd H p⟩
/-- the same of a comprehension without a test -/
theorem lcY_sign {x : Str} {g : TG} {te : TE} {vs : List Nat} {σ : L2.St} {H1 : Hp} {D : Addr} {Qd : Hp → Prop} (Pv : Nat → Hp → Prop) (h0 : Pv 0 (upd H1 D (.lst [])))
    (hs : ∀ i c H, x.cps[i]? = some c → Pv i H → g (.str ⟨#[c]⟩) (wipe σ vs) H fun σ2 H2 => wipe σ2 vs = wipe σ vs ∧ te σ2 H2 fun y H4 => ∃ acc, H4 D = some (.lst acc) ∧ acc.length < sizeLine ∧ Pv (i + 1) (upd H4 D (.lst (acc ++ [y])))) (hd : ∀ H, Pv x.cps.size H → Qd H) :
    ∃ W : Nat → Nat → Hp → Prop, (∃ m, W 0 m (upd H1 D (.lst []))) ∧ ∀ i m H, W i m H → ((Its x).stop i H ∧ Qd H) ∨
      ((Its x).go i H ∧ ∃ Nx : Hp → Prop, (∀ H', Nx H' → ∃ m', m' < m ∧ W (i + 1) m' H') ∧ ∀ v H', (Its x).yld i H v H' → g v (wipe σ vs) H' fun σ2 H2 => wipe σ2 vs = wipe σ vs ∧ tYes σ2 H2 fun b H3 =>
        if b = true then te σ2 H3 fun y H4 => ∃ acc, H4 D = some (.lst acc) ∧ acc.length < sizeLine ∧ Nx (upd H4 D (.lst (acc ++ [y]))) else Nx H3) :=
  lc_sign Pv h0 (fun i c H hc p => hs i c H hc p) hd
theorem lcY_list {K : PySem.W.Frag} {a : Addr} {xs : List V} {g : TG} {te : TE} {vs : List Nat} {σ : L2.St} {H1 : Hp} {D : Addr} {Qd : Hp → Prop} (Pv : Nat → Hp → Prop) (h0 : Pv 0 (upd H1 D (.lst []))) (hl : ∀ i H, i ≤ xs.length → Pv i H → SqL K H a xs)
    (hs : ∀ i x H, xs[i]? = some x → Pv i H → g x (wipe σ vs) H fun σ2 H2 => wipe σ2 vs = wipe σ vs ∧ te σ2 H2 fun y H4 => ∃ acc, H4 D = some (.lst acc) ∧ acc.length < sizeLine ∧ Pv (i + 1) (upd H4 D (.lst (acc ++ [y])))) (hd : ∀ H, Pv xs.length H → Qd H) :
    ∃ W : Nat → Nat → Hp → Prop, (∃ m, W 0 m (upd H1 D (.lst []))) ∧ ∀ i m H, W i m H → ((Itl K a).stop i H ∧ Qd H) ∨
      ((Itl K a).go i H ∧ ∃ Nx : Hp → Prop, (∀ H', Nx H' → ∃ m', m' < m ∧ W (i + 1) m' H') ∧ ∀ x H', (Itl K a).yld i H x H' → g x (wipe σ vs) H' fun σ2 H2 => wipe σ2 vs = wipe σ vs ∧ tYes σ2 H2 fun b H3 =>
        if b = true then te σ2 H3 fun y H4 => ∃ acc, H4 D = some (.lst acc) ∧ acc.length < sizeLine ∧ Nx (upd H4 D (.lst (acc ++ [y]))) else Nx H3) :=
  lc_list Pv h0 hl (fun i c H hc p => hs i c H hc p) hd
theorem lcY_tup {K : PySem.W.Frag} {a : Addr} {xs : List V} {g : TG} {te : TE} {vs : List Nat} {σ : L2.St} {H1 : Hp} {D : Addr} {Qd : Hp → Prop} (Pv : Nat → Hp → Prop) (h0 : Pv 0 (upd H1 D (.lst []))) (hl : ∀ i H, i ≤ xs.length → Pv i H → SqT K H a xs)
    (hs : ∀ i x H, xs[i]? = some x → Pv i H → g x (wipe σ vs) H fun σ2 H2 => wipe σ2 vs = wipe σ vs ∧ te σ2 H2 fun y H4 => ∃ acc, H4 D = some (.lst acc) ∧ acc.length < sizeLine ∧ Pv (i + 1) (upd H4 D (.lst (acc ++ [y])))) (hd : ∀ H, Pv xs.length H → Qd H) :
    ∃ W : Nat → Nat → Hp → Prop, (∃ m, W 0 m (upd H1 D (.lst []))) ∧ ∀ i m H, W i m H → ((Itt K a).stop i H ∧ Qd H) ∨
      ((Itt K a).go i H ∧ ∃ Nx : Hp → Prop, (∀ H', Nx H' → ∃ m', m' < m ∧ W (i + 1) m' H') ∧ ∀ x H', (Itt K a).yld i H x H' → g x (wipe σ vs) H' fun σ2 H2 => wipe σ2 vs = wipe σ vs ∧ tYes σ2 H2 fun b H3 =>
        if b = true then te σ2 H3 fun y H4 => ∃ acc, H4 D = some (.lst acc) ∧ acc.length < sizeLine ∧ Nx (upd H4 D (.lst (acc ++ [y]))) else Nx H3) :=
  lc_tup Pv h0 hl (fun i c H hc p => hs i c H hc p) hd
theorem exc_self {K : PySem.W.Frag} {S : Addr} (h1 : PySem.W.subIn K (.ref S) (.type "BaseException") = some true) (h2 : PySem.W.isClsIn K S = true) (h3 : PySem.W.typeIn K (.ref S) = some (.type "type")) (h4 : PySem.W.subIn K (.ref S) (.ref S) = some true) :
    PySem.W.exmOne K (.ref S) (.ref S) = some true := by
  have e1 : (PySem.W.subIn K (.ref S) (.type "BaseException") == some true) = true := by rw [h1] <;> rfl
  have e2 : ((PySem.W.clsIn K S).isSome && PySem.W.typeIn K (.ref S) == some (.type "type")) = true := by
    have h2' : (PySem.W.clsIn K S).isSome = true := h2
    rw [h2', h3] <;> rfl
  show (if (PySem.W.subIn K (.ref S) (.type "BaseException") == some true) = true then (if ((PySem.W.clsIn K S).isSome && PySem.W.typeIn K (.ref S) == some (.type "type")) = true then PySem.W.subIn K (.ref S) (.ref S) else none) else none) = some true
  rw [if_pos e1, if_pos e2]
  exact h4
end EvS
namespace EvS
open PySem PySem.Spec PyProof.Rows L2
theorem r65 {k : Nat} {A : Around} (r : Room k A) : A.units + 65 < cLine := by have := r.un; omega
theorem blkOk_nest {X : Cx} {s : Shared} {H : Hp} {scope inner : Scope} {C : Addr} {cl : List (Str × Addr)} {fp : List Addr} {own : List (Str × Nat)} {N : List Str} {sc : Scope} (hN : X.N = N) (hs : X.env.scope = sc) (h : blkC N (relS scope sc) inner own = true) :
    BlkOk (X.blk s H scope (compEnvC scope cl C X.env) fp).N (X.blk s H scope (compEnvC scope cl C X.env) fp).env.scope inner own := by
  subst hN hs
  exact blkOk_by h
end EvS

set_option Elab.async false
set_option linter.all false
set_option maxRecDepth 100000
set_option maxHeartbeats 4000000
/-! len(set(xs)), xs a list of different tuples of texts (fewer than 64) -/
namespace TxSet
open PySem PySem.Spec PyProof.Rows L2
section
variable {P : Program} {w : World} {A : Around} {E : Value → Shared → Prop} {s : Shared}
abbrev TwAt (P : Program) (w : World) (h : Heap) (k : List Str) (b : Addr) : Prop := IsTupleKey (PySem.strKind P w) h k b
abbrev hs (P : Program) (w : World) (k : List Str) : Int := tupleKeyHash (PySem.strKind P w) k
abbrev go0 (t : SetTable) (h : Int) : SetTable.Probe := runAt t.mask (SetTable.bits h % (t.mask + 1)) (SetTable.bits h)
theorem words_of {k : List Str} {vs : List Value} (h : ItemsAre (PySem.strKind P w) k vs) : ∀ v ∈ vs, ∃ z t, v = Value.str z t := by
  induction h with
  | nil => exact fun v hv => by cases hv
  | @cons k0 u ks us h1 _ ih =>
    intro v hv
    cases hv with
    | head =>
      obtain ⟨t, e⟩ := Value.isStrOf_shape h1
      exact ⟨k0, t, e⟩
    | tail _ q => exact ih v q
theorem noClass (n : Nat) (z : Str) (t : Tok) : ofAClassStatement n (.str z t) = pure false := by cases n <;> rfl
theorem byVal (n : Nat) (z : Str) (t : Tok) : hashByValue n (.str z t) = pure false := by cases n <;> rfl
theorem noClassT {k : List Str} {b : Addr} {Q : Bool → Shared → Prop} (hk : TwAt P w s.heap k b) (q : Q false s) : wpAny (model P w) A (ofAClassStatement 8 (.ref b)) Q E s := by
  have ty := hk.typeIs
  obtain ⟨o, its, n, ho, _, hd, hi⟩ := hk
  have all := words_of hi
  unfold ofAClassStatement
  refine wpAny_bind (wpAny_typeOf ty ?_)
  dsimp only
  simp only [show (("tuple" : String) == "tuple") = true by decide, if_true, Bool.not_true, Bool.false_eq_true, if_false]
  try refine wpAny_bind (wpAny_pure ?_)
  try simp only [Bool.not_true, Bool.false_eq_true, if_false]
  refine wpAny_bind (m := seqItems? (.ref b)) (wpAny_seqItems ho hd ?_)
  dsimp only
  refine wpAny_bind (m := forIn its _ _) ?_
  rw [← Array.forIn_toList]
  refine wpAny_forIn_list _ (fun l r s' => (∀ v ∈ l, ∃ z t, v = Value.str z t) ∧ r.1 = none ∧ s' = s) _ ?_ ?_ _ _ ⟨all, rfl, rfl⟩
  · rintro v l r s' ⟨hl, hr, rfl⟩
    obtain ⟨z, t, rfl⟩ := hl v List.mem_cons_self
    rw [noClass]
    refine wpAny_bind (wpAny_pure ?_)
    simp only [Bool.false_eq_true, if_false]
    exact wpAny_pure ⟨fun u hu => hl u (List.mem_cons_of_mem _ hu), rfl, rfl⟩
  · rintro ⟨r1, r2⟩ s' ⟨_, hr, rfl⟩
    simp only at hr
    subst hr
    exact wpAny_pure q
theorem byValT {k : List Str} {b : Addr} {Q : Bool → Shared → Prop} (hk : TwAt P w s.heap k b) (q : ∀ v, Q v s) : wpAny (model P w) A (hashByValue 8 (.ref b)) Q E s := by
  have ty := hk.typeIs
  obtain ⟨o, its, n, ho, _, hd, hi⟩ := hk
  have all := words_of hi
  unfold hashByValue
  refine wpAny_bind (wpAny_specialOf ty F.slot_tuple_hash.lookup ?_)
  refine wpAny_bind (m := seqItems? (.ref b)) (wpAny_seqItems ho hd ?_)
  refine wpAny_bind (m := forIn its _ _) ?_
  rw [← Array.forIn_toList]
  refine wpAny_forIn_list _ (fun l r s' => (∀ v ∈ l, ∃ z t, v = Value.str z t) ∧ r.1 = none ∧ s' = s) _ ?_ ?_ _ _ ⟨all, rfl, rfl⟩
  · rintro v l r s' ⟨hl, hr, rfl⟩
    obtain ⟨z, t, rfl⟩ := hl v List.mem_cons_self
    rw [byVal]
    refine wpAny_bind (wpAny_pure ?_)
    simp only [Bool.not_false, if_true]
    exact wpAny_pure (wpAny_pure (q false))
  · rintro ⟨r1, r2⟩ s' ⟨_, hr, rfl⟩
    simp only at hr
    subst hr
    exact wpAny_pure (q true)
/-- nothing of the table is shown -/
theorem hidden {k : List Str} {b : Addr} {Q : Bool → Shared → Prop} (hk : TwAt P w s.heap k b) {ys : List Value} (hy : ∀ y ∈ ys, ∃ c k2, y = Value.ref c ∧ TwAt P w s.heap k2 c) (q : Q false s) :
    wpAny (model P w) A (searchCouldBeSeen (.ref b) ys) Q E s := by
  unfold searchCouldBeSeen
  refine wpAny_bind (wpAny_forIn_list _ (fun l r s' => (∀ y ∈ l, ∃ c k2, y = Value.ref c ∧ TwAt P w s.heap k2 c) ∧ r.1 = none ∧ s' = s) _ ?_ ?_ _ _ ⟨hy, rfl, rfl⟩)
  · rintro v l r s' ⟨hl, hr, rfl⟩
    obtain ⟨c, k2, rfl, hc⟩ := hl v List.mem_cons_self
    have more := fun u hu => hl u (List.mem_cons_of_mem _ hu)
    dsimp only
    by_cases e : (b == c || (carriedByValue (.ref b) && carriedByValue (.ref c))) = true
    · exact wp_if_pos e (wpAny_pure ⟨more, rfl, rfl⟩)
    · refine wp_if_neg e (wpAny_bind (wpAny_eqIsQuiet_tuple hk ?_))
      simp only [Bool.not_true, Bool.false_eq_true, if_false]
      refine wpAny_bind (wpAny_eqIsQuiet_tuple hc ?_)
      simp only [Bool.not_true, Bool.false_eq_true, if_false]
      refine wpAny_bind (noClassT hk ?_)
      simp only [Bool.false_eq_true, if_false]
      refine wpAny_bind (noClassT hc ?_)
      simp only [Bool.false_eq_true, if_false]
      exact wpAny_pure ⟨more, rfl, rfl⟩
  · rintro ⟨r1, r2⟩ s' ⟨_, hr, rfl⟩
    simp only at hr
    subst hr
    exact wpAny_pure q
/-! ### the set as it grows -/
def cells (P : Program) (w : World) (L : List (Addr × List Str)) : List (Int × Value) := L.map fun p => (hs P w p.2, Value.ref p.1)
theorem cells_len (L : List (Addr × List Str)) : (cells P w L).length = L.length := List.length_map ..
structure Bag (P : Program) (w : World) (h : Heap) (a : Addr) (L : List (Addr × List Str)) (es : Array (Int × Value)) (ep : Nat) (t : SetTable) : Prop where
  obj : ∃ o, h.get? a = some o ∧ o.ExactSet ∧ o.data = .set es ep t
  cel : es.toList = cells P w L
  tab : TabOk t (L.map fun p => hs P w p.2)
  key : ∀ p ∈ L, TwAt P w h p.2 p.1
  lrn : w.params.followText "set-order" = true ∨ t.led = true
  rom : L.length * 5 < t.mask * 3
  sml : L.length < 64
variable {a : Addr} {L : List (Addr × List Str)} {es : Array (Int × Value)} {ep : Nat} {t : SetTable}
theorem Bag.size (B : Bag P w s.heap a L es ep t) : es.size = L.length := by
  rw [← Array.length_toList, B.cel, cells_len]
theorem Bag.places (B : Bag P w s.heap a L es ep t) : t.place.toList.length = L.length := by
  rw [Array.length_toList, B.tab.sz, List.length_map]
theorem Bag.fit (B : Bag P w s.heap a L es ep t) : t.fits es.size = true := by
  have q1 := B.places
  have q2 := B.size
  have q3 := B.rom
  rw [Array.length_toList] at q1
  unfold SetTable.fits SetTable.fill
  rw [B.tab.dm, Bool.and_eq_true, beq_iff_eq, decide_eq_true_eq]
  constructor
  · omega
  · show t.place.size + 0 ≤ t.mask
    omega
theorem Bag.cell (B : Bag P w s.heap a L es ep t) {i : Nat} {p : Addr × List Str} (h : L[i]? = some p) : es[i]? = some (hs P w p.2, Value.ref p.1) := by
  rw [← Array.getElem?_toList, B.cel]
  unfold cells
  rw [List.getElem?_map, h]
  rfl
theorem nth_plain (m : Nat) : ∀ (n : Nat) (p : SetTable.Probe), p.dummy = none → (nth m p n).dummy = none
  | 0, _, h => h
  | n + 1, p, h => by
    refine nth_plain m n (adv m p) ?_
    unfold adv
    split <;> exact h
/-- the search for what isn't there ends at the first empty slot of its way -/
theorem seek (B : Bag P w s.heap a L es ep t) {x : Addr} {k : List Str} (hx : TwAt P w s.heap k x) (hu : A.units < cLine) (away : ∀ p ∈ L, p.2 ≠ k) {K : Nat} (hK : K < 10 * SetTable.turns t.mask)
    (hfree : way t.mask (hs P w k) K ∉ t.place.toList) (hbusy : ∀ c, c < K → way t.mask (hs P w k) c ∈ t.place.toList) {Q : SetFound → Shared → Prop} (q : Q (.free (way t.mask (hs P w k) K) false) s) :
    ∀ (f c : Nat) (st : Option SetTable.Probe), st.getD (t.probeStart (hs P w k)) = nth t.mask (go0 t (hs P w k)) c → c ≤ K → K - c < f → wpAny (model P w) A (setSearchFrom a (.ref x) (hs P w k) true f st) Q E s := by
  intro f
  induction f with
  | zero => intro c st _ _ h; exact absurd h (Nat.not_lt_zero _)
  | succ f ih =>
    intro c st hst hc hf
    obtain ⟨o, ho, hex, hd⟩ := B.obj
    rw [setSearchFrom_succ]
    refine wpAny_bind (wpAny_setState_of ho hd B.fit ?_)
    dsimp only
    refine wp_if_neg (by unfold SetTable.gaveWay; rw [mask_odd B.tab.mok]; decide) ?_
    try refine wpAny_bind (wpAny_pure ?_)
    have shift : ∀ n, nth t.mask (nth t.mask (go0 t (hs P w k)) c) n = nth t.mask (go0 t (hs P w k)) (c + n) := fun n => (nth_add t.mask c _ n).symm
    have at_ : ∀ n, (nth t.mask (nth t.mask (go0 t (hs P w k)) c) n).j = way t.mask (hs P w k) (c + n) := fun n => congrArg SetTable.Probe.j (shift n)
    have back : c + (K - c) = K := by omega
    rcases go_spec t B.tab.ris B.tab.dm (fun i => (es[i]?.map (·.1)).getD 0) (hs P w k) (10 * SetTable.turns t.mask) (K - c) _ (nth_plain t.mask c _ rfl) (by omega) (fun n hn => by rw [at_]; exact hbusy _ (by omega)) (by rw [at_, back]; exact hfree) with ⟨n, i, hn, hi, _, _, e⟩ | ⟨_, e⟩
    · have e' : t.probe (fun i => (es[i]?.map (·.1)).getD 0) (hs P w k) (st.getD (t.probeStart (hs P w k))) = some (.candidate (way t.mask (hs P w k) (c + n)) i (nth t.mask (go0 t (hs P w k)) (c + (n + 1)))) := by
        rw [hst, ← at_, ← shift]
        exact e
      rw [e']
      dsimp only
      rw [at_] at hi
      have il : i < L.length := by
        rw [← B.places]
        exact (List.getElem?_eq_some_iff.mp hi).1
      obtain ⟨p, hp⟩ : ∃ p, L[i]? = some p := ⟨_, List.getElem?_eq_getElem il⟩
      have pin := List.mem_of_getElem? hp
      have other := away p pin
      have go : wpAny (model P w) A (searchRest a (.ref x) (hs P w k) true f es t (way t.mask (hs P w k) (c + n)) i (nth t.mask (go0 t (hs P w k)) (c + (n + 1)))) Q E s := by
        unfold searchRest
        rw [B.cell hp]
        dsimp only
        refine wpAny_bind (wpAny_holding (wpAny_eqBool_tuple hu (B.key p pin) hx ?_))
        refine wpAny_bind (wpAny_setState_of ho hd B.fit ?_)
        dsimp only
        refine wp_if_neg (by simp [other]) ?_
        try refine wpAny_bind (wpAny_pure ?_)
        rw [sameMem]
        dsimp only
        simp only [if_true, slot_live B.tab.ris hi, B.cell hp]
        refine wpAny_bind (wpAny_isSame_ref_self (wpAny_bind (wpAny_pure ?_)))
        simp only [if_true]
        refine wp_if_neg (by simp [other]) ?_
        exact ih (c + (n + 1)) _ rfl (by omega) (by omega)
      by_cases hl : t.led = true
      · refine wp_if_neg (by simp [hl]) ?_
        try refine wpAny_bind (wpAny_pure ?_)
        exact go
      · refine wp_if_pos (by simp [hl]) (wpAny_bind (hidden hx (fun y hy => ?_) ?_))
        · obtain ⟨d, hd1, hd2⟩ := List.mem_map.mp hy
          have m1 : d ∈ es.toList := by
            have : d ∈ es ∧ d.1 = hs P w k := by simpa using hd1
            simpa using this.1
          rw [B.cel] at m1
          obtain ⟨p2, m2, e2⟩ := List.mem_map.mp m1
          exact ⟨p2.1, p2.2, by rw [← hd2, ← e2], B.key p2 m2⟩
        · refine wp_if_neg (by decide) ?_
          try refine wpAny_bind (wpAny_pure ?_)
          exact go
    · have e' : t.probe (fun i => (es[i]?.map (·.1)).getD 0) (hs P w k) (st.getD (t.probeStart (hs P w k))) = some (.empty (way t.mask (hs P w k) K) none) := by
        have z := at_ (K - c)
        rw [back] at z
        rw [hst, ← z]
        exact e
      rw [e']
      dsimp only
      exact wpAny_pure q
/-! ### the set grows by one -/
theorem still {h h' : Heap} {k : List Str} {c : Addr} {o : Obj} (hk : TwAt P w h k c) (ho : h.get? a = some o) (hd : o.data = .set es ep t) (sb : Heap.SameBut a h h') : TwAt P w h' k c := by
  obtain ⟨u, its, n, hu, hc, hi, hw⟩ := hk
  refine ⟨u, its, n, ?_, hc, hi, hw⟩
  rw [sb.2 c fun z => ?_]
  · exact hu
  · rw [z, ho] at hu
    rw [← Option.some.inj hu, hd] at hi
    cases hi
theorem range_get {α : Type} (L : List α) : ∀ n, n ≤ L.length → (List.range n).filterMap (fun i => L[i]?) = L.take n
  | 0, _ => rfl
  | n + 1, h => by
    have lt : n < L.length := h
    rw [List.range_succ, List.filterMap_append, range_get L n (Nat.le_of_lt lt), List.take_add_one, List.getElem?_eq_getElem lt]
    simp [List.getElem?_eq_getElem lt]
theorem chosen (hc : es.toList = cells P w L) : ∀ l : List Nat, (∀ i ∈ l, i < L.length) → l.filterMap (fun i => es[i]?) = cells P w (l.filterMap fun i => L[i]?) ∧ (l.filterMap fun i => L[i]?).map (fun p => hs P w p.2) = l.map fun i => (es.map (·.1)).getD i 0
  | [], _ => ⟨rfl, rfl⟩
  | i :: l, h => by
    obtain ⟨e1, e2⟩ := chosen hc l fun j hj => h j (List.mem_cons_of_mem _ hj)
    have il := h i List.mem_cons_self
    have gL : L[i]? = some L[i] := List.getElem?_eq_getElem il
    have gE : es[i]? = some (hs P w (L[i]).2, Value.ref (L[i]).1) := by
      rw [← Array.getElem?_toList, hc]
      unfold cells
      rw [List.getElem?_map, gL]
      rfl
    have gD : (es.map (·.1)).getD i 0 = hs P w (L[i]).2 := by
      have z : (es.map (·.1))[i]? = some (hs P w (L[i]).2) := by
        rw [Array.getElem?_map, gE]
        rfl
      rw [Array.getD_eq_getD_getElem?, z]
      rfl
    rw [List.filterMap_cons_some gE, List.filterMap_cons_some gL, e1, List.map_cons, List.map_cons, e2, gD]
    exact ⟨rfl, rfl⟩
/-- the table is laid anew, larger -/
theorem relaid_new {o : Obj} (ho : s.heap.get? a = some o) (hex : o.ExactSet) (hd : o.data = .set es ep t) (hc : es.toList = cells P w L) (hp : t.place.size = es.size) (hdm : t.dummies = #[]) (hfl : es.size ≤ t.mask)
    (key : ∀ p ∈ L, TwAt P w s.heap p.2 p.1) (ld : w.params.followText "set-order" = true ∨ t.led = true) (few : L.length < 64) {wanted M : Nat} (hw : SetTable.sizeAbove wanted - 1 = M) (hM : MaskOk M) (hw2 : SetTable.sizeAbove wanted ≤ 128)
    (hn : L.length * 5 < M * 3) {Q : Unit → Shared → Prop} (q : ∀ h' L' es' ep' t', Heap.SameBut a s.heap h' → Bag P w h' a L' es' ep' t' → L'.Perm L → Q () { s with heap := h' }) : wpAny (model P w) A (setRelay a wanted) Q E s := by
  have hl : es.size = L.length := by rw [← Array.length_toList, hc, cells_len]
  have hfit : t.fits es.size = true := by
    unfold SetTable.fits SetTable.fill
    rw [hdm, Bool.and_eq_true, beq_iff_eq, decide_eq_true_eq]
    exact ⟨hp, by show t.place.size + 0 ≤ t.mask; omega⟩
  have hsz : (es.map (·.1)).size = L.length := by rw [Array.size_map, hl]
  obtain ⟨t', ord, e, pm, T, em, el, _, _⟩ := relaid_ok t (hs := es.map (·.1)) (wanted := wanted) hw hM (by rw [hsz]; omega)
  rw [hsz] at pm
  obtain ⟨c1, c2⟩ := chosen (P := P) (w := w) (L := L) hc ord.toList fun i hi => List.mem_range.mp (pm.mem_iff.mp hi)
  have pL : (ord.toList.filterMap fun i => L[i]?).Perm L := by
    have z := pm.filterMap fun i => L[i]?
    rw [range_get L L.length (Nat.le_refl _), List.take_length] at z
    exact z
  generalize ord.toList.filterMap (fun i => L[i]?) = L2 at c1 c2 pL
  rw [← c2] at T
  have cl : (ord.filterMap (es[·]?)).toList = cells P w L2 := by first | (rw [Array.toList_filterMap]; exact c1) | simpa using c1
  have sz2 : (ord.filterMap (es[·]?)).size = es.size := by rw [← Array.length_toList, cl, cells_len, pL.length_eq, hl]
  rw [setRelay_eq]
  refine wpAny_bind (wpAny_setState_of ho hd hfit ?_)
  dsimp only
  refine wp_if_neg (by rw [sizeLine_eq]; omega) ?_
  try refine wpAny_bind (wpAny_pure ?_)
  rw [e]
  dsimp only
  refine wpAny_bind ?_
  refine wp_if_neg (by rw [sz2]; simp) ?_
  try refine wpAny_bind (wpAny_pure ?_)
  refine wpAny_pure ?_
  dsimp only
  refine wpAny_storeSet_of ho hd ?_ (by rw [sz2, hl, sizeLine_eq]; omega)
  have sb : Heap.SameBut a s.heap (s.heap.update a (Obj.putSet (ord.filterMap (es[·]?)) t')) := Heap.SameBut.update ..
  refine q _ L2 (ord.filterMap (es[·]?)) (ep + 1) t' sb ⟨⟨_, store_at ho hd, ⟨hex.1, hex.2.1, hex.2.2⟩, rfl⟩, cl, T, fun p hp => still (key p (pL.mem_iff.mp hp)) ho hd sb, by rw [el]; exact ld, by rw [pL.length_eq, em]; exact hn, by rw [pL.length_eq]; exact few⟩ pL
theorem add_new (B : Bag P w s.heap a L es ep t) {x : Addr} {k : List Str} (hx : TwAt P w s.heap k x) (hu : A.units < cLine) (away : ∀ p ∈ L, p.2 ≠ k) (few : L.length + 1 < 64) {Q : Bool → Shared → Prop}
    (q : ∀ h' L' es' ep' t', Heap.SameBut a s.heap h' → Bag P w h' a L' es' ep' t' → L'.Perm ((x, k) :: L) → Q true { s with heap := h' }) : wpAny (model P w) A (setAddHashed a (.ref x) (hs P w k)) Q E s := by
  obtain ⟨o, ho, hex, hd⟩ := B.obj
  have hl := B.size
  have rom := B.rom
  have lenT : (L.map fun p => hs P w p.2).length = L.length := List.length_map ..
  obtain ⟨K, hK, hfree, hbusy⟩ := B.tab.first (by rw [lenT]; omega) (hs P w k)
  have big : K < 100000 := by
    have z : 10 * SetTable.turns t.mask ≤ 1420 := by
      unfold SetTable.turns
      rcases B.tab.mok with e | e | e <;> omega
    omega
  unfold setAddHashed
  refine wpAny_holding ?_
  rw [show (100000 : Nat) = 99999 + 1 from rfl, setAddHashedIn_succ]
  refine wpAny_bind (wpAny_setState_of ho hd B.fit ?_)
  dsimp only
  refine wp_if_neg (by simp [byScan, Value.scannable]) ?_
  try refine wpAny_bind (wpAny_pure ?_)
  refine wpAny_bind (m := setSearch a (.ref x) (hs P w k) true) ?_
  unfold setSearch
  refine seek B hx hu away hK hfree hbusy ?_ 100000 0 none rfl (Nat.zero_le _) (by omega)
  dsimp only
  refine wpAny_bind (wpAny_setState_of ho hd B.fit ?_)
  dsimp only
  obtain ⟨g1, g2, g3, g4, g5, _, _, _, g9⟩ := B.tab.put hfree hbusy
  generalize hpt : t.put (way t.mask (hs P w k) K) = pt at g1 g3 g4 g5 g9 ⊢
  obtain ⟨t1, p⟩ := pt
  dsimp only at g1 g3 g4 g5 g9 ⊢
  subst g1
  generalize SetTable.below t.place (way t.mask (hs P w k) K) = p at g2 g3 ⊢
  have pm : (L.take p ++ (x, k) :: L.drop p).Perm ((x, k) :: L) := put_perm L p (x, k)
  have cl : (SetTable.insertAt es p (hs P w k, Value.ref x)).toList = cells P w (L.take p ++ (x, k) :: L.drop p) := by
    rw [SetTable.toList_insertAt, B.cel]
    unfold cells
    rw [List.map_append, List.map_cons, List.map_take, List.map_drop]
  have ht : (L.take p ++ (x, k) :: L.drop p).map (fun p => hs P w p.2) = (L.map fun p => hs P w p.2).take p ++ hs P w k :: (L.map fun p => hs P w p.2).drop p := by
    rw [List.map_append, List.map_cons, List.map_take, List.map_drop]
  rw [← ht] at g3
  rw [lenT] at g9
  generalize L.take p ++ (x, k) :: L.drop p = L1 at pm cl g3
  have len1 : L1.length = L.length + 1 := pm.length_eq
  have sz1 : (SetTable.insertAt es p (hs P w k, Value.ref x)).size = L.length + 1 := by rw [← Array.length_toList, cl, cells_len, len1]
  generalize SetTable.insertAt es p (hs P w k, Value.ref x) = es1 at cl sz1 ⊢
  -- behind the question whether its hash goes by value
  have rest : ∀ t2 : SetTable, TabOk t2 (L1.map fun p => hs P w p.2) → t2.mask = t.mask → t2.led = t.led → t2.fill = L.length + 1 → wpAny (model P w) A (do
      storeSet a es1 t2
      if !false && t2.tooFull then setRelay a (SetTable.grown (es.size + 1))
      return true) Q E s := fun t2 T2 m2 l2 f2 => by
    refine wpAny_bind (wpAny_storeSet_of ho hd ?_ (by rw [sz1, sizeLine_eq]; omega))
    have sb : Heap.SameBut a s.heap (s.heap.update a (Obj.putSet es1 t2)) := Heap.SameBut.update ..
    have ho1 := store_at (es' := es1) (t' := t2) ho hd
    generalize s.heap.update a (Obj.putSet es1 t2) = h1 at sb ho1 ⊢
    have key1 : ∀ p ∈ L1, TwAt P w h1 p.2 p.1 := fun p hp => by
      rcases List.mem_cons.mp (pm.mem_iff.mp hp) with e | hp
      · rw [e]
        exact still hx ho hd sb
      · exact still (B.key p hp) ho hd sb
    have ld1 : w.params.followText "set-order" = true ∨ t2.led = true := by rw [l2]; exact B.lrn
    by_cases hf : t2.tooFull = true
    · have full : (L.length + 1) * 5 ≥ t2.mask * 3 := by
        have z := hf
        unfold SetTable.tooFull at z
        rw [decide_eq_true_eq, f2] at z
        exact z
      have places : t2.place.size = es1.size := by
        have z := T2.sz
        rw [List.length_map, len1] at z
        rw [z, sz1]
      have two : (t.mask = 7 ∧ L.length = 4) ∨ (t.mask = 31 ∧ L.length = 18) := by
        rw [m2] at full
        rcases B.tab.mok with e | e | e <;> rw [e] at full rom
        · exact .inl ⟨e, by omega⟩
        · exact .inr ⟨e, by omega⟩
        · omega
      have laid : ∀ M, SetTable.sizeAbove (SetTable.grown (es.size + 1)) - 1 = M → MaskOk M → SetTable.sizeAbove (SetTable.grown (es.size + 1)) ≤ 128 → (L.length + 1) * 5 < M * 3 →
          wpAny (model P w) A (setRelay a (SetTable.grown (es.size + 1))) (fun _ s' => wpAny (model P w) A (pure true) Q E s') E { s with heap := h1 } := fun M z1 z2 z3 z4 => by
        refine relaid_new (s := { s with heap := h1 }) ho1 ⟨hex.1, hex.2.1, hex.2.2⟩ rfl cl places T2.dm (by rw [sz1, m2]; rcases two with ⟨y1, y2⟩ | ⟨y1, y2⟩ <;> omega) key1 ld1 (by rw [len1]; exact few) z1 z2 z3 (by rw [len1]; exact z4) ?_
        exact fun h2 L2 es2 ep2 t3 sb2 B2 pm2 => wpAny_pure (q h2 L2 es2 ep2 t3 (sb.trans sb2) B2 (pm2.trans pm))
      have fin : wpAny (model P w) A (setRelay a (SetTable.grown (es.size + 1))) (fun _ s' => wpAny (model P w) A (pure true) Q E s') E { s with heap := h1 } := by
        rcases two with ⟨_, y⟩ | ⟨_, y⟩
        · exact laid 31 (by rw [hl, y, size_20]) (.inr (.inl rfl)) (by rw [hl, y, size_20]; decide) (by omega)
        · exact laid 127 (by rw [hl, y, size_76]) (.inr (.inr rfl)) (by rw [hl, y, size_76]; decide) (by omega)
      first
        | (refine wpAny_bind ?_; refine wp_if_pos (by simp [hf]) ?_; exact fin)
        | (refine wp_if_pos (by simp [hf]) ?_; refine wpAny_bind ?_; exact fin)
    · have done := q h1 L1 es1 (ep + 1) t2 sb ⟨⟨_, ho1, ⟨hex.1, hex.2.1, hex.2.2⟩, rfl⟩, cl, T2, key1, ld1, (by
          have z := hf
          unfold SetTable.tooFull at z
          rw [decide_eq_true_eq, f2] at z
          rw [len1]
          omega), by rw [len1]; exact few⟩ pm
      first
        | (refine wp_if_neg (by simp [hf]) ?_; exact wpAny_pure done)
        | (refine wpAny_bind ?_; refine wp_if_neg (by simp [hf]) ?_; refine wpAny_pure ?_; exact wpAny_pure done)
  have both : ∀ v : Bool, wpAny (model P w) A (do
      storeSet a es1 (if v then t1 else { t1 with plain := false })
      if !false && (if v then t1 else { t1 with plain := false }).tooFull then setRelay a (SetTable.grown (es.size + 1))
      return true) Q E s := fun v => by
    cases v with
    | true => exact rest t1 g3 g4 g5 g9
    | false => exact rest { t1 with plain := false } ⟨g3.ris, g3.dm, g3.sz, g3.mok, g3.bd, g3.reach⟩ g4 g5 g9
  by_cases hpl : t1.plain = true
  · first
      | (refine wpAny_bind ?_; refine wp_if_pos hpl ?_; exact byValT hx both)
      | exact wp_if_pos hpl (wpAny_bind (byValT hx both))
  · first
      | (refine wpAny_bind ?_; refine wp_if_neg hpl ?_; exact wpAny_pure (both true))
      | exact wp_if_neg hpl (wpAny_bind (wpAny_pure (both true)))
/-! ### set(xs) -/
def fresh0 (w : World) : Obj := { cls := .type "set", dict := none, data := .set #[] 0 (.fresh 0 0 (!w.params.followText "set-order")) }
theorem bag0 {h : Heap} (ho : h.get? a = some (fresh0 w)) : Bag P w h a [] #[] 0 (.fresh 0 0 (!w.params.followText "set-order")) where
  obj := ⟨_, ho, ⟨rfl, rfl, rfl⟩, rfl⟩
  cel := rfl
  tab := ⟨List.Pairwise.nil, rfl, rfl, .inl rfl, fun x hx => (by cases hx), fun i h j hi => (by simp at hi)⟩
  key := fun p hp => (by cases hp)
  lrn := by
    show _ ∨ (!w.params.followText "set-order") = true
    cases w.params.followText "set-order"
    · exact .inr rfl
    · exact .inl rfl
  rom := by
    show 0 * 5 < 7 * 3
    decide
  sml := by
    show 0 < 64
    decide
theorem there {h h' : Heap} {k : List Str} {c : Addr} (hk : TwAt P w h k c) (kp : ∀ b o, h.get? b = some o → h'.get? b = some o) : TwAt P w h' k c := by
  obtain ⟨u, its, n, hu, more⟩ := hk
  exact ⟨u, its, n, kp c u hu, more⟩
theorem grow {I : Addr} {fp wr : List Addr} {G : Array GenState → Array GenState → Prop} {n : Nat} {Pv : Nat → Value → Prop} {St : Nat → Shared → Prop} {R : Result → Shared → Prop}
    (W : WalksS P w A.in1 I fp wr G n Pv St) (S : Addr) (nf : S ∉ fp) (ks : List (Addr × List Str)) (hn : ks.length = n) (few : n < 64) (diff : (ks.map (·.2)).Nodup) (hat : ∀ i v, Pv i v → ∃ p, ks[i]? = some p ∧ v = .ref p.1)
    (g : Heap) (hk : ∀ p ∈ ks, TwAt P w g p.2 p.1) (gS : g.get? S = none) (gw : ∀ b ∈ wr, g.get? b = none) (hu : A.in1.units < cLine) :
    ∀ (m i : Nat) (s : Shared), n - i = m → i ≤ n → St i s → (∀ b o, g.get? b = some o → s.heap.get? b = some o) → (∃ L es ep t, Bag P w s.heap S L es ep t ∧ L.Perm (ks.take i)) →
      (∀ s' L es ep t, Moved (S :: wr) G s s' → Bag P w s'.heap S L es ep t → L.Perm ks → R (.ok (.ret .none)) s') → codeAny (model P w) A (.builtin "set.update.loop" ⟨[.ref S, .ref I], []⟩) R s := by
  have nw : S ∉ wr := fun q => nf (W.sub _ q)
  have up : ∀ c ∈ wr, c ∈ S :: wr := fun c hc => List.mem_cons_of_mem _ hc
  have onward : ∀ {s s' : Shared}, Moved wr G s s' → (∀ b o, g.get? b = some o → s.heap.get? b = some o) → ∀ b o, g.get? b = some o → s'.heap.get? b = some o := fun mv kp b o e => by
    refine mv.heap b o (fun hb => ?_) (kp b o e)
    rw [gw b hb] at e
    cases e
  have hold : ∀ {s s' : Shared} {L : List (Addr × List Str)} {es : Array (Int × Value)} {ep : Nat} {t : SetTable} {i : Nat}, Moved wr G s s' → (∀ b o, g.get? b = some o → s'.heap.get? b = some o) → L.Perm (ks.take i) → Bag P w s.heap S L es ep t → Bag P w s'.heap S L es ep t := fun {s s' L es ep t i} mv kp pm B => by
    obtain ⟨o, ho, more⟩ := B.obj
    exact ⟨⟨o, mv.heap S o nw ho, more⟩, B.cel, B.tab, fun p hp => there (hk p (List.mem_of_mem_take (pm.mem_iff.mp hp))) kp, B.lrn, B.rom, B.sml⟩
  intro m
  induction m with
  | zero =>
    intro i s hm hi hst kp ⟨L, es, ep, t, B, pm⟩ hR
    obtain rfl : i = n := by omega
    refine codeAny_builtin F.entry_set_update_loop ?_
    rw [Around.under_plainId F.plain_set_update_loop _]
    refine wpAny_bind (m := pyNext (.ref I)) (W.done s _ _ hst fun s1 mv => ?_)
    have B1 := hold mv (onward mv kp) pm B
    rw [← hn, List.take_length] at pm
    exact wpAny_pure (hR s1 L es ep t (mv.mono up) B1 pm)
  | succ m ih =>
    intro i s hm hi hst kp ⟨L, es, ep, t, B, pm⟩ hR
    have lt : i < n := by omega
    refine codeAny_builtin F.entry_set_update_loop ?_
    rw [Around.under_plainId F.plain_set_update_loop _]
    refine wpAny_bind (m := pyNext (.ref I)) (W.item i s _ _ lt hst fun v s1 hP hst1 mv => ?_)
    obtain ⟨p, hp, rfl⟩ := hat i v hP
    have kp1 := onward mv kp
    have B1 := hold mv kp1 pm B
    have hx : TwAt P w s1.heap p.2 p.1 := there (hk p (List.mem_of_getElem? hp)) kp1
    have nxt : ks.take (i + 1) = ks.take i ++ [p] := by
      rw [List.take_add_one, hp]
      rfl
    have away : ∀ q ∈ L, q.2 ≠ p.2 := fun q hq e => by
      have d := diff.sublist (((List.take_sublist (i + 1) ks).map (·.2)))
      rw [nxt, List.map_append, List.nodup_append] at d
      exact d.2.2 q.2 (List.mem_map.mpr ⟨q, pm.mem_iff.mp hq, rfl⟩) p.2 (by simp) e
    have ll : L.length ≤ i := by
      rw [pm.length_eq, List.length_take]
      omega
    show wpAny _ A.in1 (holding [Value.ref p.1] (setAdd S (.ref p.1)) >>= _) _ _ s1
    refine wpAny_bind (wpAny_holding ?_)
    unfold setAdd
    refine wpAny_holding (wpAny_bind (wpAny_pyHash_tuple hu hx ?_))
    refine add_new (s := { s1 with toks := s1.toks + (p.2.length + 1) }) B1 hx hu away (by omega) fun h2 L2 es2 ep2 t2 sb B2 pm2 => ?_
    have pm3 : L2.Perm (ks.take (i + 1)) := by
      rw [nxt]
      exact pm2.trans ((pm.cons p).trans (List.perm_append_singleton p (ks.take i)).symm)
    have kp2 : ∀ b o, g.get? b = some o → h2.get? b = some o := fun b o e => by
      refine (sb.2 b fun z => ?_).trans (kp1 b o e)
      rw [z, gS] at e
      cases e
    refine wpAny_pure ⟨plainId_quiet F.plain_set_update_loop _, ih (i + 1) _ (by omega) lt (W.frame _ s1 _ _ hst1 (Nat.le_add_right _ _) fun c hc o e => ?_) kp2 ⟨L2, es2, ep2, t2, B2, pm3⟩ fun s3 L3 es3 ep3 t3 mv3 B3 pm4 => ?_⟩
    · rw [sb.2 c (fun z : c = S => nf (by rw [← z]; exact hc))]
      exact e
    · refine hR s3 L3 es3 ep3 t3 (Moved.trans W.gtrans ((mv.mono up).then_heap (Nat.le_add_right _ _) fun c o hc e => ?_) mv3) B3 pm4
      rw [sb.2 c (fun z : c = S => hc (by rw [z]; exact List.mem_cons_self))]
      exact e
theorem call_setT {l : Addr} {its : Array Value} (ks : List (Addr × List Str)) {Q : Value → Shared → Prop} (hA : A.handled = none) (hl : s.heap.IsList l its) (hit : its.toList = ks.map fun p => Value.ref p.1) (hk : ∀ p ∈ ks, TwAt P w s.heap p.2 p.1)
    (few : ks.length < 64) (diff : (ks.map (·.2)).Nodup) (hu : A.units + 3 < cLine)
    (q : ∀ (h' : Heap) (tk : Nat) L es ep t, Bag P w h' s.heap.objs.size L es ep t → L.Perm ks → (∀ c o, c < s.heap.objs.size → s.heap.get? c = some o → h'.get? c = some o) → Q (.ref s.heap.objs.size) { s with heap := h', toks := tk }) :
    wpAny (model P w) A (call (.type "set") [.ref l]) Q E s := by
  have hlen : ks.length = its.size := by
    have z := congrArg List.length hit
    rw [Array.length_toList, List.length_map] at z
    exact z.symm
  obtain ⟨c, tl, hmro⟩ := PySem.F.called_set.mro
  have hmade := PySem.F.called_set.made
  have hsub := PySem.F.called_set.sub
  refine wpAny_call (codeAny_of_tree ?_)
  show wpAny _ _ (callAny (.type "set") _) _ _ _
  refine wpAny_pure ⟨Code.quiet_builtin _ (by decide +kernel), codeAny_builtin PySem.F.entry_type_call ?_⟩
  rw [Around.under_plain (weight_type_call_type "set" [.ref l] []) rfl]
  have h1 := PySem.F.called_set.notType
  have h2 := PySem.F.called_set.canCreate
  have hct := PySem.F.typeCall_set_1 (.ref l)
  repeat (any_goals (first | assumption | wp_step))
  refine codeAny_mono (code_set_led1 (.ref l) (E := E) (Q₁ := fun b s₁ => b = .ref s.heap.objs.size ∧ s₁ = { s with heap := s.heap.push (fresh0 w) }) ⟨rfl, rfl⟩) fun r s₁ hr => ?_
  cases r with
  | error e => exact hr
  | ok fl =>
    cases fl with
    | ret b =>
      obtain ⟨rfl, rfl⟩ := hr
      have hS : (s.heap.push (fresh0 w)).get? s.heap.objs.size = some (fresh0 w) := Heap.get?_push_size _ rfl
      have hT : Shared.TypeIs { s with heap := s.heap.push (fresh0 w) } (.ref s.heap.objs.size) "set" := ⟨_, hS, rfl⟩
      have hli := PySem.F.called_set.init.lookup
      have hbi := PySem.F.called_set.init.bind (.ref s.heap.objs.size)
      repeat (any_goals (first | assumption | wp_step))
      refine codeAny_mono (codeAny_call_builtin (R := wants (fun r s₂ => r = .none ∧ ∃ h' tk L es ep t, s₂ = { s with heap := h', toks := tk } ∧ Bag P w h' s.heap.objs.size L es ep t ∧ L.Perm ks ∧
          (∀ c o, c < s.heap.objs.size → s.heap.get? c = some o → h'.get? c = some o)) E) PySem.F.called_set.init.plain PySem.F.entry_set_init (check_set_init_1 hT ?_)) fun r₂ s₂ hr₂ => ?_
      · obtain ⟨ol, hol, hcl, nl, hdl⟩ := hl
        obtain ⟨ocls, odict, odata, oslots⟩ := ol
        simp only at hcl hdl
        subst hcl; subst hdl
        have hol' : (s.heap.push (fresh0 w)).get? l = some { cls := .type "list", dict := odict, data := .seq its nl, slots := oslots } := Heap.get?_push_of_some _ hol
        have hsls := PySem.F.sub_list_set
        have hslf := PySem.F.sub_list_frozenset
        have hne : (Value.type "list" == Value.type "dict") = false := by decide
        have hl1 : (s.heap.push (fresh0 w)).IsList l its := ⟨_, hol', rfl, nl, rfl⟩
        unfold Builtin.«set.__init__» noKeywords Builtin.Frozenset.updateFrom
        generalize hPI : pyIter = PI
        wp_walk
        subst hPI
        refine wpAny_pyIter_list hl1 ?_
        refine wpAny_bind (wpAny_runValue ?_)
        have hlS : l < s.heap.objs.size := Heap.lt_size hol
        have h3 : A.in1.in1.in1.handled = none := by simp [hA]
        have nI : l ≠ (s.heap.push (fresh0 w)).objs.size := by
          rw [Heap.size_push]; exact Nat.ne_of_lt (Nat.lt_succ_of_lt hlS)
        have nS : s.heap.objs.size ∉ [(s.heap.push (fresh0 w)).objs.size, l] := by
          rw [Heap.size_push]; simp only [List.mem_cons, List.mem_singleton, List.not_mem_nil, or_false, not_or]
          exact ⟨Nat.ne_of_lt (Nat.lt_succ_self _), Nat.ne_of_gt hlS⟩
        have none_of : ∀ b, s.heap.objs.size ≤ b → s.heap.get? b = none := fun b hb => by
          cases z : s.heap.get? b with
          | none => rfl
          | some o => exact absurd (Nat.lt_of_lt_of_le (Heap.lt_size z) hb) (Nat.lt_irrefl _)
        have hat : ∀ (i : Nat) (v : Value), its[i]? = some v → ∃ p, ks[i]? = some p ∧ v = .ref p.1 := fun i v hv => by
          have z : its.toList[i]? = some v := by rw [Array.getElem?_toList]; exact hv
          rw [hit, List.getElem?_map] at z
          cases y : ks[i]? with
          | none =>
            rw [y] at z
            cases z
          | some p =>
            rw [y] at z
            exact ⟨p, rfl, (Option.some.inj z).symm⟩
        refine grow ((Walks.list h3 _ l nI its).toS) s.heap.objs.size nS ks hlen (by rw [← hlen]; exact few) diff hat s.heap hk (none_of _ (Nat.le_refl _)) (fun b hb => none_of b (by
            rw [List.mem_singleton.mp hb, Heap.size_push]
            exact Nat.le_succ _)) hu (its.size - 0) 0 _ (by omega) (Nat.zero_le _) ⟨⟨_, Heap.get?_push_size _ rfl, rfl, rfl⟩, (hl1.push _)⟩ (fun b o e => Heap.get?_push_of_some _ (Heap.get?_push_of_some _ e)) ?hS0 ?hR
        case hS0 =>
          have hget : ((s.heap.push (fresh0 w)).push { cls := .type "list_iterator", data := .fields #[.ref l, .int 0 0] }).get? s.heap.objs.size = some (fresh0 w) := Heap.get?_push_of_some _ hS
          exact ⟨[], #[], 0, _, bag0 hget, by rw [List.take_zero]⟩
        case hR =>
          intro s' L es ep t mv B pm
          obtain ⟨h', g', d', tk', os'⟩ := s'
          obtain rfl : g' = s.gens := mv.gens
          obtain rfl : d' = s.drawn := mv.drawn
          obtain rfl : os' = s.os := mv.os
          show wpAny _ _ _ _ _ _
          refine wpAny_pure ?_
          show wpAny _ _ (ret Value.none) _ _ _
          refine wpAny_pure ⟨rfl, h', tk', L, es, ep, t, rfl, B, pm, fun c o hc e => ?_⟩
          have n1 : c ≠ s.heap.objs.size := Nat.ne_of_lt hc
          have n2 : c ≠ (s.heap.push (fresh0 w)).objs.size := by
            rw [Heap.size_push]; exact Nat.ne_of_lt (Nat.lt_succ_of_lt hc)
          exact mv.heap c o (by simp only [List.mem_cons, List.mem_singleton, List.not_mem_nil, or_false, not_or]; exact ⟨n1, n2⟩) (Heap.get?_push_of_some _ (Heap.get?_push_of_some _ e))
      · cases r₂ with
        | error e => exact hr₂
        | ok fl₂ =>
          cases fl₂ with
          | ret r =>
            obtain ⟨rfl, h', tk, L, es, ep, t, rfl, B, pm, hk'⟩ := hr₂
            repeat (any_goals (first | assumption | wp_step))
            exact q _ _ _ _ _ _ B pm hk'
          | _ => exact hr₂.elim
    | _ => exact hr.elim
end
section
variable {X : Cx}
/-- len(set(xs)), xs a list of different tuples of texts -/
def tLenSetT (K : PySem.W.Frag) (ta : TE) : TE := fun σ H Q => ta σ H fun x H1 => ∃ (l : Addr) (ks : List (Addr × List Str)), x = .ref l ∧ SqL K H1 l (ks.map fun p => V.ref p.1) ∧ (∀ p ∈ ks, SqT K H1 p.1 (p.2.map V.str)) ∧ ks.length < 64 ∧ (ks.map (·.2)).Nodup ∧ Q (.int (ks.length : Nat)) H1
theorem words_is {P : Program} {w : World} : ∀ {k : List Str} {us : List Value}, Vals (k.map V.str) us → ItemsAre (PySem.strKind P w) k us
  | [], _, .nil => .nil
  | z :: k, _, .cons r t => by
    obtain ⟨tk, rfl⟩ := r
    exact .cons (strKind_is _ _ _ _) (words_is t)
theorem refs_is : ∀ {ks : List (Addr × List Str)} {us : List Value}, Vals (ks.map fun p => V.ref p.1) us → us = ks.map fun p => Value.ref p.1
  | [], _, .nil => rfl
  | p :: ks, _, .cons r t => by
    cases r
    rw [List.map_cons, ← refs_is t]
theorem pe_lenSetT {a : Expr} {ta : TE} {p p2 q pos : Pos} {k : Nat} (hr : Room k X.A) (hc : X.calm = true) (hg : Gl X "len") (hm : X.mg "len" = none) (hg2 : Gl X "set") (hm2 : X.mg "set" = none) (ha : PE X a ta)
    (na : starEach [a] X.env = (false, eval a X.env) :: starEach [] X.env := by rfl) : PE X (.Call (.Name "len" p) [.Call (.Name "set" p2) [a] [] q] [] pos) (tLenSetT X.K ta) := by
  refine ⟨fun pins s σ H Q I h => ?_⟩
  refine Call_ (ld_blt I hg hm boot_len ?_)
  refine PyProof.Rows.callWith_builtin1 (PyProof.Rows.args_cons ?_ rfl) rfl rfl
  refine Call_ (ld_blt I hg2 hm2 boot_set ?_)
  refine PyProof.Rows.callWith_type1 (PyProof.Rows.args_cons (thn (ha.run pins s σ H _ I h) fun v s1 ⟨x, H1, I1, r1, q1⟩ => PyProof.Rows.args_nil ?_) na) na rfl
  obtain ⟨l, ks, rfl, hq, ht, few, diff, q1⟩ := q1
  cases r1
  obtain ⟨its, r, pl, hz⟩ := I1.list hq
  have hu := hr.units
  refine call_setT (P := X.prog) (w := X.w) ks (I1.ok.hd hc) pl.isList (by simpa using refs_is r) (fun p hp => ?_) few diff (by omega) fun h' tk L es ep t B pm hk => ?_
  · obtain ⟨ts, rt, pt, _⟩ := I1.tuple (ht p hp)
    obtain ⟨o, ho, hcl, n, hd⟩ := pt
    exact ⟨o, ts.toArray, n, ho, hcl, hd, words_is rt⟩
  · refine PyProof.Rows.args_nil ?_
    obtain ⟨o, ho, hex, hd⟩ := B.obj
    have I2 : Inv X pins σ H1 { s1 with heap := h', toks := tk } := I1.kept fun c o e => hk c o (Heap.lt_size e) e
    have hn : es.size = ks.length := by
      have z : es.size = L.length := by rw [← Array.length_toList, B.cel, cells_len]
      rw [z, pm.length_eq]
    refine call_len_set ho hex hd (B.fit (s := { s1 with heap := h', toks := tk })) (by rw [hn] <;> omega) ⟨.int (ks.length : Nat), H1, I2.tok _, ⟨_, by rw [hn]⟩, q1⟩
end
end TxSet

set_option Elab.async false
set_option linter.all false
set_option maxRecDepth 100000
set_option maxHeartbeats 4000000
/-! repr in a law's own body: there it is known that no display is under way. -/
namespace GrdX
open PySem PySem.Spec PyProof.Rows L2 EvS
def rRepr (K : PySem.W.Frag) : List V → Hp → VK → Prop := fun xs H Q => ∃ (a : Addr) (d : PyData), xs = [.ref a] ∧ Dp K H (.ref a) d ∧ d.showable = true ∧ d.hasDict = false ∧ d.depth ≤ 20 ∧ d.shown.length ≤ sizeLine ∧ Q (.str d.shown) H
theorem call_repr {X : Cx} (hg : X.A.guards = some []) (hu : X.A.units + 64 < cLine) : CallR X (.builtin "repr") (rRepr X.K) := by
  intro pins s σ H xs us Q I r h
  obtain ⟨a, d, rfl, dp, hs, hd, dd, hz, q⟩ := h
  obtain ⟨u, rfl, rx⟩ := vals1 r
  obtain ⟨as, rd⟩ := Dp.reads I d (.ref a) u dp rx
  cases rx
  exact repr_of_reads' rd hs (PyData.noDict_hsm hd) hg (by omega) (fun _ _ e => e) (fun h' u tk hk => ⟨.str d.shown, H, I.kept hk, ⟨_, rfl⟩, q⟩) hz
/-- what a law's def promises where the claim itself calls it -/
def Says (P : Program) (w : World) (K : PySem.W.Frag) (mg : Str → Option Value) (base : Heap) (CX : CXT) (f : Addr) (sp : Sp) : Prop :=
  ∀ (s : Shared) (H : Hp) (u : Value) (v : V) (Q : VK) (E : XK), Env0 P w K mg base callerA [] s H → RelV v u → sp [v] H Q E → codeAny (model P w) callerA (.call (.ref f) ⟨[u], []⟩) (CR CX [] P w H s Q E) s
theorem says_at {CX : CXT} {P : Program} {w : World} {K : PySem.W.Frag} {mg : Str → Option Value} {base : Heap} {x qual p : Str} {params : Arguments} {body : List Stmt} {scope : Scope} {f : Addr} {fd : FuncData} {N : List Str} {k : Nat} {sp : Sp}
    {oc od dV kV doc pm an cdv ct osl} (look : K.lookup f = some ⟨oc, od, .func (PySem.W.fnOf x qual params body scope dV kV doc pm an cdv ct), osl⟩) (code : PySem.W.codeIn K cdv qual = true) (same : fd = PySem.W.fnOf x qual params body scope dV kV doc pm an cdv ct) (S : FnScope N [p] scope) (bind : ∀ (s : Shared) (u : Value), BindsTo s fd ⟨[u], []⟩ [(p, u)]) (room : Room (k + 1) callerA)
    (run : ∀ (s : Shared) (H : Hp) (v : V) (Q : VK) (E : XK), Room k (callerA.deeper (envOfC qual scope s.heap.objs.size f cdv)) → sp [v] H Q E →
      ∃ t, PSs (cxOf CX P w K mg base N qual scope f cdv callerA [] s H E) body t ∧ t { nx := fun _ G => Q .non G, rt := Q } (start N [v]) H) : Says P w K mg base CX f sp := by
  intro s H u v Q E env rel wish
  subst same
  have keep : ∀ {b : Addr} {o : Obj}, base.get? b = some o → s.heap.get? b = some o := fun g => (env.bs _ _ g).1
  have inK : K.In s.heap := env.mod.kin.keeps fun _ _ g => keep g
  have place : ∀ y ∈ [(p, u)], scope.names.lookup y.1 = some .local ∨ (scope.names.lookup y.1 = some .cell ∧ ((cellsFrom (s.heap.objs.size + 1) scope.names []).lookup y.1).isSome = true) := by
    intro y hy
    rw [List.mem_singleton.mp hy]
    exact (S.par p (List.mem_singleton.mpr rfl)).imp id fun c => ⟨c, PySem.W.cellsFrom_some _ _ _ (.inl c)⟩
  apply codeAny_call_function room.depth (inK _ _ look) rfl S.co S.gen rfl (PySem.W.codeRec_of inK code)
  apply bind s u
  apply wpAny_newFunctionEnv_cells S.kind place
  rintro en rfl s1 call
  constructor
  · exact (env.mod.nolimit.keeps fun _ _ g => keep g).keeps call.toInCall.keep
  apply codeAny_func
  obtain ⟨t, holds, ends⟩   := run s H v Q E (room.deeper _) wish
  apply wpAny_mono (holds.run [] s1 _ H _ (inv_start S room.hd env rfl (.cons rel .nil) call) ends)
  · intro fl s2 got
    match fl, got with
    | .ret _, ⟨v2, _, G, J, r2, q2⟩ => exact ⟨v2, G, J.os, J.bare, J.base, J.hok, r2, q2⟩
    | .next, ⟨_, G, J, q2⟩ => exact ⟨.non, G, J.os, J.bare, J.base, J.hok, rfl, q2⟩
    | .brk, ⟨_, _, _, q2⟩ => exact False.elim q2
    | .cont, ⟨_, _, _, q2⟩ => exact False.elim q2
  · exact fun _ _ z => z
theorem says_of {CX : CXT} {P : Program} {w : World} {K : PySem.W.Frag} {mg : Str → Option Value} {base : Heap} {x qual p : Str} {params : Arguments} {body : List Stmt} {scope : Scope} {dvs : List V} {kws : List (Str × V)} {f : Addr} {fd : FuncData} {N : List Str} {k : Nat} {sp : Sp}
    (D : FunD K x qual params body scope dvs kws f fd) (S : FnScope N [p] scope) (bind : ∀ (s : Shared) (u : Value), BindsTo s fd ⟨[u], []⟩ [(p, u)]) (room : Room (k + 1) callerA)
    (run : ∀ (cdv : Value) (s : Shared) (H : Hp) (v : V) (Q : VK) (E : XK), Room k (callerA.deeper (envOfC qual scope s.heap.objs.size f cdv)) → sp [v] H Q E →
      ∃ t, PSs (cxOf CX P w K mg base N qual scope f cdv callerA [] s H E) body t ∧ t { nx := fun _ G => Q .non G, rt := Q } (start N [v]) H) : Says P w K mg base CX f sp := by
  obtain ⟨oc, od, dV, kV, doc, pm, an, cdv, ct, osl, e, look, code, _⟩ := D.ex
  exact says_at (e ▸ look) code e S bind room (run cdv)
theorem says_fun {P : Program} {w : World} {K : PySem.W.Frag} {mg : Str → Option Value} {base : Heap} {x qual p : Str} {st : Stmt} {f : Addr} {fd : FuncData} {N : List Str} {k : Nat} {sp : Sp}
    (D : Fun K x qual st f fd) (S : FnScope N [p] (defScope st)) (bind : ∀ (s : Shared) (u : Value), BindsTo s fd ⟨[u], []⟩ [(p, u)]) (room : Room (k + 1) callerA)
    (run : ∀ (cdv : Value) (s : Shared) (H : Hp) (v : V) (Q : VK) (E : XK), Room k (callerA.deeper (envOfC qual (defScope st) s.heap.objs.size f cdv)) → sp [v] H Q E →
      ∃ t, PSs (cxOf CX0 P w K mg base N qual (defScope st) f cdv callerA [] s H E).nox (defBody st) t ∧ t { nx := fun _ G => Q .non G, rt := Q } (start N [v]) H) : Says P w K mg base CX0 f sp := by
  obtain ⟨oc, od, kV, doc, pm, an, cdv, ct, osl, e, look, code⟩ := D.ex
  refine says_at (e ▸ look) code e S bind room fun s H v Q E hr wish => ?_
  obtain ⟨t, holds, ends⟩ := run cdv s H v Q E hr wish
  exact ⟨t, holds.nox, ends⟩
/-- the script stands alone in an abstract heap, or it is an object of the module -/
theorem script {P : Program} {w : World} {K : PySem.W.Frag} {h : Heap} {a : Addr} {vs : List Value} {ns : List Int} (inK : K.In h) (at_ : h.get? a = some { cls := .type "list", data := .seq vs.toArray }) (are : IntsAre vs ns) (few : ns.length ≤ sizeLine) :
    ∃ H : Hp, SqL K H a (ns.map V.int) ∧ HOk P w H h ∧ ∀ b, H b = none ∨ (b = a ∧ K.lookup a = none ∧ ∃ o xs, H b = some (.frz o (.lst xs))) := by
  have size : (ns.map V.int).length ≤ sizeLine := by rw [List.length_map]; exact few
  cases look : K.lookup a with
  | some o =>
    have same := inK a o look
    rw [at_] at same
    injection same with same
    subst same
    exact ⟨fun _ => none, .inr ⟨_, vs.toArray, _, look, rfl, rfl, rfl, by rw [List.size_toArray, are.length]; exact few, vals_ints are⟩, (fun b o z => nomatch z), fun b => .inl rfl⟩
  | none =>
    let one : Hp := fun b => if b = a then some (.frz { cls := .type "list", data := .seq vs.toArray } (.lst (ns.map V.int))) else none
    have here : one a = some (.frz { cls := .type "list", data := .seq vs.toArray } (.lst (ns.map V.int))) := if_pos rfl
    have else_ : ∀ b, b ≠ a → one b = none := fun b n => if_neg n
    refine ⟨one, .inl (.inr ⟨_, here⟩), fun b o z => ?_, fun b => ?_⟩
    · rcases Classical.em (b = a) with rfl | n
      · rw [here] at z
        injection z with z
        subst z
        exact ⟨at_, size, vs, _, vals_ints are, at_⟩
      · rw [else_ b n] at z
        exact nomatch z
    · rcases Classical.em (b = a) with rfl | n
      · exact .inr ⟨rfl, rfl, _, _, here⟩
      · exact .inl (else_ b n)
theorem law_says {P : Program} {w : World} {K : PySem.W.Frag} {mg mb : Str → Option Value} {f a : Addr} {sp : Sp} {s : Shared} {vs : List Value} {ns : List Int} (inK : K.In s.heap) (glob : s.heap.Ns mainGlobals mg) (blt : s.heap.Ns builtinsNs mb) (boot : ∀ x : Str, x ≠ "__name__" → mb x = bootBuiltins x)
    (lim : s.heap.NoLimit) (gens : s.gens = #[]) (at_ : s.heap.get? a = some { cls := .type "list", data := .seq vs.toArray }) (are : IntsAre vs ns) (few : ns.length ≤ sizeLine) (say : ∀ base : Heap, K.In base → base.Ns mainGlobals mg → Says P w K mg base CX0 f sp)
    (wish : ∀ H : Hp, SqL K H a (ns.map V.int) → sp [.ref a] H (fun v _ => v = .bl true) fun _ _ _ => False) :
    codeAny (model P w) callerA (.call (.ref f) ⟨[.ref a], []⟩) (fun r s' => r = .ok (.ret (.bool true)) ∧ OldK s.heap s'.heap ∧ s'.os = s.os ∧ AllBare s'.gens) s := by
  obtain ⟨H, seq, ok, only⟩ := script (P := P) (w := w) inK at_ are few
  have free : ∀ {b : Addr} {o : Obj}, s.heap.get? b = some o → (b = a → K.lookup a = none → False) → H b = none := fun {b o} g n => (only b).elim id fun z => (n z.1 z.2.1).elim
  have dict : ∀ {b : Addr} {m : Str → Option Value}, s.heap.Ns b m → (hidT s.heap H).Ns b m := by
    rintro b m ⟨o, es, ep, g, d, r⟩
    refine ⟨o, es, ep, hidT_get g (free g fun z _ => ?_), d, r⟩
    rw [z, at_] at g
    injection g with g
    rw [← g] at d
    exact nomatch d
  have inB : K.In (hidT s.heap H) := fun b o g => hidT_get (inK b o g) (free (inK b o g) fun z n => by rw [z, n] at g; exact nomatch g)
  obtain ⟨mc, lim1, lim2⟩ := lim
  have env : Env0 P w K mg (hidT s.heap H) callerA [] s H := ⟨rfl, ⟨inB, dict glob, ⟨mb, dict blt, boot⟩, ⟨mc, dict lim1, lim2⟩⟩, fun _ _ g => of_hidT g, Nat.le_of_eq (hidT_size _ _), trivial, (fun b hb => nomatch hb), ok, .of_eq gens⟩
  apply codeAny_mono (say _ inB (dict glob) s H (.ref a) (.ref a) _ _ env rfl (wish H seq))
  intro r s' got
  match r, got with
  | .error _, z => exact False.elim z
  | .ok (.next), z => exact False.elim z
  | .ok (.brk), z => exact False.elim z
  | .ok (.cont), z => exact False.elim z
  | .ok (.ret u), ⟨v, G, os, bare, un, ok', rel, q⟩ =>
    have q : v = .bl true := q
    subst q
    have rel : u = Value.bool true := rel
    subst rel
    refine ⟨rfl, OldK.of_keep fun b o g => ?_, os, bare⟩
    rcases only b with n | ⟨_, _, oo, xs, t⟩
    · exact un.keep b o g n (by intro z; exact nomatch z) (by simp)
    · have before := (ok b _ t).1
      rw [g] at before
      injection before with before
      subst before
      exact (ok' b _ (un.frzs b _ _ t)).1
theorem walk {l : PySem.W.OpenLaw} {n : Nat} {q : Program} {loose : List Str} {XP : (Str → Option Value) → Heap → Prop} {YP : World → Heap → Prop} {d : DefRec} {K : Params → PySem.W.Frag} {sp : World → Sp} (most : l.most = some n) (small : n ≤ sizeLine) (plain : d.params.defaults = [])
    (part : ∀ (w : World) (h : Heap), YP w h → (K w.params).In h)
    (say : ∀ (w : World) (mg : Str → Option Value) (f : Addr) (h : Heap), (K w.params).In h → h.Ns mainGlobals mg → mg d.name = some (.ref f) → ∀ base : Heap, (K w.params).In base → base.Ns mainGlobals mg → Says l.prog w (K w.params) mg base CX0 f (sp w))
    (wish : ∀ (w : World) (H : Hp) (a : Addr) (ns : List Int), ns.length ≤ n → SqL (K w.params) H a (ns.map V.int) → sp w [.ref a] H (fun v _ => v = .bl true) fun _ _ _ => False) : PySem.W.WalkO q loose XP YP l.row.toRowW d [] (fun f vs => PySem.call f vs) := by
  apply Att.attach_call most plain
  intro w s0 s1 mg mb f o pm cd doc a vs ns G Y ho hd hcd hmg hobj are len gens
  exact law_says (part w _ Y) G.T.g G.T.b G.T.builtins G.T.nolimit gens hobj are (Nat.le_trans len small) (say w mg f _ (part w _ Y) G.T.g hmg) fun H sq => wish w H a ns len sq
end GrdX

set_option Elab.async false
set_option linter.all false
set_option maxRecDepth 100000
set_option maxHeartbeats 4000000
namespace TX
open PySem PySem.Spec PyProof.Rows L2 EvS Evl
mutual
theorem dp_ex {K : PySem.W.Frag} {H H' : Hp} (e : Ex H H') : ∀ {v : V} {d : PyData}, Dp K H v d → Dp K H' v d
  | _, _, .non => .non
  | _, _, .bl b => .bl b
  | _, _, .int i => .int i
  | _, _, .str x => .str x
  | _, _, .lst h r => .lst (ex_l e h) (dps_ex e r)
  | _, _, .tup h r => .tup (ex_t e h) (dps_ex e r)
theorem dps_ex {K : PySem.W.Frag} {H H' : Hp} (e : Ex H H') : ∀ {vs : List V} {ds : List PyData}, DpAll K H vs ds → DpAll K H' vs ds
  | _, _, .nil => .nil
  | _, _, .cons h r => .cons (dp_ex e h) (dps_ex e r)
end
theorem dps_len {K : PySem.W.Frag} {H : Hp} : ∀ {vs : List V} {ds : List PyData}, DpAll K H vs ds → vs.length = ds.length
  | _, _, .nil => rfl
  | _, _, .cons _ r => congrArg Nat.succ (dps_len r)
theorem dps_at {K : PySem.W.Frag} {H : Hp} : ∀ {vs : List V} {ds : List PyData} {i : Nat} {v : V}, DpAll K H vs ds → vs[i]? = some v → ∃ d, ds[i]? = some d ∧ Dp K H v d
  | _, _, _, _, .nil, h => by simp at h
  | _, _, 0, _, .cons h _, e => by
    simp only [List.getElem?_cons_zero, Option.some.injEq] at e
    subst e
    exact ⟨_, rfl, h⟩
  | _, _, i + 1, _, .cons _ r, e => by
    simp only [List.getElem?_cons_succ] at e
    exact dps_at (i := i) r e
theorem dps_app {K : PySem.W.Frag} {H : Hp} : ∀ {vs us : List V} {ds es : List PyData}, DpAll K H vs ds → DpAll K H us es → DpAll K H (vs ++ us) (ds ++ es)
  | _, _, _, _, .nil, b => b
  | _, _, _, _, .cons h r, b => .cons h (dps_app r b)
theorem dps_one {K : PySem.W.Frag} {H : Hp} {v : V} {d : PyData} (h : Dp K H v d) : DpAll K H [v] [d] := .cons h .nil
theorem dps_str {K : PySem.W.Frag} {H : Hp} : ∀ ns : List Str, DpAll K H (ns.map V.str) (ns.map PyData.str)
  | [] => .nil
  | n :: r => .cons (.str n) (dps_str r)
theorem dps_strs {K : PySem.W.Frag} {H : Hp} : ∀ {ns : List Str} {vs : List V}, DpAll K H vs (ns.map PyData.str) → vs = ns.map V.str
  | [], _, .nil => rfl
  | n :: r, _, .cons h t => by
    cases h
    rw [dps_strs t]
    rfl
def Seq2 (K : PySem.W.Frag) (H : Hp) (p : Addr) (xs : List V) : Prop := SqL K H p xs ∨ SqT K H p xs
theorem Seq2.ex {K : PySem.W.Frag} {H H' : Hp} {p : Addr} {xs : List V} (e : Ex H H') (h : Seq2 K H p xs) : Seq2 K H' p xs := h.elim (fun q => .inl (ex_l e q)) (fun q => .inr (ex_t e q))
mutual
def frozen : PyData → Bool
  | .none => true
  | .bool _ => true
  | .int _ => true
  | .str _ => true
  | .tuple ds => frozenAll ds
  | .list _ => false
  | .dict _ => false
def frozenAll : List PyData → Bool
  | [] => true
  | d :: ds => frozen d && frozenAll ds
end
theorem frozenAll_of : ∀ {ds : List PyData}, (∀ d ∈ ds, frozen d = true) → frozenAll ds = true
  | [], _ => by simp [frozenAll]
  | d :: ds, h => by
    rw [frozenAll, h d List.mem_cons_self, frozenAll_of fun x hx => h x (List.mem_cons_of_mem _ hx)]
    rfl
theorem frozen_strs (ls : List Str) : frozenAll (ls.map PyData.str) = true := frozenAll_of fun d hd => by
  obtain ⟨b, _, rfl⟩ := List.mem_map.mp hd
  simp [frozen]
def ExT (H H' : Hp) : Prop := ∀ a xs, Rd H a (.tup xs) → Rd H' a (.tup xs)
theorem exT_of {H H' : Hp} (e : Ex H H') : ExT H H' := fun _ _ h => ex_rd e h
theorem ExT.trans {H H1 H2 : Hp} (a : ExT H H1) (b : ExT H1 H2) : ExT H H2 := fun x y h => b x y (a x y h)
theorem exT_mut {H : Hp} {l : Addr} {xs ys : List V} (h : H l = some (.lst xs)) : ExT H (upd H l (.lst ys)) := fun a zs r => by
  rcases r with r | ⟨o, r⟩
  · exact .inl (by rw [upd_ne (ne_of r h (by intro z; cases z))]; exact r)
  · exact .inr ⟨o, by rw [upd_ne (ne_of r h (by intro z; cases z))]; exact r⟩
theorem exT_t {K : PySem.W.Frag} {H H' : Hp} {p : Addr} {xs : List V} (e : ExT H H') (h : SqT K H p xs) : SqT K H' p xs := h.elim (fun r => .inl (e _ _ r)) .inr
mutual
theorem dp_exT {K : PySem.W.Frag} {H H' : Hp} (e : ExT H H') : ∀ {v : V} {d : PyData}, Dp K H v d → frozen d = true → Dp K H' v d
  | _, _, .non, _ => .non
  | _, _, .bl b, _ => .bl b
  | _, _, .int i, _ => .int i
  | _, _, .str x, _ => .str x
  | _, _, .lst _ _, f => by simp [frozen] at f
  | _, _, .tup h r, f => .tup (exT_t e h) (dps_exT e r (by simpa [frozen] using f))
theorem dps_exT {K : PySem.W.Frag} {H H' : Hp} (e : ExT H H') : ∀ {vs : List V} {ds : List PyData}, DpAll K H vs ds → frozenAll ds = true → DpAll K H' vs ds
  | _, _, .nil, _ => .nil
  | _, _, .cons h r, f => by
    simp only [frozenAll, Bool.and_eq_true] at f
    exact .cons (dp_exT e h f.1) (dps_exT e r f.2)
end
inductive All2 {α β : Type} (R : α → β → Prop) : List α → List β → Prop
  | nil : All2 R [] []
  | cons {a : α} {b : β} {as : List α} {bs : List β} : R a b → All2 R as bs → All2 R (a :: as) (b :: bs)
theorem All2.len {α β : Type} {R : α → β → Prop} : ∀ {as : List α} {bs : List β}, All2 R as bs → as.length = bs.length
  | _, _, .nil => rfl
  | _, _, .cons _ r => congrArg Nat.succ r.len
def del (H : Hp) (D : Addr) : Hp := fun a => if a = D then none else H a
theorem del_upd {H : Hp} {D : Addr} {o : HO} : del (upd H D o) D = del H D := by
  funext a
  unfold del
  by_cases h : a = D
  · rw [if_pos h, if_pos h]
  · rw [if_neg h, if_neg h, upd_ne h]
theorem del_ex {H : Hp} {D : Addr} : Ex (del H D) H := fun a o h => by
  unfold del at h
  split at h
  · cases h
  · exact h
theorem ex_del {H H' : Hp} {D : Addr} (e : Ex H H') : Ex (del H D) (del H' D) := fun a o h => by
  unfold del at h ⊢
  split at h
  · cases h
  · rename_i n
    rw [if_neg n]
    exact e _ _ h
theorem ex_to_del {H H' : Hp} {D : Addr} (e : Ex H H') (h : H D = none) : Ex H (del H' D) := fun a o q => by
  unfold del
  rw [if_neg (ne_of_none q h)]
  exact e _ _ q
theorem del_at {H : Hp} {D a : Addr} {o : HO} (n : a ≠ D) (h : H a = some o) : del H D a = some o := by
  unfold del
  rw [if_neg n]
  exact h
theorem dps_drop {K : PySem.W.Frag} {H : Hp} : ∀ {vs : List V} {ds : List PyData} (n : Nat), DpAll K H vs ds → DpAll K H (vs.drop n) (ds.drop n)
  | _, _, 0, h => h
  | _, _, _ + 1, .nil => .nil
  | _, _, n + 1, .cons _ r => dps_drop n r
theorem dps_take {K : PySem.W.Frag} {H : Hp} : ∀ {vs : List V} {ds : List PyData} (n : Nat), DpAll K H vs ds → DpAll K H (vs.take n) (ds.take n)
  | _, _, 0, _ => .nil
  | _, _, _ + 1, .nil => .nil
  | _, _, n + 1, .cons h r => .cons h (dps_take n r)
theorem cut_from (xs : List V) (n : Nat) : cutV xs (some (n : Int)) none = xs.drop n := by
  unfold cutV
  rw [HT.sIx_nat, HT.sIx_none]
  rcases Nat.le_total n xs.length with h | h
  · rw [Nat.min_eq_left h, List.take_of_length_le (by rw [List.length_drop]; exact Nat.le_refl _)]
  · rw [Nat.min_eq_right h, List.drop_length, List.drop_eq_nil_of_le h, List.take_nil]
theorem cut_to (xs : List V) (n : Nat) : cutV xs none (some (n : Int)) = xs.take n := by
  unfold cutV
  rw [HT.sIx_nat, HT.sIx_none, List.drop_zero, Nat.sub_zero]
  rcases Nat.le_total n xs.length with h | h
  · rw [Nat.min_eq_left h]
  · rw [Nat.min_eq_right h, List.take_length, List.take_of_length_le h]
theorem lay_of : ∀ {ds : List PyData}, (∀ d ∈ ds, PyData.canLay0 d = true) → PyData.canLayAll0 ds = true
  | [], _ => by simp [PyData.canLayAll0]
  | d :: ds, h => by
    rw [PyData.canLayAll0, h d List.mem_cons_self, lay_of fun x hx => h x (List.mem_cons_of_mem _ hx)]
    rfl
theorem deep_of {n : Nat} : ∀ {ds : List PyData}, (∀ d ∈ ds, PyData.depth d ≤ n) → PyData.depthAll ds ≤ n
  | [], _ => by simp [PyData.depthAll]
  | d :: ds, h => by
    have h1 := h d List.mem_cons_self
    have h2 := deep_of (n := n) (ds := ds) fun x hx => h x (List.mem_cons_of_mem _ hx)
    simp only [PyData.depthAll]
    omega
def Sh (n : Nat) (d : PyData) : Prop := PyData.canLay0 d = true ∧ PyData.depth d ≤ n
theorem sh_tup {n : Nat} {ds : List PyData} (h : ∀ d ∈ ds, Sh n d) : Sh (n + 1) (.tuple ds) := by
  have := deep_of (n := n) fun d hd => (h d hd).2
  exact ⟨by simp only [PyData.canLay0]; exact lay_of fun d hd => (h d hd).1, by simp only [PyData.depth]; omega⟩
theorem sh_lst {n : Nat} {ds : List PyData} (h : ∀ d ∈ ds, Sh n d) : Sh (n + 1) (.list ds) := by
  have := deep_of (n := n) fun d hd => (h d hd).2
  exact ⟨by simp only [PyData.canLay0]; exact lay_of fun d hd => (h d hd).1, by simp only [PyData.depth]; omega⟩
theorem sh_int (i : Int) (n : Nat) : Sh (n + 1) (.int i) := ⟨by simp only [PyData.canLay0], by simp only [PyData.depth]; omega⟩
theorem sh_up {n m : Nat} {d : PyData} (h : n ≤ m) (q : Sh n d) : Sh m d := ⟨q.1, Nat.le_trans q.2 h⟩
theorem sh_shaped {n : Nat} {d : PyData} (h : Sh n d) (hn : n ≤ 64) : SeqAt.shaped d = true := by
  show (PyData.canLay0 d && decide (PyData.depth d ≤ 64)) = true
  rw [Bool.and_eq_true]
  exact ⟨h.1, decide_eq_true (Nat.le_trans h.2 hn)⟩
theorem mem4 {α : Type} {x a b c d : α} (h : x ∈ [a, b, c, d]) : x = a ∨ x = b ∨ x = c ∨ x = d := by simpa using h
theorem eqv_self {d : PyData} (h : SeqAt.shaped d = true) : PyData.eqv d d = true := SeqAt.eqv_refl _ (SeqAt.canLay_of_shaped h)
theorem dps_set {K : PySem.W.Frag} {H : Hp} : ∀ {vs : List V} {ds : List PyData} {v : V} {d : PyData} (i : Nat), DpAll K H vs ds → Dp K H v d → DpAll K H (vs.set i v) (ds.set i d)
  | _, _, _, _, _, .nil, _ => .nil
  | _, _, _, _, 0, .cons _ r, h => .cons h r
  | _, _, _, _, i + 1, .cons a r, h => .cons a (dps_set i r h)
theorem sh_st {z : Str} {n : Nat} (h : PyData.strOk z = true) : Sh (n + 1) (.str z) := ⟨by simp only [PyData.canLay0]; exact h, by simp only [PyData.depth]; omega⟩
theorem sh_none {n : Nat} : Sh (n + 1) .none := ⟨by simp only [PyData.canLay0], by simp only [PyData.depth]; omega⟩
theorem iteNF {A B : Prop} (h : A) : if (!false) = true then A else B := by
  rw [Bool.not_false, if_pos rfl]
  exact h
theorem take_one {α : Type} {l : List α} {i : Nat} {x : α} (h : l[i]? = some x) : l.take (i + 1) = l.take i ++ [x] := by
  rw [List.take_add_one, h]
  rfl
theorem iteNT {A B : Prop} (h : B) : if (!true) = true then A else B := by
  rw [if_neg (by decide)]
  exact h
theorem exT_del {H : Hp} {A : Addr} {xs : List V} (h : H A = some (.lst xs)) : ExT H (del H A) := fun x zs r => by
  have nx : x ≠ A := fun q => by
    rcases r with r | ⟨o, r⟩
    · rw [q, h] at r; cases r
    · rw [q, h] at r; cases r
  rcases r with r | ⟨o, r⟩
  · exact .inl (del_at nx r)
  · exact .inr ⟨o, del_at nx r⟩
theorem at_in {α : Type} {xs : List α} {i : Int} (h0 : 0 ≤ i) (h : i < xs.length) : ∃ v, atI xs i = some v ∧ xs[i.toNat]? = some v ∧ v ∈ xs := by
  have hl : i.toNat < xs.length := by omega
  have e : xs[i.toNat]? = some xs[i.toNat] := List.getElem?_eq_getElem hl
  have z : atI xs ((i.toNat : Nat) : Int) = some xs[i.toNat] := atI_nat e
  rw [show ((i.toNat : Nat) : Int) = i by omega] at z
  exact ⟨xs[i.toNat], z, e, List.getElem_mem hl⟩
/-- the numbers that a law draws -/
structure Nm (K : PySem.W.Frag) (H : Hp) (p : Addr) (ks : List Int) : Prop where
  at_ : SqL K H p (ks.map V.int)
  sm : ∀ n ∈ ks, 0 ≤ n ∧ n < 1009
theorem Nm.ex {K : PySem.W.Frag} {H H' : Hp} {p : Addr} {ks : List Int} (e : Ex H H') (h : Nm K H p ks) : Nm K H' p ks := ⟨ex_l e h.at_, h.sm⟩
theorem Nm.get {K : PySem.W.Frag} {H : Hp} {p : Addr} {ks : List Int} (h : Nm K H p ks) {i : Int} (h0 : 0 ≤ i) (h1 : i < ks.length) : ∃ n, 0 ≤ n ∧ n < 1009 ∧ atI (ks.map V.int) i = some (.int n) := by
  obtain ⟨v, hv, _, hm⟩ := at_in (xs := ks.map V.int) h0 (by rw [List.length_map]; exact h1)
  obtain ⟨n, hn, rfl⟩ := List.mem_map.mp hm
  exact ⟨n, (h.sm n hn).1, (h.sm n hn).2, hv⟩
/-- an f-string as one reading -/
def tJd (ts : List TE) : TE := fun σ H Q => tJs ts Str.empty σ H fun out H1 => Q (.str out) H1
theorem pe_jd {X : Cx} {v1 v2 : Expr} {rest : List Expr} {pos : Pos} {ts : List TE} (h : PJ X (v1 :: v2 :: rest) ts) : PE X (.JoinedStr (v1 :: v2 :: rest) pos) (tJd ts) := pe_joined h
end TX

set_option Elab.async false
set_option linter.all false
set_option maxRecDepth 100000
set_option maxHeartbeats 4000000
/-! a text times a number -/
namespace MulS
open PySem PySem.Spec PyProof.Rows L2
theorem fold_app : ∀ (n : Nat) (x acc : Array Nat), ((List.replicate n x).foldl (· ++ ·) acc).toList = acc.toList ++ (List.replicate n x.toList).flatten
  | 0, x, acc => by simp
  | n + 1, x, acc => by
    rw [List.replicate_succ, List.foldl_cons, fold_app n x, List.replicate_succ, List.flatten_cons, Array.toList_append, List.append_assoc]
theorem mul_tl (z : Str) (n : Int) (h : 0 ≤ n) : (Txt.mul z n).cps.toList = (List.replicate n.toNat z.cps.toList).flatten := by
  unfold Txt.mul
  by_cases h1 : n < 1
  · rw [if_pos h1, show n = 0 by omega]
    rfl
  · rw [if_neg h1]
    by_cases h2 : (n == 1 || z.length == 0) = true
    · rw [if_pos h2]
      rw [Bool.or_eq_true] at h2
      rcases h2 with h2 | h2
      · rw [eq_of_beq h2]
        simp
      · have e : z.cps.toList = [] := by
          have : z.cps.size = 0 := eq_of_beq h2
          exact List.eq_nil_of_length_eq_zero (by rw [Array.length_toList]; exact this)
        rw [e]
        simp
    · rw [if_neg h2]
      exact (fold_app _ _ _).trans (List.nil_append _)
def rMulS : R2 := fun x y H Q => ∃ (z : Str) (n : Int), x = .str z ∧ y = .int n ∧ 0 ≤ n ∧ n ≤ 1000 ∧ z.length ≤ 1000 ∧ ∀ r : Str, r.cps.toList = (List.replicate n.toNat z.cps.toList).flatten → Q (.str r) H
theorem op_mulS {X : Cx} : OpR X (binaryOp .Mult) rMulS := by
  intro pins s σ H x y v u Q I rx ry h
  obtain ⟨z, n, rfl, rfl, h0, h1, hz, q⟩ := h
  obtain ⟨t, rfl⟩ := rx
  obtain ⟨t', rfl⟩ := ry
  refine SB.mul ⟨?_, fun _ _ => ?_, fun _ _ => ?_⟩ (fun t' k => ⟨.str (Txt.mul z n), H, I.tok _, ⟨_, rfl⟩, q _ (mul_tl z n h0)⟩)
  · rw [decide_eq_false (by omega), decide_eq_false (by omega)]
    rfl
  · rcases Int.lt_or_le 0 n with p | p
    · have : (1000 : Int) ≤ (2 ^ 63 - 1) / n := by
        refine (Int.le_ediv_iff_mul_le p).mpr ?_
        omega
      omega
    · obtain rfl : n = 0 := by omega
      omega
  · have : z.length * n.toNat ≤ 1000 * 1000 := Nat.mul_le_mul hz (by omega)
    have e : 1000000 ≤ sizeLine := by decide
    exact decide_eq_false (by omega)
end MulS

set_option Elab.async false
set_option linter.all false
set_option maxRecDepth 100000
set_option maxHeartbeats 4000000
/-! Tuples whose object is known: their methods can be found. -/
namespace TupX
open PySem PySem.Spec PyProof.Rows L2
/-- a tuple whose object is known to be bare -/
def Bare (H : Hp) (a : Addr) (xs : List V) : Prop := ∃ o : Obj, H a = some (.frz o (.tup xs)) ∧ o.cls = .type "tuple" ∧ o.dict = none
theorem Bare.ex {H H' : Hp} {a : Addr} {xs : List V} (e : Evl.Ex H H') (h : Bare H a xs) : Bare H' a xs := by
  obtain ⟨o, h1, h2⟩ := h
  exact ⟨o, e _ _ h1, h2⟩
theorem Bare.sq {K : PySem.W.Frag} {H : Hp} {a : Addr} {xs : List V} (h : Bare H a xs) : SqT K H a xs := by
  obtain ⟨o, h1, _⟩ := h
  exact .inl (.inr ⟨o, h1⟩)
/-- tuple(a list) -/
def rTupF (K : PySem.W.Frag) : List V → Hp → VK → Prop := fun xs H Q => ∃ p ys, xs = [.ref p] ∧ SqL K H p ys ∧ ∀ l H', H l = none → Evl.Ex H H' → Bare H' l ys → Q (.ref l) H'
theorem call_tupF {X : Cx} : CallR X (.type "tuple") (rTupF X.K) := by
  intro pins s σ H xs us Q I r h
  obtain ⟨p, ys, rfl, hq, q⟩ := h
  obtain ⟨u, rfl, rx⟩ := vals1 r
  cases rx
  obtain ⟨its, vs, pl, hz⟩ := I.list hq
  have hlen := vs.length
  apply call_tuple_list pl.isList _ (by simp only [List.size_toArray] <;> omega)
  intro h' kp
  have I1 : Inv X pins σ H { s with heap := h' } := I.kept (t' := s.toks) kp
  have fr : H h'.objs.size = none := I1.hok.fresh (Nat.le_refl _)
  refine ⟨.ref h'.objs.size, upd H h'.objs.size (.frz { cls := .type "tuple", data := .seq its.toArray } (.tup ys)), I1.laid (t' := s.toks) (fun b o e => Heap.get?_push_of_some _ e) (Nat.le_refl _) ⟨?_, hz, its, vs, IsTup.new _ _⟩, rfl, q _ _ fr (Evl.Ex.new fr) ⟨_, upd_same, rfl, rfl⟩⟩
  exact Heap.get?_push_size _ rfl
/-- the receiver of a tuple's method -/
theorem bare_ty {X : Cx} {pins : List (Addr × Obj)} {σ : L2.St} {H : Hp} {s : Shared} {p : Addr} {xs : List V} (I : Inv X pins σ H s) (h : Bare H p xs) : s.TypeIs (.ref p) "tuple" ∧ ∀ a, Value.ref p = .ref a → ∃ ob, s.heap.get? a = some ob ∧ ob.dict = none := by
  obtain ⟨o, h1, hc, hd⟩ := h
  have g : s.heap.get? p = some o := (I.hok p _ h1).1
  exact ⟨⟨o, g, hc⟩, fun a e => by cases e; exact ⟨o, g, hd⟩⟩
def tBMt (r : V → List V → Hp → VK → Prop) (to : TE) (t : TA) : TE := fun σ H Q => to σ H fun x H1 => ∃ (p : Addr) (ys : List V), x = .ref p ∧ Bare H1 p ys ∧ t σ H1 fun xs H2 => r x xs H2 Q
theorem pe_bmT {X : Cx} {o e : Expr} {es : List Expr} {to : TE} {t : TA} {name : Str} {apos cpos : Pos} {id : String} {r : V → List V → Hp → VK → Prop} (pa : PlainAttrs "tuple") (slot : Slot "tuple" name id) (hty : typeOf (.builtin id) = pure (.type "method_descriptor")) (hm : MtR X id r) (ho : PE X o to) (ha : PA X (e :: es) t)
    (hbase : attributeBase o name X.env (eval o X.env) = eval o X.env := by rfl)
    (hfew : ((backTo cpos (starEach (e :: es) X.env)).all (fun x => !x.1) && (backToKw cpos (keywordEach [] X.env)).all (fun x => x.1.isSome)
      && decide ((e :: es).length + ([] : List Keyword).length + (if ([] : List Keyword).isEmpty then 0 else 1) < 30)) = true := by rfl)
    (hline : (apos.endLine == cpos.line) = true := by rfl) (hs : starEach (e :: es) X.env = (false, eval e X.env) :: starEach es X.env := by rfl) (hplain : (backTo cpos (starEach es X.env)).any (·.1) = false := by rfl) :
    PE X (.Call (.Attribute o name apos) (e :: es) [] cpos) (tBMt r to t) := by
  constructor
  intro pins s σ H Q I h
  apply wpAny_Call_method_late hbase hfew hline rfl
  apply thn (ho.run pins s σ H _ I h)
  rintro v s1 ⟨x, H1, I1, r1, p, ys, rfl, hb, q1⟩
  cases r1
  obtain ⟨h1, h2⟩ := bare_ty I1 hb
  refine ⟨"tuple", id, pa, slot, hty, h1, h2, ?_⟩
  have hA := ha.run cpos pins s1 σ H1 _ I1 q1
  rw [hs] at hA ⊢
  refine Calls.callWith_builtin (by show (false || (backTo cpos (starEach es X.env)).any (·.1)) = false; rw [hplain] <;> rfl) (Calls.evalArgs_plain ?_)
  apply thn hA
  rintro us s2 ⟨vs, H2, I2, r2, q2⟩
  exact hm pins s2 σ H2 (.ref p) vs (.ref p) us Q I2 rfl r2 q2
end TupX

set_option Elab.async false
set_option linter.all false
set_option maxRecDepth 100000
set_option maxHeartbeats 4000000
/-! a written tuple whose methods can be found -/
namespace TupX
open PySem PySem.Spec PyProof.Rows L2
def tTupB (t : TA) : TE := fun σ H Q => t σ H fun xs H1 => xs.length ≤ sizeLine ∧ ∀ p H2, H1 p = none → Evl.Ex H1 H2 → Bare H2 p xs → Q (.ref p) H2
theorem pe_tupB {X : Cx} {es : List Expr} {t : TA} {x1} {pos : Pos} (h : PA X es t) : PE X (.Tuple es x1 pos) (tTupB t) := by
  refine ⟨fun pins s σ H Q I hq => ?_⟩
  refine wpAny_Tuple_spliced (thn (h.run pos pins s σ H _ I hq) fun us s1 ⟨xs, H1, I1, r, z, q⟩ => ⟨by rw [← r.length]; exact z, ?_⟩)
  have hf : H1 s1.heap.objs.size = none := I1.hok.fresh (Nat.le_refl _)
  refine ⟨.ref s1.heap.objs.size, upd H1 s1.heap.objs.size (.frz { cls := .type "tuple", data := .seq us.toArray } (.tup xs)), I1.laid (t' := s1.toks) (fun b u e => Heap.get?_push_of_some _ e) (Nat.le_refl _) ⟨?_, z, us, r, IsTup.new _ _⟩, rfl, q _ _ hf (Evl.Ex.new hf) ⟨_, upd_same, rfl, rfl⟩⟩
  exact Heap.get?_push_size _ rfl
end TupX

set_option Elab.async false
set_option linter.all false
set_option maxRecDepth 100000
set_option maxHeartbeats 4000000
/-! repr of a value that may be None, at the places of GrdX -/
namespace GrdX
open PySem PySem.Spec PyProof.Rows L2 EvS
def rReprN (K : PySem.W.Frag) : List V → Hp → VK → Prop := fun xs H Q => (xs = [.non] ∧ Q (.str "None") H) ∨ rRepr K xs H Q
theorem call_reprN {X : Cx} (hg : X.A.guards = some []) (hu : X.A.units + 64 < cLine) : CallR X (.builtin "repr") (rReprN X.K) := by
  intro pins s σ H xs us Q I r h
  rcases h with ⟨rfl, q⟩ | h
  · obtain ⟨u, rfl, rx⟩ := vals1 r
    cases rx
    exact PySem.P.repr_of_none ⟨.str _, H, I.tok _, ⟨_, rfl⟩, q⟩
  · exact call_repr hg hu pins s σ H xs us Q I r h
end GrdX

set_option Elab.async false
set_option linter.all false
set_option maxRecDepth 100000
set_option maxHeartbeats 4000000
/-! data that can be shown: how deep, how heavy -/
namespace RpX
open PySem PySem.Spec PyProof.Rows L2
structure Rp (n w : Nat) (d : PyData) : Prop where
  lay : PyData.canLay0 d = true
  dep : PyData.depth d ≤ n
  wt : PyData.weight d ≤ w
  sh : PyData.showable d = true
  short : PyData.intsShort 13 d = true
theorem Rp.up {n m w v : Nat} {d : PyData} (h : Rp n w d) (a : n ≤ m) (b : w ≤ v) : Rp m v d := ⟨h.lay, Nat.le_trans h.dep a, Nat.le_trans h.wt b, h.sh, h.short⟩
theorem rp_str {n w : Nat} {z : Str} (h : PyData.canLay0 (.str z) = true) (l : z.cps.size ≤ w) : Rp n w (.str z) := ⟨h, by simp only [PyData.depth]; omega, by simp only [PyData.weight]; exact l, by simp only [PyData.showable], by simp only [PyData.intsShort]⟩
theorem rp_none {n w : Nat} : Rp n w .none := ⟨by simp only [PyData.canLay0], by simp only [PyData.depth]; omega, by simp only [PyData.weight]; omega, by simp only [PyData.showable], by simp only [PyData.intsShort]⟩
theorem log2_le {m k : Nat} (h : m < 2 ^ (k + 1)) : m.log2 ≤ k := by
  rcases Nat.eq_zero_or_pos m with rfl | p
  · simp
  · have := (Nat.log2_lt (Nat.pos_iff_ne_zero.mp p)).mpr h
    omega
theorem rp_int {n : Nat} {i : Int} (h1 : -999999999999 ≤ i) (h2 : i ≤ 999999999999) : Rp n 41 (.int i) := by
  have b : i.natAbs < 2 ^ (39 + 1) := by have : (2 : Nat) ^ (39 + 1) = 1099511627776 := by decide +kernel
                                         omega
  have l := log2_le b
  refine ⟨by simp only [PyData.canLay0], by simp only [PyData.depth]; omega, ?_, ?_, ?_⟩
  · simp only [PyData.weight]
    split <;> omega
  · simp only [PyData.showable]
    exact decide_eq_true (by omega)
  · simp only [PyData.intsShort]
    exact decide_eq_true (PyData.shown_int_le2 h1 h2)
theorem rp_all {n w : Nat} : ∀ {ds : List PyData}, (∀ d ∈ ds, Rp n w d) → PyData.canLayAll0 ds = true ∧ PyData.depthAll ds ≤ n ∧ PyData.weightAll ds ≤ ds.length * (w + 1) ∧ PyData.showableAll ds = true ∧ PyData.intsShortAll 13 ds = true
  | [], _ => ⟨by simp only [PyData.canLayAll0], by simp only [PyData.depthAll]; omega, by simp only [PyData.weightAll]; omega, by simp only [PyData.showableAll], by simp only [PyData.intsShortAll]⟩
  | d :: ds, h => by
    obtain ⟨a1, a2, a3, a4, a5⟩ := rp_all fun x hx => h x (List.mem_cons_of_mem _ hx)
    obtain ⟨b1, b2, b3, b4, b5⟩ := h d List.mem_cons_self
    refine ⟨by simp only [PyData.canLayAll0, b1, a1, Bool.and_self], by simp only [PyData.depthAll]; omega, ?_, by simp only [PyData.showableAll, b4, a4, Bool.and_self], by simp only [PyData.intsShortAll, b5, a5, Bool.and_self]⟩
    simp only [PyData.weightAll, List.length_cons, Nat.add_mul]
    omega
theorem rp_tup {n w m : Nat} {ds : List PyData} (h : ∀ d ∈ ds, Rp n w d) (l : ds.length ≤ m) : Rp (n + 1) (m * (w + 1)) (.tuple ds) := by
  obtain ⟨a1, a2, a3, a4, a5⟩ := rp_all h
  exact ⟨by simp only [PyData.canLay0]; exact a1, by simp only [PyData.depth]; omega, by simp only [PyData.weight]; exact Nat.le_trans a3 (Nat.mul_le_mul_right _ l), by simp only [PyData.showable]; exact a4, by simp only [PyData.intsShort]; exact a5⟩
theorem rp_lst {n w m : Nat} {ds : List PyData} (h : ∀ d ∈ ds, Rp n w d) (l : ds.length ≤ m) : Rp (n + 1) (m * (w + 1)) (.list ds) := by
  obtain ⟨a1, a2, a3, a4, a5⟩ := rp_all h
  exact ⟨by simp only [PyData.canLay0]; exact a1, by simp only [PyData.depth]; omega, by simp only [PyData.weight]; exact Nat.le_trans a3 (Nat.mul_le_mul_right _ l), by simp only [PyData.showable]; exact a4, by simp only [PyData.intsShort]; exact a5⟩
theorem Rp.nd {n w : Nat} {d : PyData} (h : Rp n w d) : d.hasDict = false := PyData.hasDict_of_canLay d h.lay
theorem Rp.d20 {n w : Nat} {d : PyData} (h : Rp n w d) (hn : n ≤ 20 := by decide) : d.depth ≤ 20 := Nat.le_trans h.dep hn
theorem Rp.fits {n w : Nat} {d : PyData} (h : Rp n w d) (hn : n ≤ 20 := by decide) (hw : w ≤ 2 ^ 20 := by decide) : d.shown.length ≤ sizeLine := PyData.shown_fits_of_layable0 (B := 13) (by decide) (by decide) (by
    show (PyData.canLay0 d && decide (PyData.depth d ≤ 64) && decide (PyData.weight d ≤ 2 ^ 20)) = true
    rw [h.lay, decide_eq_true (show PyData.depth d ≤ 64 by have := h.dep; omega), decide_eq_true (show PyData.weight d ≤ 2 ^ 20 from Nat.le_trans h.wt hw)]
    rfl) h.short
end RpX

set_option Elab.async false
set_option linter.all false
set_option maxRecDepth 100000
set_option maxHeartbeats 4000000
namespace EV
open PySem PySem.Spec PyProof.Rows L2 EvS
def top (i : Nat) : Stmt := PySem.Challenge.pw_everyfire_k53_words_of_a_session.main.body.getD i (.Pass ⟨0, 0, 0, 0⟩)
abbrev s_is_name : Stmt := top 4
abbrev s_is_number : Stmt := top 7
abbrev s_split_words : Stmt := top 10
abbrev s_is_command : Stmt := top 11
abbrev s_row_of : Stmt := top 12
abbrev s_has_form : Stmt := top 13
abbrev s__fits : Stmt := top 14
abbrev s__law_row : Stmt := top 16
abbrev s__law_numbers : Stmt := top 17
abbrev s__law_word : Stmt := top 18
abbrev s__law_is_name : Stmt := top 19
abbrev s__law_is_number : Stmt := top 20
abbrev s__law_form : Stmt := top 21
abbrev s__law_has_form : Stmt := top 22
abbrev s__law_command : Stmt := top 23
abbrev s__law_row_due : Stmt := top 24
abbrev s__law_formed : Stmt := top 25
abbrev s_law : Stmt := top 26
theorem sc_is_name : FnScope ["text", "sign"] ["text"] (defScope s_is_name) := ⟨rfl, rfl, rfl, by decide +kernel, rfl, by decide +kernel, by decide +kernel⟩
theorem sc_is_number : FnScope ["word", "sign"] ["word"] (defScope s_is_number) := ⟨rfl, rfl, rfl, by decide +kernel, rfl, by decide +kernel, by decide +kernel⟩
theorem sc_split_words : FnScope ["line", "word"] ["line"] (defScope s_split_words) := ⟨rfl, rfl, rfl, by decide +kernel, rfl, by decide +kernel, by decide +kernel⟩
theorem sc_is_command : FnScope ["words", "form"] ["words"] (defScope s_is_command) := ⟨rfl, rfl, rfl, by decide +kernel, rfl, by decide +kernel, by decide +kernel⟩
theorem sc_row_of : FnScope ["words"] ["words"] (defScope s_row_of) := ⟨rfl, rfl, rfl, by decide +kernel, rfl, by decide +kernel, by decide +kernel⟩
theorem sc_has_form : FnScope ["words", "form", "slots", "word", "slot"] ["words", "form"] (defScope s_has_form) := ⟨rfl, rfl, rfl, by decide +kernel, rfl, by decide +kernel, by decide +kernel⟩
theorem sc__fits : FnScope ["word", "slot"] ["word", "slot"] (defScope s__fits) := ⟨rfl, rfl, rfl, by decide +kernel, rfl, by decide +kernel, by decide +kernel⟩
theorem sc__law_row : FnScope ["cell", "many", "row", "rest", "mixed", "k"] ["cell", "many"] (defScope s__law_row) := ⟨rfl, rfl, rfl, by decide +kernel, rfl, by decide +kernel, by decide +kernel⟩
theorem sc__law_numbers : FnScope ["script", "many", "cells", "each", "numbers", "cell", "number"] ["script", "many"] (defScope s__law_numbers) := ⟨rfl, rfl, rfl, by decide +kernel, rfl, by decide +kernel, by decide +kernel⟩
theorem sc__law_word : FnScope ["number", "more", "words", "letters", "size", "word", "k"] ["number", "more"] (defScope s__law_word) := ⟨rfl, rfl, rfl, by decide +kernel, rfl, by decide +kernel, by decide +kernel⟩
theorem sc__law_is_name : FnScope ["word", "char"] ["word"] (defScope s__law_is_name) := ⟨rfl, rfl, rfl, by decide +kernel, rfl, by decide +kernel, by decide +kernel⟩
theorem sc__law_is_number : FnScope ["word", "char"] ["word"] (defScope s__law_is_number) := ⟨rfl, rfl, rfl, by decide +kernel, rfl, by decide +kernel, by decide +kernel⟩
theorem sc__law_form : FnScope ["word", "names", "forms"] ["word"] (defScope s__law_form) := ⟨rfl, rfl, rfl, by decide +kernel, rfl, by decide +kernel, by decide +kernel⟩
theorem sc__law_has_form : FnScope ["words", "form", "k"] ["words", "form"] (defScope s__law_has_form) := ⟨rfl, rfl, rfl, by decide +kernel, rfl, by decide +kernel, by decide +kernel⟩
theorem sc__law_command : FnScope ["words"] ["words"] (defScope s__law_command) := ⟨rfl, rfl, rfl, by decide +kernel, rfl, by decide +kernel, by decide +kernel⟩
theorem sc__law_row_due : FnScope ["words"] ["words"] (defScope s__law_row_due) := ⟨rfl, rfl, rfl, by decide +kernel, rfl, by decide +kernel, by decide +kernel⟩
theorem sc__law_formed : FnScope ["numbers", "words", "names", "figures", "heads", "place", "line", "sort", "word"] ["numbers", "words"] (defScope s__law_formed) := ⟨rfl, rfl, rfl, by decide +kernel, rfl, by decide +kernel, by decide +kernel⟩
theorem sc_law : FnScope ["script", "numbers", "words", "line", "place", "text", "k", "told", "passed", "actual"] ["script"] (defScope s_law) := ⟨rfl, rfl, rfl, by decide +kernel, rfl, by decide +kernel, by decide +kernel⟩
/-- where the top has put things -/
structure Ad where
  q_COMMANDS : Addr
  f_is_name : Addr
  d_is_name : FuncData
  f_is_number : Addr
  d_is_number : FuncData
  f_split_words : Addr
  d_split_words : FuncData
  f_is_command : Addr
  d_is_command : FuncData
  f_row_of : Addr
  d_row_of : FuncData
  f_has_form : Addr
  d_has_form : FuncData
  f__fits : Addr
  d__fits : FuncData
  f__law_row : Addr
  d__law_row : FuncData
  f__law_numbers : Addr
  d__law_numbers : FuncData
  f__law_word : Addr
  d__law_word : FuncData
  f__law_is_name : Addr
  d__law_is_name : FuncData
  f__law_is_number : Addr
  d__law_is_number : FuncData
  f__law_form : Addr
  d__law_form : FuncData
  f__law_has_form : Addr
  d__law_has_form : FuncData
  f__law_command : Addr
  d__law_command : FuncData
  f__law_row_due : Addr
  d__law_row_due : FuncData
  f__law_formed : Addr
  d__law_formed : FuncData
  f_law : Addr
  d_law : FuncData
structure Txt (K : PySem.W.Frag) (mg : Str → Option Value) (a : Ad) : Prop where
  F_is_name : Fun K "is_name" "is_name" s_is_name a.f_is_name a.d_is_name
  B_is_name : Binds K a.d_is_name ["text"] []
  k_is_name : PySem.W.keepIn K (.ref a.f_is_name) = true
  g_is_name : mg "is_name" = some (.ref a.f_is_name)
  F_is_number : Fun K "is_number" "is_number" s_is_number a.f_is_number a.d_is_number
  B_is_number : Binds K a.d_is_number ["word"] []
  k_is_number : PySem.W.keepIn K (.ref a.f_is_number) = true
  g_is_number : mg "is_number" = some (.ref a.f_is_number)
  F_split_words : Fun K "split_words" "split_words" s_split_words a.f_split_words a.d_split_words
  B_split_words : Binds K a.d_split_words ["line"] []
  k_split_words : PySem.W.keepIn K (.ref a.f_split_words) = true
  g_split_words : mg "split_words" = some (.ref a.f_split_words)
  F_is_command : Fun K "is_command" "is_command" s_is_command a.f_is_command a.d_is_command
  B_is_command : Binds K a.d_is_command ["words"] []
  k_is_command : PySem.W.keepIn K (.ref a.f_is_command) = true
  g_is_command : mg "is_command" = some (.ref a.f_is_command)
  F_row_of : Fun K "row_of" "row_of" s_row_of a.f_row_of a.d_row_of
  B_row_of : Binds K a.d_row_of ["words"] []
  k_row_of : PySem.W.keepIn K (.ref a.f_row_of) = true
  g_row_of : mg "row_of" = some (.ref a.f_row_of)
  F_has_form : Fun K "has_form" "has_form" s_has_form a.f_has_form a.d_has_form
  B_has_form : Binds K a.d_has_form ["words", "form"] []
  k_has_form : PySem.W.keepIn K (.ref a.f_has_form) = true
  g_has_form : mg "has_form" = some (.ref a.f_has_form)
  F__fits : Fun K "_fits" "_fits" s__fits a.f__fits a.d__fits
  B__fits : Binds K a.d__fits ["word", "slot"] []
  k__fits : PySem.W.keepIn K (.ref a.f__fits) = true
  g__fits : mg "_fits" = some (.ref a.f__fits)
  F__law_row : Fun K "_law_row" "_law_row" s__law_row a.f__law_row a.d__law_row
  B__law_row : Binds K a.d__law_row ["cell", "many"] []
  k__law_row : PySem.W.keepIn K (.ref a.f__law_row) = true
  g__law_row : mg "_law_row" = some (.ref a.f__law_row)
  F__law_numbers : Fun K "_law_numbers" "_law_numbers" s__law_numbers a.f__law_numbers a.d__law_numbers
  B__law_numbers : Binds K a.d__law_numbers ["script", "many"] []
  k__law_numbers : PySem.W.keepIn K (.ref a.f__law_numbers) = true
  g__law_numbers : mg "_law_numbers" = some (.ref a.f__law_numbers)
  F__law_word : Fun K "_law_word" "_law_word" s__law_word a.f__law_word a.d__law_word
  B__law_word : Binds K a.d__law_word ["number", "more"] []
  k__law_word : PySem.W.keepIn K (.ref a.f__law_word) = true
  g__law_word : mg "_law_word" = some (.ref a.f__law_word)
  F__law_is_name : Fun K "_law_is_name" "_law_is_name" s__law_is_name a.f__law_is_name a.d__law_is_name
  B__law_is_name : Binds K a.d__law_is_name ["word"] []
  k__law_is_name : PySem.W.keepIn K (.ref a.f__law_is_name) = true
  g__law_is_name : mg "_law_is_name" = some (.ref a.f__law_is_name)
  F__law_is_number : Fun K "_law_is_number" "_law_is_number" s__law_is_number a.f__law_is_number a.d__law_is_number
  B__law_is_number : Binds K a.d__law_is_number ["word"] []
  k__law_is_number : PySem.W.keepIn K (.ref a.f__law_is_number) = true
  g__law_is_number : mg "_law_is_number" = some (.ref a.f__law_is_number)
  F__law_form : Fun K "_law_form" "_law_form" s__law_form a.f__law_form a.d__law_form
  B__law_form : Binds K a.d__law_form ["word"] []
  k__law_form : PySem.W.keepIn K (.ref a.f__law_form) = true
  g__law_form : mg "_law_form" = some (.ref a.f__law_form)
  F__law_has_form : Fun K "_law_has_form" "_law_has_form" s__law_has_form a.f__law_has_form a.d__law_has_form
  B__law_has_form : Binds K a.d__law_has_form ["words", "form"] []
  k__law_has_form : PySem.W.keepIn K (.ref a.f__law_has_form) = true
  g__law_has_form : mg "_law_has_form" = some (.ref a.f__law_has_form)
  F__law_command : Fun K "_law_command" "_law_command" s__law_command a.f__law_command a.d__law_command
  B__law_command : Binds K a.d__law_command ["words"] []
  k__law_command : PySem.W.keepIn K (.ref a.f__law_command) = true
  g__law_command : mg "_law_command" = some (.ref a.f__law_command)
  F__law_row_due : Fun K "_law_row_due" "_law_row_due" s__law_row_due a.f__law_row_due a.d__law_row_due
  B__law_row_due : Binds K a.d__law_row_due ["words"] []
  k__law_row_due : PySem.W.keepIn K (.ref a.f__law_row_due) = true
  g__law_row_due : mg "_law_row_due" = some (.ref a.f__law_row_due)
  F__law_formed : Fun K "_law_formed" "_law_formed" s__law_formed a.f__law_formed a.d__law_formed
  B__law_formed : Binds K a.d__law_formed ["numbers", "words"] []
  k__law_formed : PySem.W.keepIn K (.ref a.f__law_formed) = true
  g__law_formed : mg "_law_formed" = some (.ref a.f__law_formed)
  F_law : Fun K "law" "law" s_law a.f_law a.d_law
  B_law : Binds K a.d_law ["script"] []
  k_law : PySem.W.keepIn K (.ref a.f_law) = true
  g_law : mg "law" = some (.ref a.f_law)
  z_abs : mg "abs" = none
  z_all : mg "all" = none
  z_any : mg "any" = none
  z_bool : mg "bool" = none
  z_int : mg "int" = none
  z_isinstance : mg "isinstance" = none
  z_len : mg "len" = none
  z_list : mg "list" = none
  z_max : mg "max" = none
  z_range : mg "range" = none
  z_repr : mg "repr" = none
  z_zip : mg "zip" = none
  z_sorted : mg "sorted" = none
  z_tuple : mg "tuple" = none
  z_set : mg "set" = none
  g_COMMANDS : mg "COMMANDS" = some (.ref a.q_COMMANDS)
  t_COMMANDS : ∀ H : Hp, SqT K H a.q_COMMANDS [.str "land NAME", .str "case NAME LAND", .str "start CASE PLACE MINUTE", .str "break CASE PLACE MINUTE", .str "free CASE PLACE", .str "ask CASE PLACE", .str "states CASE", .str "show CASE", .str "print LAND", .str "undo", .str "redo", .str "lands", .str "cases", .str "remove land NAME", .str "remove case NAME"]
  c_DIGITS : ∃ t, mg "DIGITS" = some (.str "0123456789" t)
  c_LETTERS : ∃ t, mg "LETTERS" = some (.str "abcdefghijklmnopqrstuvwxyz" t)
  c_LONGEST_NAME : ∃ t, mg "LONGEST_NAME" = some (.int 12 t)
  c_MOST_DIGITS : ∃ t, mg "MOST_DIGITS" = some (.int 6 t)
end EV

set_option Elab.async false
set_option linter.all false
set_option maxRecDepth 100000
set_option maxHeartbeats 4000000
namespace EV
open PySem PySem.Spec PyProof.Rows L2 EvS Evl
def LETS : List Nat := ("abcdefghijklmnopqrstuvwxyz" : Str).cps.toList
def DIGS : List Nat := ("0123456789" : Str).cps.toList
def okSign (c : Nat) : Bool := decide (c ∈ LETS) || decide (c ∈ DIGS)
/-- point 2 -/
def isName (z : Str) : Bool := decide (1 ≤ z.length ∧ z.length ≤ 12) && (z.cps.toList.head?.any fun c => decide (c ∈ LETS)) && z.cps.toList.all okSign
def sp_is_name : Sp := fun vs H Q _ => ∃ z : Str, vs = [.str z] ∧ z.length ≤ 10000 ∧ ∀ H', Ex H H' → Q (.bl (isName z)) H'
section
variable {P : Program} {w : World} {K : PySem.W.Frag} {mg : Str → Option Value} {base : Heap} {a : Ad}
theorem G_is_name (T : Txt K mg a) : FnOk P w K mg base CX0 1 a.f_is_name a.d_is_name ["text"] sp_is_name := by
  refine T.F_is_name.ok sc_is_name (fun vs H Q E h => ?_) (fun cdv A outer s H vs Q E hr h => ?_)
  · obtain ⟨z, rfl, _⟩ := h
    rfl
  · obtain ⟨z, rfl, hz, k⟩ := h
    have hzs : z.length ≤ sizeLine := sz_of (by omega)
    refine ⟨_, (pss_cons (ps_if (pt_not (pt_chain op_le op_le pe_int (pe_callB call_len_str (by rfl) T.z_len PySem.boot_len (pa_cons (pv 0) pa_nil)) (pe_gI rfl T.c_LONGEST_NAME))) (pss_one (ps_ret pe_bl)) pss_nil)
      (pss_one (ps_ret (pe_and (pe_cmpR op_in_sign (pe_ix ix_str (pv 0) pe_int (fun _ _ => rfl)) (pe_gS rfl T.c_LETTERS) rfl) (pe_one (pe_callB (cr_all rfl) (by rfl) T.z_all (by decide +kernel) (pa_cons (pe_lc (own := [("sign", 1)]) (g := gName 1) (tt := tYes) rfl sc_is_name.nd (pi_str (pv 0)) (blkOk_by (N := ["text", "sign"]) (sc := defScope s_is_name) (by decide +kernel)) (fun _ _ _ _ _ => pg_name (i := 1) sc_is_name.nd rfl (Or.inl rfl)) (fun _ _ _ _ _ => pts_nil) (fun _ _ _ _ _ => (pe_or (pe_cmpR op_in_sign (pv 1) (pe_gS rfl T.c_LETTERS) rfl) (pe_one (pe_cmpR op_in_sign (pv 1) (pe_gS rfl T.c_DIGITS) rfl))))) pa_nil))))))), ?_⟩
    have no : ¬ (1 ≤ z.length ∧ z.length ≤ 12) → Q (.bl false) H := fun n => by
      have e : isName z = false := by
        unfold isName
        rw [decide_eq_false n]
        rfl
      have q := k H (Ex.refl H)
      rw [e] at q
      exact q
    refine ⟨_, rfl, _, rfl, hzs, _, _, rfl, rfl, _, rfl, ?_⟩
    refine ite2 (fun h1 => ?_) (fun h1 => ?_)
    · refine ⟨_, _, rfl, rfl, _, rfl, ?_⟩
      have h1' : 1 ≤ z.length := by
        have := of_decide_eq_true h1
        omega
      refine ite2 (fun h2 => ?_) (fun h2 => ?_)
      · exact no (fun n => by simp at h2; omega)
      · have h2' : z.length ≤ 12 := by
          simp at h2
          omega
        have hsz : z.cps.size = z.length := rfl
        obtain ⟨c0, hc0⟩ : ∃ c, z.cps[0]? = some c := ⟨_, Array.getElem?_eq_getElem (by omega)⟩
        have hl0 : z.cps.toList[0]? = some c0 := by rw [Array.getElem?_toList]; exact hc0
        have hh : z.cps.toList.head? = some c0 := by rw [List.head?_eq_getElem?]; exact hl0
        refine ⟨_, rfl, z, 0, c0, rfl, rfl, hzs, ?_, ?_⟩
        · have := atI_nat (j := 0) hl0
          simpa using this
        · refine ⟨c0, _, rfl, rfl, _, rfl, ?_⟩
          have rest : ∀ H', Ex H H' → Q (.bl (decide (c0 ∈ LETS) && z.cps.toList.all okSign)) H' := fun H' e => by
            have q := k H' e
            have ei : isName z = (decide (c0 ∈ LETS) && z.cps.toList.all okSign) := by
              unfold isName
              rw [decide_eq_true (show 1 ≤ z.length ∧ z.length ≤ 12 from ⟨h1', h2'⟩), hh]
              rfl
            rw [ei] at q
            exact q
          refine ite2 (fun h3 => ?_) (fun h3 => ?_)
          · have h3' : decide (c0 ∈ LETS) = true := h3
            rw [h3', Bool.true_and] at rest
            have hlen : z.cps.toList.length = z.cps.size := Array.length_toList
            refine ⟨_, rfl, z, rfl, fun D hD => lcY_sign (fun i H' => H D = none ∧ Ex H H' ∧ H' D = some (.lst ((z.cps.toList.take i).map fun c => V.bl (okSign c)))) ⟨hD, Ex.new hD, upd_same⟩ (fun i c H' hc p => ?_) (fun H' p => ?_)⟩
            · obtain ⟨p1, p2, p3⟩ := p
              have hil : i < z.cps.size := (Array.getElem?_eq_some_iff.mp hc).1
              have hlc : z.cps.toList[i]? = some c := by rw [Array.getElem?_toList]; exact hc
              have stp : (z.cps.toList.take (i + 1)).map (fun c => V.bl (okSign c)) = (z.cps.toList.take i).map (fun c => V.bl (okSign c)) ++ [V.bl (okSign c)] := by
                rw [List.take_add_one, hlc, List.map_append]
                rfl
              have fin : ∃ acc, H' D = some (.lst acc) ∧ acc.length < sizeLine ∧ H D = none ∧ Ex H (upd H' D (.lst (acc ++ [V.bl (okSign c)]))) ∧ (upd H' D (.lst (acc ++ [V.bl (okSign c)]))) D = some (.lst ((z.cps.toList.take (i + 1)).map fun c => V.bl (okSign c))) := by
                refine ⟨_, p3, sz_lt ?_, p1, Ex.mut p2 p1, ?_⟩
                · rw [List.length_map, List.length_take]
                  omega
                · rw [stp]
                  exact upd_same
              refine ⟨rfl, ?_⟩
              refine ⟨_, rfl, c, _, rfl, rfl, _, rfl, ?_⟩
              refine ite2 (fun h5 => ?_) (fun h5 => ?_)
              · have e : okSign c = true := by
                  unfold okSign
                  rw [show decide (c ∈ LETS) = true from h5]
                  rfl
                rw [e] at fin
                exact fin
              · refine ⟨_, rfl, c, _, rfl, rfl, ?_⟩
                have e : okSign c = decide (c ∈ DIGS) := by
                  unfold okSign
                  rw [show decide (c ∈ LETS) = false from Bool.eq_false_iff.mpr h5]
                  rfl
                rw [e] at fin
                exact fin
            · obtain ⟨p1, p2, p3⟩ := p
              rw [← hlen, List.take_length] at p3
              refine ⟨D, z.cps.toList.map okSign, rfl, ?_, ?_⟩
              · rw [List.map_map]
                exact SqL.of p3
              · have q := rest H' p2
                have e : (z.cps.toList.map okSign).all id = z.cps.toList.all okSign := by
                  rw [List.all_map]
                  rfl
                rw [e]
                exact q
          · have h3' : decide (c0 ∈ LETS) = false := Bool.eq_false_iff.mpr h3
            rw [h3', Bool.false_and] at rest
            exact rest H (Ex.refl H)
    · exact ⟨_, rfl, no (fun n => by simp at h1; omega)⟩
end
end EV

set_option Elab.async false
set_option linter.all false
set_option maxRecDepth 100000
set_option maxHeartbeats 4000000
namespace EV
open PySem PySem.Spec PyProof.Rows L2 EvS Evl
def Small (l : List Int) : Prop := ∀ n ∈ l, 0 ≤ n ∧ n < 1009
theorem small_snoc {l : List Int} {n : Int} (h : Small l) (a : 0 ≤ n) (b : n < 1009) : Small (l ++ [n]) := fun x hx => by
  rcases List.mem_append.mp hx with q | q
  · exact h x q
  · rw [List.mem_singleton] at q
    subst q
    exact ⟨a, b⟩
/-- a new list of m small numbers -/
def NewNums (m : Int) (H : Hp) (Q : VK) : Prop := ∀ H' p (ns : List Int), Ex H H' → H p = none → H' p = some (.lst (ns.map V.int)) → (ns.length : Int) = m → Small ns → Q (.ref p) H'
def sp__law_row : Sp := fun vs H Q _ => ∃ (c m : Int), vs = [.int c, .int m] ∧ 0 ≤ m ∧ m ≤ 10000 ∧ NewNums m H Q
def sp__law_numbers (K : PySem.W.Frag) : Sp := fun vs H Q _ => ∃ (p : Addr) (ns : List Int) (m : Int), vs = [.ref p, .int m] ∧ SqL K H p (ns.map V.int) ∧ 0 ≤ m ∧ m ≤ 1000 ∧ NewNums m H Q
theorem cutV_to (xs : List V) (k : Nat) : cutV xs none (some (k : Int)) = xs.take k := by
  unfold cutV
  rw [HT.sIx_nat, HT.sIx_none, List.drop_zero, Nat.sub_zero]
  rcases Nat.le_total k xs.length with h | h
  · rw [Nat.min_eq_left h]
  · rw [Nat.min_eq_right h, List.take_length, List.take_of_length_le h]
section
variable {P : Program} {w : World} {K : PySem.W.Frag} {mg : Str → Option Value} {base : Heap} {a : Ad}
theorem G__law_row (T : Txt K mg a) : FnOk P w K mg base CX0 1 a.f__law_row a.d__law_row ["cell", "many"] sp__law_row := by
  refine T.F__law_row.ok sc__law_row (fun vs H Q E h => ?_) (fun cdv A outer s H vs Q E hr h => ?_)
  · obtain ⟨c, m, rfl, _⟩ := h
    rfl
  · obtain ⟨c, m, rfl, m0, m1, k⟩ := h
    refine ⟨_, (pss_cons (ps_set (i := 2) sc__law_row.nd rfl (Or.inl rfl) (pe_lst pa_nil))
      (pss_cons (ps_set (i := 3) sc__law_row.nd rfl (Or.inl rfl) (pe_callB call_abs (by rfl) T.z_abs (by decide +kernel) (pa_cons (pv 0) pa_nil)))
      (pss_cons (ps_set (i := 4) sc__law_row.nd rfl (Or.inl rfl) (pe_op op_mod (pe_callTy call_int1 (by rfl) T.z_int (by decide +kernel) (pa_cons (pe_op op_add (pe_op op_mul (pv 3) pe_int) pe_int) pa_nil)) pe_int))
      (pss_cons (ps_for PassesOwn.never rfl (pi_range1 (by rfl) T.z_range (pa_cons (pv 1) pa_nil)) (pg_name (i := 5) sc__law_row.nd rfl (Or.inl rfl)) (pss_cons (ps_set (i := 4) sc__law_row.nd rfl (Or.inl rfl) (pe_op op_mod (pe_callTy call_int1 (by rfl) T.z_int (by decide +kernel) (pa_cons (pe_op op_add (pe_op op_mul (pv 4) pe_int) (pe_op op_mul pe_int (pe_op op_add (pv 5) pe_int))) pa_nil)) pe_int))
        (pss_one (ps_if (pt_cmpR op_ge (pe_callB call_abs (by rfl) T.z_abs (by decide +kernel) (pa_cons (pv 0) pa_nil)) (pe_op op_pow pe_int pe_int) (nomark _)) (pss_cons (ps_expr (pe_bm PySem.F.plainAttrs_list PySem.F.slot_list_append PySem.F.type_list_append mt_append (pv 2) (pa_cons (pe_op op_mod (pe_callTy call_int1 (by rfl) T.z_int (by decide +kernel) (pa_cons (pv 3) pa_nil)) pe_int) pa_nil)))
          (pss_one (ps_set (i := 3) sc__law_row.nd rfl (Or.inl rfl) (pe_op op_fdiv (pv 3) pe_int)))) (pss_one (ps_expr (pe_bm PySem.F.plainAttrs_list PySem.F.slot_list_append PySem.F.type_list_append mt_append (pv 2) (pa_cons (pe_op op_mod (pe_callTy call_int1 (by rfl) T.z_int (by decide +kernel) (pa_cons (pe_op op_fdiv (pv 4) pe_int) pa_nil)) pe_int) pa_nil))))))))
      (pss_one (ps_ret (pv 2))))))), ?_⟩
    refine ⟨Nat.zero_le _, fun l hl => ?_⟩
    refine ⟨_, rfl, _, rfl, ?_⟩
    refine ⟨_, rfl, _, _, rfl, rfl, .inr ⟨by decide, by decide⟩, _, _, rfl, rfl, .inl ⟨_, rfl, _, _, rfl, rfl, (by show (0 : Int) < 2147483647; decide), ?_⟩⟩
    refine ⟨_, rfl, _, rfl, by omega, by omega, for_range (n := m.toNat) (fun i σ H' => ∃ (r x : Int) (ns : List Int) (v : Option V), σ = [some (.int c), some (.int m), some (.ref l), some (.int r), some (.int x), v] ∧ Ex H H' ∧ H' l = some (.lst (ns.map V.int)) ∧ ns.length = i ∧ Small ns) ?_ ?_ ?_⟩
    · exact ⟨_, _, [], none, rfl, Ex.new hl, upd_same, rfl, fun n hn => by cases hn⟩
    · rintro i σ H' hi ⟨r, x, ns, v, rfl, e, hL, hlen, hs⟩
      have room : (ns.map V.int).length < sizeLine := sz_lt (by rw [List.length_map]; omega)
      have nx : ∀ (r' x' y : Int), 0 ≤ y → y < 1009 → ∃ (r x : Int) (ns' : List Int) (v' : Option V), [some (V.int c), some (V.int m), some (V.ref l), some (V.int r'), some (V.int x'), some (V.int (0 + (i : Int)))] = [some (V.int c), some (V.int m), some (V.ref l), some (V.int r), some (V.int x), v'] ∧
          Ex H (upd H' l (.lst (ns.map V.int ++ [V.int y]))) ∧ (upd H' l (.lst (ns.map V.int ++ [V.int y]))) l = some (.lst (ns'.map V.int)) ∧ ns'.length = i + 1 ∧ Small ns' := fun r' x' y h0 h1 =>
        ⟨_, _, ns ++ [y], _, rfl, Ex.mut e hl, by rw [upd_same, List.map_append] <;> rfl, by rw [List.length_append, hlen] <;> rfl, small_snoc hs h0 h1⟩
      refine ⟨_, rfl, _, _, rfl, rfl, .inr ⟨by decide, by decide⟩, _, rfl, _, _, rfl, rfl, _, _, rfl, rfl, .inl ⟨by decide, by decide⟩, _, _, rfl, rfl, .inl ⟨_, rfl, _, _, rfl, rfl, (by show (0 : Int) < 2147483629; decide), ?_⟩⟩
      refine ⟨_, rfl, _, rfl, _, _, rfl, rfl, ⟨by decide, by decide, by decide⟩, _, _, rfl, rfl, _, rfl, ?_⟩
      refine ite2 (fun _ => ?_) (fun _ => ?_)
      · refine ⟨_, rfl, .inl ⟨rfl, _, SqL.of hL⟩, _, rfl, .inl ⟨_, rfl, _, _, rfl, rfl, (by show (0 : Int) < 1009; decide), l, _, _, rfl, rfl, hL, room, ?_⟩⟩
        refine ⟨_, rfl, _, _, rfl, rfl, ⟨by decide, by decide⟩, ?_⟩
        exact nx _ _ _ (Int.emod_nonneg _ (by decide)) (Int.emod_lt_of_pos _ (by decide))
      · refine ⟨_, rfl, .inl ⟨rfl, _, SqL.of hL⟩, _, rfl, _, _, rfl, rfl, ⟨by decide, by decide⟩, .inl ⟨_, rfl, _, _, rfl, rfl, (by show (0 : Int) < 1009; decide), l, _, _, rfl, rfl, hL, room, ?_⟩⟩
        exact nx _ _ _ (Int.emod_nonneg _ (by decide)) (Int.emod_lt_of_pos _ (by decide))
    · rintro σ H' ⟨r, x, ns, v, rfl, e, hL, hlen, hs⟩
      exact ⟨_, rfl, k H' l ns e hl hL (by omega) hs⟩
theorem G__law_numbers (T : Txt K mg a) : FnOk P w K mg base CX0 2 a.f__law_numbers a.d__law_numbers ["script", "many"] (sp__law_numbers K) := by
  refine T.F__law_numbers.ok sc__law_numbers (fun vs H Q E h => ?_) (fun cdv A outer s H vs Q E hr h => ?_)
  · obtain ⟨p, ns, m, rfl, _⟩ := h
    rfl
  · obtain ⟨p, ns, m, rfl, hS, m0, m1, k⟩ := h
    refine ⟨_, (pss_cons (ps_set (i := 2) sc__law_numbers.nd rfl (Or.inl rfl) (pe_slice sl_list (pv 0) po_none (po_some pe_int)))
      (pss_cons (ps_set (i := 3) sc__law_numbers.nd rfl (Or.inl rfl) (pe_op op_add pe_int (pe_op op_fdivN (pv 1) (pe_callB (call_max2 rfl) (by rfl) T.z_max (by decide +kernel) (pa_cons pe_int (pa_cons (pe_callB call_len_seq (by rfl) T.z_len PySem.boot_len (pa_cons (pv 2) pa_nil)) pa_nil))))))
      (pss_cons (ps_set (i := 4) sc__law_numbers.nd rfl (Or.inl rfl) (pe_lst pa_nil))
      (pss_cons (ps_for PassesOwn.never rfl (pi_list (pv 2)) (pg_name (i := 5) sc__law_numbers.nd rfl (Or.inl rfl)) (pss_one (ps_for PassesOwn.never rfl (pi_list (pe_call (G__law_row T) (hr.mono (by decide)) (by rfl) T.g__law_row T.k__law_row T.B__law_row .nil pass0 (pa_cons (pv 5) (pa_cons (pv 3) pa_nil)))) (pg_name (i := 6) sc__law_numbers.nd rfl (Or.inl rfl)) (pss_one (ps_expr (pe_bm PySem.F.plainAttrs_list PySem.F.slot_list_append PySem.F.type_list_append mt_append (pv 4) (pa_cons (pv 6) pa_nil)))))))
      (pss_cons (ps_while PassesOwn.never (pt_cmpR op_lt (pe_callB call_len_seq (by rfl) T.z_len PySem.boot_len (pa_cons (pv 4) pa_nil)) (pv 1) (nomark _)) (pss_one (ps_expr (pe_bm PySem.F.plainAttrs_list PySem.F.slot_list_append PySem.F.type_list_append mt_append (pv 4) (pa_cons pe_int pa_nil)))))
      (pss_one (ps_ret (pe_slice sl_list (pv 4) po_none (po_some (pv 1)))))))))), ?_⟩
    -- cells = script[:63]
    refine ⟨_, rfl, _, rfl, p, _, rfl, hS, fun q hq => ?_⟩
    have hcs : cutV (ns.map V.int) none (some ((63 : Nat) : Int)) = (ns.take 63).map V.int := by
      rw [cutV_to, List.map_take]
    show tSeq _ _ _ _ (upd H q (.lst (cutV (ns.map V.int) none (some ((63 : Nat) : Int)))))
    rw [hcs]
    generalize hcd : ns.take 63 = cs
    have hcl : cs.length ≤ 63 := by
      rw [← hcd, List.length_take]
      omega
    have hlc : (cs.map V.int).length = cs.length := List.length_map ..
    have e1 : Ex H (upd H q (.lst (cs.map V.int))) := Ex.new hq
    -- each = 1 + many // max(1, len(cells))
    refine ⟨_, rfl, _, rfl, q, _, rfl, .inl (SqL.of upd_same), _, _, rfl, _, _, rfl, rfl, ⟨?_, ?_⟩, _, _, rfl, rfl, ?_⟩
    · split <;> omega
    · rw [hlc]
      split <;> omega
    generalize hd : (if ((cs.map V.int).length : Int) > 1 then ((cs.map V.int).length : Int) else 1) = d
    have d1 : 1 ≤ d := by
      rw [← hd]
      split <;> omega
    have f0 : 0 ≤ m.fdiv d := by
      rw [Int.fdiv_eq_ediv_of_nonneg _ (by omega)]
      exact Int.ediv_nonneg m0 (by omega)
    have f1 : m.fdiv d ≤ 1000 := by
      rw [Int.fdiv_eq_ediv_of_nonneg _ (by omega)]
      exact Int.le_trans (Int.ediv_le_self _ m0) m1
    generalize m.fdiv d = f at f0 f1
    -- numbers = []
    refine ⟨Nat.zero_le _, fun l hl => ?_⟩
    have hlH : H l = none := fresh_back e1 hl
    have nql : q ≠ l := ne_of_none upd_same hl
    have nlq : l ≠ q := Ne.symm nql
    refine ⟨_, rfl, q, rfl, ⟨_, SqL.of (by rw [upd_ne nql]; exact upd_same)⟩, for_list (K := K) (a := q) (xs := cs.map V.int) (fun i σ H' => ∃ (ks : List Int) (v5 v6 : Option V), σ = [some (.ref p), some (.int m), some (.ref q), some (.int (1 + f)), some (.ref l), v5, v6] ∧
      Ex H H' ∧ H' q = some (.lst (cs.map V.int)) ∧ H' l = some (.lst (ks.map V.int)) ∧ ks.length ≤ i * 1001 ∧ Small ks) ?_ ?_ ?_ ?_⟩
    · exact ⟨[], none, none, rfl, e1.trans (Ex.new hl), by rw [upd_ne nql]; exact upd_same, upd_same, by simp, fun n hn => by cases hn⟩
    · rintro i σ H' _ ⟨ks, v5, v6, rfl, e, hQ, hL, _⟩
      exact SqL.of hQ
    · rintro i y σ H' hi ⟨ks, v5, v6, rfl, e, hQ, hL, hn, hs⟩
      have hi63 : i < cs.length := by
        have z := (List.getElem?_eq_some_iff.mp hi).1
        rw [hlc] at z
        exact z
      obtain ⟨c, rfl⟩ : ∃ c, y = V.int c := by
        rw [List.getElem?_map] at hi
        cases z : cs[i]? with
        | none =>
          rw [z] at hi
          cases hi
        | some c =>
          rw [z] at hi
          exact ⟨c, (Option.some.inj hi).symm⟩
      -- for number in _law_row(cell, each)
      refine ⟨_, rfl, _, rfl, c, 1 + f, rfl, by omega, by omega, fun H2 r rs e2 hr hR hrl hrs => ⟨r, rfl, ⟨_, SqL.of hR⟩, ?_⟩⟩
      have nrl : r ≠ l := Ne.symm (ne_of_none hL hr)
      have nrq : q ≠ r := ne_of_none hQ hr
      have nlr : l ≠ r := Ne.symm nrl
      refine for_list (K := K) (a := r) (xs := rs.map V.int) (fun j σ H' => ∃ (ks' : List Int) (v6 : Option V), σ = [some (.ref p), some (.int m), some (.ref q), some (.int (1 + f)), some (.ref l), some (.int c), v6] ∧
        Ex H H' ∧ H' q = some (.lst (cs.map V.int)) ∧ H' r = some (.lst (rs.map V.int)) ∧ H' l = some (.lst (ks'.map V.int)) ∧ ks'.length = ks.length + j ∧ Small ks') ?_ ?_ ?_ ?_
      · exact ⟨ks, v6, rfl, e.trans e2, e2 _ _ hQ, hR, e2 _ _ hL, rfl, hs⟩
      · rintro j σ H' _ ⟨ks', v6, rfl, _, _, h3, _⟩
        exact SqL.of h3
      · rintro j y σ H' hj ⟨ks', v6, rfl, e3, hQ3, hR3, hL3, hn3, hs3⟩
        have hjr : j < rs.length := by
          have z := (List.getElem?_eq_some_iff.mp hj).1
          rw [List.length_map] at z
          exact z
        obtain ⟨n, hnm, rfl⟩ : ∃ n, n ∈ rs ∧ y = V.int n := by
          rw [List.getElem?_map] at hj
          cases z : rs[j]? with
          | none =>
            rw [z] at hj
            cases hj
          | some n =>
            rw [z] at hj
            exact ⟨n, List.mem_of_getElem? z, (Option.some.inj hj).symm⟩
        refine ⟨_, rfl, .inl ⟨rfl, _, SqL.of hL3⟩, _, rfl, l, _, _, rfl, rfl, hL3, sz_lt (by rw [List.length_map]; omega), ?_⟩
        exact ⟨ks' ++ [n], _, rfl, Ex.mut e3 hlH, by rw [upd_ne nql]; exact hQ3, by rw [upd_ne nrl]; exact hR3, by rw [upd_same, List.map_append] <;> rfl, by rw [List.length_append, hn3] <;> rfl, small_snoc hs3 (hrs n hnm).1 (hrs n hnm).2⟩
      · rintro σ H' ⟨ks', v6, rfl, e3, hQ3, hR3, hL3, hn3, hs3⟩
        rw [List.length_map] at hn3
        exact ⟨ks', _, _, rfl, e3, hQ3, hL3, by omega, hs3⟩
    · rintro σ H' ⟨ks, v5, v6, rfl, e, hQ, hL, hn, hs⟩
      rw [hlc] at hn
      -- while len(numbers) < many
      refine ⟨fun j σ H' => ∃ ks' : List Int, j = (m.toNat - ks'.length) ∧ σ = [some (.ref p), some (.int m), some (.ref q), some (.int (1 + f)), some (.ref l), v5, v6] ∧ Ex H H' ∧ H' l = some (.lst (ks'.map V.int)) ∧ ks'.length ≤ 70000 ∧ Small ks',
        ⟨_, ks, rfl, rfl, e, hL, by omega, hs⟩, ?_⟩
      rintro j σ H' ⟨ks', rfl, rfl, e3, hL3, hn3, hs3⟩
      have hlk : (ks'.map V.int).length = ks'.length := List.length_map ..
      refine ⟨_, rfl, l, _, rfl, .inl (SqL.of hL3), _, rfl, _, _, rfl, rfl, _, rfl, ?_⟩
      refine ite2 (fun lt => ?_) (fun ge => ?_)
      · have lt' : (ks'.length : Int) < m := by
          have z := of_decide_eq_true lt
          rw [hlk] at z
          exact z
        refine ⟨_, fun σ' H' z => z, ?_⟩
        refine ⟨_, rfl, .inl ⟨rfl, _, SqL.of hL3⟩, l, _, _, rfl, rfl, hL3, sz_lt (by rw [hlk]; omega), ?_⟩
        exact ⟨_, by show m.toNat - (ks' ++ [0]).length < _; rw [List.length_append, List.length_singleton]; omega, ks' ++ [0], rfl, rfl, Ex.mut e3 hlH, by rw [upd_same, List.map_append] <;> rfl, by rw [List.length_append, List.length_singleton]; omega, small_snoc hs3 (by decide) (by decide)⟩
      · have ge' : m ≤ (ks'.length : Int) := by
          have z : ¬ ((ks'.map V.int).length : Int) < m := fun z => ge (decide_eq_true z)
          rw [hlk] at z
          omega
        -- return numbers[:many]
        refine ⟨_, rfl, _, rfl, _, rfl, l, _, rfl, SqL.of hL3, fun u hu => ?_⟩
        have em : m = ((m.toNat : Nat) : Int) := by omega
        have hcu : cutV (ks'.map V.int) none (some m) = (ks'.take m.toNat).map V.int := by
          rw [em, cutV_to, List.map_take]
          rfl
        show Q (.ref u) (upd H' u (.lst (cutV (ks'.map V.int) none (some m))))
        rw [hcu]
        refine k _ u (ks'.take m.toNat) (e3.trans (Ex.new hu)) (fresh_back e3 hu) upd_same ?_ (fun x hx => hs3 x (List.mem_of_mem_take hx))
        rw [List.length_take]
        omega
end
end EV

set_option Elab.async false
set_option linter.all false
set_option maxRecDepth 100000
set_option maxHeartbeats 4000000
namespace TX
open PySem PySem.Spec PyProof.Rows L2 EvS Evl EV TL
/-! ### texts: joins, numbers, words (point 8, 9) -/
def numS (i : Int) : Str := Str.ofString (toString i)
theorem len_nl : ("\n" : Str).length = 1 := by decide +kernel
theorem len_sp : (" " : Str).length = 1 := by decide +kernel
theorem sum_le {B : Nat} : ∀ {ys : List Str}, (∀ y ∈ ys, y.length ≤ B) → (ys.map (·.length)).sum ≤ B * ys.length
  | [], _ => Nat.zero_le _
  | y :: r, h => by
    have h1 := h y List.mem_cons_self
    have h2 := sum_le (B := B) (ys := r) fun x hx => h x (List.mem_cons_of_mem _ hx)
    rw [List.map_cons, List.sum_cons, List.length_cons, Nat.mul_succ]
    omega
theorem tj (sep : Str) (l : List Str) : Txt.join sep l = Str.join sep l := StrLaws.glued_eq_join sep l
theorem sjoin_len {sep : Str} {B : Nat} : ∀ {ys : List Str}, (∀ y ∈ ys, y.length ≤ B) → (Str.join sep ys).length ≤ (B + sep.length) * ys.length
  | [], _ => by
    show (0 : Nat) ≤ _
    exact Nat.zero_le _
  | [y], h => by
    have h1 := h y List.mem_cons_self
    show y.length ≤ (B + sep.length) * 1
    omega
  | y :: z :: r, h => by
    have h1 := h y List.mem_cons_self
    have h2 := sjoin_len (sep := sep) (B := B) (ys := z :: r) fun x hx => h x (List.mem_cons_of_mem _ hx)
    show (y ++ sep ++ Str.join sep (z :: r)).length ≤ (B + sep.length) * ((z :: r).length + 1)
    rw [Str.length_append, Str.length_append, Nat.mul_succ]
    omega
theorem join_len {sep : Str} {B : Nat} {ys : List Str} (h : ∀ y ∈ ys, y.length ≤ B) : (Txt.join sep ys).length ≤ (B + sep.length) * ys.length := by
  rw [tj]
  exact sjoin_len h
theorem join_fits {sep : Str} {B n : Nat} {ys : List Str} (h : ∀ y ∈ ys, y.length ≤ B) (hl : ys.length ≤ n) (hs : sep.length = 1) (q : (B + 1) * n ≤ 16777216) : (ys.map (·.length)).sum + ys.length * sep.length ≤ 16777216 := by
  have z := sum_le h
  have y : (B + 1) * ys.length ≤ (B + 1) * n := Nat.mul_le_mul_left _ hl
  have e : (B + 1) * ys.length = B * ys.length + ys.length := by rw [Nat.add_mul, Nat.one_mul]
  rw [hs, Nat.mul_one]
  omega
theorem join_two (sep a b : Str) (r : List Str) : Txt.join sep (a :: b :: r) = a ++ sep ++ Txt.join sep (b :: r) := by
  rw [tj, tj]
  rfl
theorem join_one (sep a : Str) : Txt.join sep [a] = a := by
  rw [tj]
  rfl
theorem log_ok {i : Int} (h1 : 0 ≤ i) (h2 : i ≤ 999999) : i.natAbs.log2 < 1920 := by
  by_cases q : i.natAbs = 0
  · rw [q]; decide
  · have : i.natAbs < 2 ^ 20 := by omega
    have z := (Nat.log2_lt (n := i.natAbs) (k := 20) q).mpr this
    omega
theorem num_tl {i : Int} (h : 0 ≤ i) : (numS i).cps.toList = numL i.toNat := by
  have z := tl_num i.toNat
  rw [Int.toNat_of_nonneg h] at z
  exact z
theorem num_len {i : Int} (h1 : 0 ≤ i) (h2 : i ≤ 999999) : 1 ≤ (numS i).length ∧ (numS i).length ≤ 6 := by
  have e : (numS i).length = (numL i.toNat).length := by
    show (numS i).cps.size = _
    rw [← Array.length_toList, num_tl h1]
  have z := numL_len (n := i.toNat) (k := 6) (by decide) (by omega)
  have y := numL_ne i.toNat
  rw [e]
  refine ⟨?_, z⟩
  rcases Nat.eq_zero_or_pos (numL i.toNat).length with q | q
  · exact absurd (List.length_eq_zero_iff.mp q) y
  · exact q
theorem num_dig {i : Int} (h : 0 ≤ i) : ∀ c ∈ (numS i).cps.toList, 48 ≤ c ∧ c ≤ 57 := by
  rw [num_tl h]
  exact fun c hc => numL_digits _ c hc
theorem digs_of : ∀ c, c < 58 → 48 ≤ c → decide (c ∈ DIGS) = true := by decide +kernel
theorem num_head (n : Nat) (h : 1 ≤ n) : ∃ c, (numL n).head? = some c ∧ c ≠ 48 := by
  induction n using Nat.strongRecOn with
  | _ n ih =>
    by_cases q : n < 10
    · rw [numL_lt q]
      exact ⟨48 + n, rfl, by omega⟩
    · rw [numL_step (by omega)]
      obtain ⟨c, hc, hn⟩ := ih (n / 10) (by omega) (by omega)
      refine ⟨c, ?_, hn⟩
      rw [List.head?_append, hc]
      rfl
theorem num_int {i : Int} (h1 : 0 ≤ i) (h2 : i ≤ 999999) : PySem.intText? (numS i) = some i := by
  have z := int_num (n := i.toNat) (by
    have l := numL_len (n := i.toNat) (k := 6) (by decide) (by omega)
    omega)
  rw [Int.toNat_of_nonneg h1] at z
  exact z
def isNumber (z : Str) : Bool := decide (1 ≤ z.length ∧ z.length ≤ 6) && (if z.cps.toList.head? = some 48 then decide (V.str z = V.str "0") else z.cps.toList.all fun c => decide (c ∈ DIGS))
theorem num_is {i : Int} (h1 : 0 ≤ i) (h2 : i ≤ 999999) : isNumber (numS i) = true := by
  unfold isNumber
  rw [decide_eq_true (num_len h1 h2), Bool.true_and]
  by_cases q : i = 0
  · subst q
    decide +kernel
  · obtain ⟨c, hc, hn⟩ := num_head i.toNat (by omega)
    rw [num_tl h1, hc, if_neg (fun e => hn (Option.some.inj e))]
    rw [List.all_eq_true]
    intro c hc
    rw [← num_tl h1] at hc
    have := num_dig h1 c hc
    exact digs_of c (by omega) (by omega)
def fits (w s : Str) : Bool := if decide (V.str s = V.str "MINUTE") = true then isNumber w else if Txt.isupper s = true then isName w else decide (V.str w = V.str s)
def fitsAll (ws ss : List Str) : List Bool := List.zipWith fits ws ss
def hasForm (ws ss : List Str) : Bool := decide (V.int (ws.length : Int) = V.int (ss.length : Int)) && (fitsAll ws ss).all id
/-! ### words without separators -/
def Clean (z : Str) : Prop := 10 ∉ z.cps.toList ∧ 32 ∉ z.cps.toList
theorem clean_of {z : Str} (h : ∀ c ∈ z.cps.toList, c ≠ 10 ∧ c ≠ 32) : Clean z := ⟨fun q => (h _ q).1 rfl, fun q => (h _ q).2 rfl⟩
theorem sign_clean : ∀ c ∈ LETS ++ DIGS, c ≠ 10 ∧ c ≠ 32 := by decide +kernel
theorem name_clean {z : Str} (h : isName z = true) : Clean z := clean_of fun c hc => by
  unfold isName at h
  rw [Bool.and_eq_true] at h
  have q := List.all_eq_true.mp h.2 c hc
  unfold okSign at q
  rw [Bool.or_eq_true] at q
  refine sign_clean c ?_
  rcases q with q | q
  · exact List.mem_append_left _ (of_decide_eq_true q)
  · exact List.mem_append_right _ (of_decide_eq_true q)
theorem name_len {z : Str} (h : isName z = true) : 1 ≤ z.length ∧ z.length ≤ 12 := by
  unfold isName at h
  rw [Bool.and_eq_true, Bool.and_eq_true] at h
  exact of_decide_eq_true h.1.1
theorem num_clean {i : Int} (h : 0 ≤ i) : Clean (numS i) := clean_of fun c hc => by
  have := num_dig h c hc
  omega
theorem app_list (a b : Str) : (a ++ b).cps.toList = a.cps.toList ++ b.cps.toList := by
  rw [Str.cps_append, Array.toList_append]
theorem join_mem (sep : Str) (c : Nat) : ∀ {ys : List Str}, c ∈ (Txt.join sep ys).cps.toList → c ∈ sep.cps.toList ∨ ∃ y ∈ ys, c ∈ y.cps.toList
  | [], h => by
    rw [tj] at h
    cases h
  | [y], h => by
    rw [join_one] at h
    exact .inr ⟨y, List.mem_cons_self, h⟩
  | y :: z :: r, h => by
    rw [join_two, app_list, app_list] at h
    rcases List.mem_append.mp h with h | h
    · rcases List.mem_append.mp h with h | h
      · exact .inr ⟨y, List.mem_cons_self, h⟩
      · exact .inl h
    · rcases join_mem sep c h with h | ⟨x, hx, h⟩
      · exact .inl h
      · exact .inr ⟨x, List.mem_cons_of_mem _ hx, h⟩
theorem line_split {ys : List Str} (hne : ys ≠ []) (h : ∀ y ∈ ys, Clean y) : Txt.split (Txt.join " " ys) " " = ys := split_join (s := 32) (S := []) (by decide +kernel) (by decide +kernel) hne fun p hp => (h p hp).2
theorem line_nl {ys : List Str} (h : ∀ y ∈ ys, Clean y) : 10 ∉ (Txt.join " " ys).cps.toList := fun q => by
  rcases join_mem " " 10 q with q | ⟨y, hy, q⟩
  · exact absurd q (by decide +kernel)
  · exact (h y hy).1 q
theorem lines_split {ls : List Str} (hne : ls ≠ []) (h : ∀ y ∈ ls, 10 ∉ y.cps.toList) : Txt.split (Txt.join "\n" ls) "\n" = ls := split_join (s := 10) (S := []) (by decide +kernel) (by decide +kernel) hne h
theorem three (a b c : Str) : Txt.join " " [a, b, c] = a ++ " " ++ b ++ " " ++ c := by
  rw [join_two, join_two, join_one]
  simp only [Str.append_assoc]
/-- a list of flags, the first of them known -/
theorem str_dec (a b : Str) : decide (V.str a = V.str b) = decide (a = b) := by
  by_cases h : a = b
  · rw [decide_eq_true h, decide_eq_true (congrArg V.str h)]
  · rw [decide_eq_false h, decide_eq_false fun q => h (V.str.inj q)]
def sp_is_number : Sp := fun vs H Q _ => ∃ z : Str, vs = [.str z] ∧ z.length ≤ 10000 ∧ ∀ H', Ex H H' → Q (.bl (isNumber z)) H'
def sp__fits : Sp := fun vs H Q _ => ∃ w z : Str, vs = [.str w, .str z] ∧ w.length ≤ 10000 ∧ ∀ H', Ex H H' → Q (.bl (fits w z)) H'
def sp_has_form (K : PySem.W.Frag) : Sp := fun vs H Q _ => ∃ (p : Addr) (ws : List Str) (f : Str), vs = [.ref p, .str f] ∧ SqL K H p (ws.map V.str) ∧ (∀ w ∈ ws, w.length ≤ 10000) ∧ ws.length ≤ 10000 ∧ f.length ≤ 1000 ∧ ∀ H', Ex H H' → Q (.bl (hasForm ws (Txt.split f " "))) H'
section
variable {P : Program} {w : World} {K : PySem.W.Frag} {mg : Str → Option Value} {base : Heap} {a : Ad}
theorem G_is_number (T : Txt K mg a) : FnOk P w K mg base CX0 1 a.f_is_number a.d_is_number ["word"] sp_is_number := by
  refine T.F_is_number.ok sc_is_number (fun vs H Q E h => ?_) (fun cdv A outer s H vs Q E hr h => ?_)
  · obtain ⟨z, rfl, _⟩ := h
    rfl
  · obtain ⟨z, rfl, hz, k⟩ := h
    have hzs : z.length ≤ sizeLine := sz_of (by omega)
    refine ⟨_, (pss_cons (ps_if (pt_not (pt_chain op_le op_le pe_int (pe_callB call_len_str (by rfl) T.z_len PySem.boot_len (pa_cons (pv 0) pa_nil)) (pe_gI rfl T.c_MOST_DIGITS))) (pss_one (ps_ret pe_bl)) pss_nil)
      (pss_cons (ps_if (pt_cmpR op_eq (pe_ix ix_str (pv 0) pe_int (fun _ _ => rfl)) pe_str (nomark _)) (pss_one (ps_ret (pe_cmpR op_eq (pv 0) pe_str (nomark _)))) pss_nil)
      (pss_one (ps_ret (pe_callB (cr_all rfl) (by rfl) T.z_all (by decide +kernel) (pa_cons (pe_lc (own := [("sign", 1)]) (g := gName 1) (tt := tYes) rfl sc_is_number.nd (pi_str (pv 0)) (blkOk_by (N := ["word", "sign"]) (sc := defScope s_is_number) (by decide +kernel)) (fun _ _ _ _ _ => pg_name (i := 1) sc_is_number.nd rfl (Or.inl rfl)) (fun _ _ _ _ _ => pts_nil) (fun _ _ _ _ _ => (pe_cmpR op_in_sign (pv 1) (pe_gS rfl T.c_DIGITS) rfl))) pa_nil)))))), ?_⟩
    have no : ¬ (1 ≤ z.length ∧ z.length ≤ 6) → Q (.bl false) H := fun n => by
      have e : isNumber z = false := by
        unfold isNumber
        rw [decide_eq_false n]
        rfl
      have q := k H (Ex.refl H)
      rw [e] at q
      exact q
    have rest : 1 ≤ z.length → z.length ≤ 6 → ∀ H', Ex H H' → Q (.bl (if z.cps.toList.head? = some 48 then decide (V.str z = V.str "0") else z.cps.toList.all fun c => decide (c ∈ DIGS))) H' := fun a b H' e => by
      have q := k H' e
      unfold isNumber at q
      rw [decide_eq_true (show 1 ≤ z.length ∧ z.length ≤ 6 from ⟨a, b⟩), Bool.true_and] at q
      exact q
    refine ⟨_, rfl, _, rfl, hzs, _, _, rfl, rfl, _, rfl, ?_⟩
    refine ite2 (fun h1 => ?_) (fun h1 => ?_)
    · refine ⟨_, _, rfl, rfl, _, rfl, ?_⟩
      have h1' : 1 ≤ z.length := by
        have := of_decide_eq_true h1
        omega
      refine ite2 (fun h2 => ?_) (fun h2 => ?_)
      · exact no (fun n => by simp at h2; omega)
      · have h2' : z.length ≤ 6 := by
          simp at h2
          omega
        have hsz : z.cps.size = z.length := rfl
        obtain ⟨c0, hc0⟩ : ∃ c, z.cps[0]? = some c := ⟨_, Array.getElem?_eq_getElem (by omega)⟩
        have hl0 : z.cps.toList[0]? = some c0 := by rw [Array.getElem?_toList]; exact hc0
        have hh : z.cps.toList.head? = some c0 := by rw [List.head?_eq_getElem?]; exact hl0
        have rest := rest h1' h2'
        rw [hh] at rest
        refine ⟨_, rfl, z, 0, c0, rfl, rfl, hzs, ?_, ?_⟩
        · have := atI_nat (j := 0) hl0
          simpa using this
        · refine ⟨rfl, _, rfl, ?_⟩
          refine ite2 (fun h3 => ?_) (fun h3 => ?_)
          · have e := V.str.inj (of_decide_eq_true h3)
            have e2 := congrArg (fun s : Str => s.cps.toList) e
            have e3 : [c0] = [48] := e2.trans (by decide +kernel)
            obtain rfl : c0 = 48 := (List.cons.inj e3).1
            rw [if_pos rfl] at rest
            exact ⟨_, rfl, rfl, rest H (Ex.refl H)⟩
          · have ne : c0 ≠ 48 := fun q => h3 (decide_eq_true (by rw [q]; rfl))
            rw [if_neg fun q => ne (Option.some.inj q)] at rest
            have hlen : z.cps.toList.length = z.cps.size := Array.length_toList
            refine ⟨_, rfl, z, rfl, fun D hD => lcY_sign (fun i H' => Ex H H' ∧ H' D = some (.lst ((z.cps.toList.take i).map fun c => V.bl (decide (c ∈ DIGS))))) ⟨Ex.new hD, upd_same⟩ (fun i c H' hc p => ?_) (fun H' p => ?_)⟩
            · obtain ⟨p2, p3⟩ := p
              have hil : i < z.cps.size := (Array.getElem?_eq_some_iff.mp hc).1
              have hlc : z.cps.toList[i]? = some c := by rw [Array.getElem?_toList]; exact hc
              refine ⟨rfl, _, rfl, c, _, rfl, rfl, _, p3, sz_lt ?_, p2.mut hD, ?_⟩
              · rw [List.length_map, List.length_take]
                omega
              · rw [upd_same, List.take_add_one, hlc, List.map_append]
                rfl
            · obtain ⟨p2, p3⟩ := p
              rw [← hlen, List.take_length] at p3
              refine ⟨D, z.cps.toList.map fun c => decide (c ∈ DIGS), rfl, ?_, ?_⟩
              · rw [List.map_map]
                exact SqL.of p3
              · have q := rest H' p2
                rw [List.all_map]
                exact q
    · exact ⟨_, rfl, no (fun n => by simp at h1; omega)⟩
theorem G__fits (T : Txt K mg a) : FnOk P w K mg base CX0 2 a.f__fits a.d__fits ["word", "slot"] sp__fits := by
  refine T.F__fits.ok sc__fits (fun vs H Q E h => ?_) (fun cdv A outer s H vs Q E hr h => ?_)
  · obtain ⟨y, z, rfl, _⟩ := h
    rfl
  · obtain ⟨y, z, rfl, hy, k⟩ := h
    refine ⟨_, (pss_cons (ps_if (pt_cmpR op_eq (pv 1) pe_str (nomark _)) (pss_one (ps_ret (pe_call (G_is_number T) (hr.mono (by decide)) (by rfl) T.g_is_number T.k_is_number T.B_is_number .nil pass0 (pa_cons (pv 0) pa_nil)))) pss_nil)
      (pss_cons (ps_if (pt_val (pe_bm0 PySem.F.plainAttrs_str PySem.F.slot_str_isupper PySem.F.type_str_isupper mt_isupper (pv 1))) (pss_one (ps_ret (pe_call (G_is_name T) (hr.mono (by decide)) (by rfl) T.g_is_name T.k_is_name T.B_is_name .nil pass0 (pa_cons (pv 0) pa_nil)))) pss_nil)
      (pss_one (ps_ret (pe_cmpR op_eq (pv 0) (pv 1) (nomark _)))))), ?_⟩
    refine ⟨_, rfl, rfl, _, rfl, ?_⟩
    refine ite2 (fun h1 => ?_) (fun h1 => ?_)
    · refine ⟨_, rfl, y, rfl, hy, fun H' e => ?_⟩
      have q := k H' e
      unfold fits at q
      rw [if_pos h1] at q
      exact q
    · refine ⟨_, rfl, rfl, z, rfl, rfl, trivial, _, rfl, ?_⟩
      refine ite2 (fun h2 => ?_) (fun h2 => ?_)
      · refine ⟨_, rfl, y, rfl, hy, fun H' e => ?_⟩
        have q := k H' e
        unfold fits at q
        rw [if_neg h1, if_pos h2] at q
        exact q
      · refine ⟨_, rfl, _, rfl, rfl, ?_⟩
        have q := k H (Ex.refl H)
        unfold fits at q
        rw [if_neg h1, if_neg h2] at q
        exact q
theorem G_has_form (T : Txt K mg a) : FnOk P w K mg base CX0 3 a.f_has_form a.d_has_form ["words", "form"] (sp_has_form K) := by
  refine T.F_has_form.ok sc_has_form (fun vs H Q E h => ?_) (fun cdv A outer s H vs Q E hr h => ?_)
  · obtain ⟨p, ws, f, rfl, _⟩ := h
    rfl
  · obtain ⟨p, ws, f, rfl, hS, hw, hl, hf, k⟩ := h
    refine ⟨_, (pss_cons (ps_set (i := 2) sc_has_form.nd rfl (Or.inl rfl) (pe_split (pv 1) pe_str))
      (pss_one (ps_ret (pe_and (pe_cmpR op_eq (pe_callB call_len_seq (by rfl) T.z_len PySem.boot_len (pa_cons (pv 0) pa_nil)) (pe_callB call_len_seq (by rfl) T.z_len PySem.boot_len (pa_cons (pv 2) pa_nil)) (nomark _)) (pe_one (pe_callB (cr_all rfl) (by rfl) T.z_all (by decide +kernel) (pa_cons (pe_lc (own := [("word", 3), ("slot", 4)]) (g := gTup K 2 (gCons (gName 3) (gCons (gName 4) gNil))) (tt := tYes) rfl sc_has_form.nd (pi_zip (by rfl) T.z_zip (pa_cons (pv 0) (pa_cons (pv 2) pa_nil))) (blkOk_by (N := ["words", "form", "slots", "word", "slot"]) (sc := defScope s_has_form) (by decide +kernel)) (fun _ _ _ _ _ => (pg_tup (by rfl) (pgs_cons (pg_name (i := 3) sc_has_form.nd rfl (Or.inl rfl)) (pgs_cons (pg_name (i := 4) sc_has_form.nd rfl (Or.inl rfl)) pgs_nil)))) (fun _ _ _ _ _ => pts_nil) (fun _ _ _ _ _ => (pe_call (G__fits T) (hr.mono (by decide)) (by rfl) T.g__fits T.k__fits T.B__fits .nil pass0 (pa_cons (pv 3) (pa_cons (pv 4) pa_nil))))) pa_nil))))))), ?_⟩
    refine ⟨_, rfl, ⟨_, rfl⟩, f, " ", rfl, rfl, by decide +kernel, sz_of (by omega), fun q hq => ?_⟩
    generalize hss : Txt.split f " " = ss at k
    have e1 : Ex H (upd H q (.lst (ss.map V.str))) := Ex.new hq
    have mq : (upd H q (.lst (ss.map V.str))) q = some (.lst (ss.map V.str)) := upd_same
    generalize upd H q (.lst (ss.map V.str)) = H1 at e1 mq
    have hS1 := ex_l e1 hS
    refine ⟨_, rfl, p, _, rfl, .inl hS1, _, rfl, q, _, rfl, .inl (SqL.of mq), rfl, ?_⟩
    rw [List.length_map, List.length_map]
    unfold hasForm at k
    cases hd : decide (V.int (ws.length : Int) = V.int (ss.length : Int)) with
    | false =>
      rw [hd] at k
      exact ⟨_, rfl, k H1 e1⟩
    | true =>
      rw [hd] at k
      have el : ws.length = ss.length := by
        have := V.int.inj (of_decide_eq_true hd)
        omega
      refine ⟨_, rfl, _, rfl, _, rfl, p, q, _, _, rfl, hS1, SqL.of mq, fun D hD => ?_⟩
      refine lc_it (walk_zip (xs := ws.map V.str) (ys := ss.map V.str) (n := ws.length) (by rw [List.length_map, List.length_map, el, Nat.min_self])) (fun i H' => Ex H1 H' ∧ H' D = some (.lst (((fitsAll ws ss).take i).map V.bl))) ⟨Ex.new hD, by rw [upd_same] <;> rfl⟩ (fun i H' _ z => ⟨ex_l z.1 hS1, SqL.of (z.1 _ _ mq)⟩) (fun i v H2 H3 hi z y => ?_) (fun H' z => ?_)
      · obtain ⟨t, u, v, rfl, ht, rfl, h1, h2⟩ := y
        have ez : (fitsAll ws ss)[i]? = some (fits (ws[i]) (ss[i]'(by omega))) := by
          unfold fitsAll
          rw [List.getElem?_zipWith, List.getElem?_eq_getElem hi, List.getElem?_eq_getElem (by omega)]
        have hwi := hw _ (List.getElem_mem hi)
        have h1 : (ws.map V.str)[i]? = some u := h1
        have h2 : (ss.map V.str)[i]? = some v := h2
        rw [List.getElem?_map, List.getElem?_eq_getElem hi] at h1
        rw [List.getElem?_map, List.getElem?_eq_getElem (show i < ss.length by omega)] at h2
        obtain rfl := Option.some.inj h1
        obtain rfl := Option.some.inj h2
        generalize ws[i] = wi at ez hwi ht z
        generalize ss[i]'(by omega) = si at ez ht z
        refine ⟨t, _, rfl, st_of upd_same, rfl, _, _, rfl, _, _, rfl, rfl, rfl, ?_⟩
        have e3 : Ex H1 (upd H2 t (.tup [V.str wi, V.str si])) := z.1.trans (Ex.new ht)
        refine ⟨_, rfl, _, rfl, wi, si, rfl, hwi, fun H' e => ?_⟩
        have hD' := e _ _ (Ex.new (o := .tup [V.str wi, V.str si]) ht _ _ z.2)
        refine ⟨_, hD', sz_lt ?_, (e3.trans e).mut hD, ?_⟩
        · rw [List.length_map, List.length_take]
          omega
        · rw [upd_same, List.take_add_one, ez, List.map_append]
          rfl
      · have l : (fitsAll ws ss).length = ws.length := by
          unfold fitsAll
          rw [List.length_zipWith, el, Nat.min_self]
        rw [← l, List.take_length] at z
        exact ⟨D, fitsAll ws ss, rfl, SqL.of z.2, k H' (e1.trans z.1)⟩
end
end TX

set_option Elab.async false
set_option linter.all false
set_option maxRecDepth 100000
set_option maxHeartbeats 4000000
namespace W3
open PySem PySem.Spec PyProof.Rows L2 EvS Evl EV TL TX
/-! ### pieces of a line -/
theorem join_snoc {sep : Str} (w : Str) : ∀ {ys : List Str}, ys ≠ [] → Txt.join sep (ys ++ [w]) = Txt.join sep ys ++ sep ++ w
  | [], h => absurd rfl h
  | [y], _ => by
    show Txt.join sep [y, w] = _
    rw [join_two, TX.join_one, TX.join_one]
  | y :: z :: r, _ => by
    show Txt.join sep (y :: z :: (r ++ [w])) = _
    rw [join_two, show (z :: (r ++ [w])) = (z :: r) ++ [w] from rfl, join_snoc w (ys := z :: r) (by simp), join_two]
    simp only [Str.append_assoc]
def sps : Nat → Str
  | 0 => Str.empty
  | n + 1 => " " ++ sps n
theorem sps_tl : ∀ n : Nat, (sps n).cps.toList = List.replicate n 32
  | 0 => rfl
  | n + 1 => by
    show ((" " : Str) ++ sps n).cps.toList = _
    rw [app_list, sps_tl n, List.replicate_succ]
    rfl
theorem sps_of {r : Str} {n : Nat} (h : r.cps.toList = (List.replicate n (" " : Str).cps.toList).flatten) : r = sps n := by
  refine ext_tl ?_
  show r.cps.toList = (sps n).cps.toList
  rw [h, sps_tl, show (" " : Str).cps.toList = [32] by decide +kernel]
  clear h
  induction n with
  | zero => rfl
  | succ n ih => rw [List.replicate_succ, List.flatten_cons, ih]; rfl
theorem sps_len (n : Nat) : (sps n).length = n := by
  rw [len_tl]
  show (sps n).cps.toList.length = n
  rw [sps_tl, List.length_replicate]
theorem append_empty (x : Str) : x ++ Str.empty = x := ext_tl (by rw [tl_append]; exact List.append_nil _)
theorem join_sps : ∀ (n : Nat) {ys : List Str}, ys ≠ [] → Txt.join " " ys ++ sps n = Txt.join " " (ys ++ List.replicate n Str.empty)
  | 0, ys, _ => by
    rw [List.replicate_zero, List.append_nil]
    exact append_empty _
  | n + 1, ys, h => by
    have e : Txt.join " " ys ++ " " = Txt.join " " (ys ++ [Str.empty]) := by rw [join_snoc _ h, append_empty]
    show Txt.join " " ys ++ (" " ++ sps n) = _
    rw [← Str.append_assoc, e, join_sps n (by simp), List.replicate_succ, List.append_assoc]
    rfl
theorem join_word (w : Str) : ∀ ys : List Str, Txt.join " " (ys ++ [Str.empty]) ++ w = Txt.join " " (ys ++ [w])
  | [] => by
    show Txt.join " " [Str.empty] ++ w = Txt.join " " [w]
    rw [TX.join_one, TX.join_one, Str.empty_append]
  | y :: r => by
    rw [join_snoc _ (by simp), join_snoc _ (by simp), append_empty]
def toks (ps : List Str) : List Str := ps.filter fun p => !decide (V.str p = V.str "")
theorem toks_app (a b : List Str) : toks (a ++ b) = toks a ++ toks b := List.filter_append ..
theorem toks_sps : ∀ n : Nat, toks (List.replicate n Str.empty) = []
  | 0 => rfl
  | n + 1 => by
    rw [List.replicate_succ, show Str.empty :: List.replicate n Str.empty = [Str.empty] ++ List.replicate n Str.empty from rfl, toks_app, toks_sps n]
    decide +kernel
/-- a word: some signs, each from 33 to 126 -/
def Wd (z : Str) : Prop := 1 ≤ z.length ∧ z.length ≤ 40 ∧ ∀ c ∈ z.cps.toList, 33 ≤ c ∧ c < 127
instance (z : Str) : Decidable (Wd z) := by unfold Wd; infer_instance
theorem wd_clean {z : Str} (h : Wd z) : Clean z := clean_of fun c hc => by
  have := h.2.2 c hc
  omega
theorem wd_ne {z : Str} (h : Wd z) : z ≠ Str.empty := fun e => by
  have := h.1
  rw [e] at this
  exact absurd this (by decide)
theorem wd_tok {z : Str} (h : Wd z) : toks [z] = [z] := by
  unfold toks
  rw [List.filter_cons, if_pos (show (!decide (V.str z = V.str "")) = true by rw [decide_eq_false (show ¬ V.str z = V.str "" from fun e => wd_ne h (V.str.inj e))]; rfl)]
  rfl
theorem wd_strOk {z : Str} (h : Wd z) : PyData.strOk z = true := by
  unfold PyData.strOk
  rw [Array.all_eq_true_iff_forall_mem]
  intro c hc
  have := h.2.2 c (Array.mem_toList_iff.mpr hc)
  exact decide_eq_true (by omega)
theorem empty_clean : Clean Str.empty := ⟨by decide, by decide⟩
/-- a text of pieces: words and nothings -/
structure Line (z : Str) (ws : List Str) (ps : List Str) : Prop where
  eq : z = Txt.join " " ps
  ne : ps ≠ []
  cl : ∀ p ∈ ps, Clean p
  tk : toks ps = ws
theorem Line.split {z : Str} {ws ps : List Str} (h : Line z ws ps) : toks (Txt.split z " ") = ws := by
  rw [h.eq, line_split h.ne h.cl, h.tk]
theorem Line.sps {z : Str} {ws ps : List Str} (h : Line z ws ps) (n : Nat) : Line (z ++ sps n) ws (ps ++ List.replicate n Str.empty) := by
  refine ⟨by rw [h.eq, join_sps n h.ne], by simp [h.ne], fun p hp => ?_, by rw [toks_app, toks_sps, List.append_nil, h.tk]⟩
  rcases List.mem_append.mp hp with hp | hp
  · exact h.cl p hp
  · rw [List.eq_of_mem_replicate hp]
    exact empty_clean
theorem line0 (n : Nat) : Line (sps n) [] (Str.empty :: List.replicate n Str.empty) := by
  have z : Line Str.empty [] [Str.empty] := ⟨(TX.join_one _ _).symm, by simp, fun p hp => by rw [List.mem_singleton.mp hp]; exact empty_clean, by decide +kernel⟩
  have y := z.sps n
  rw [Str.empty_append] at y
  exact y
/-- a text that ends in a nothing -/
def Open (z : Str) (ws : List Str) : Prop := ∃ ps, Line z ws (ps ++ [Str.empty])
theorem rep_snoc (n : Nat) : Str.empty :: List.replicate n Str.empty = List.replicate n Str.empty ++ [Str.empty] := by
  rw [← List.replicate_succ, ← List.replicate_succ']
theorem open0 (n : Nat) : Open (sps n) [] := ⟨List.replicate n Str.empty, by rw [← rep_snoc]; exact line0 n⟩
theorem Open.word {z w : Str} {ws : List Str} (h : Open z ws) (hw : Wd w) : ∃ ps, Line (z ++ w) (ws ++ [w]) ps := by
  obtain ⟨ps, h⟩ := h
  refine ⟨ps ++ [w], ?_, by simp, fun p hp => ?_, ?_⟩
  · rw [h.eq, join_word]
  · rcases List.mem_append.mp hp with hp | hp
    · exact h.cl p (List.mem_append_left _ hp)
    · rw [List.mem_singleton.mp hp]
      exact wd_clean hw
  · have e := h.tk
    rw [toks_app, show toks [Str.empty] = [] by decide +kernel, List.append_nil] at e
    rw [toks_app, e, wd_tok hw]
theorem Line.open {z : Str} {ws ps : List Str} (h : Line z ws ps) (n : Nat) (hn : 1 ≤ n) : Open (z ++ W3.sps n) ws := by
  obtain ⟨m, rfl⟩ : ∃ m, n = m + 1 := ⟨n - 1, by omega⟩
  have e := h.sps (m + 1)
  rw [List.replicate_succ', ← List.append_assoc] at e
  exact ⟨_, e⟩
/-! ### commands -/
def COMMS : List Str := ["land NAME", "case NAME LAND", "start CASE PLACE MINUTE", "break CASE PLACE MINUTE", "free CASE PLACE", "ask CASE PLACE", "states CASE", "show CASE", "print LAND", "undo", "redo", "lands", "cases", "remove land NAME", "remove case NAME"]
def isCmd (ws : List Str) : Bool := (COMMS.map fun f => hasForm ws (Txt.split f " ")).any id
def lFits (c : Nat) (w : Str) : Bool := if c = 110 then isName w else if c = 100 then isNumber w else true
def lHas (ws : List Str) (f : List Nat) : Bool := decide (f.length = ws.length) && (List.zipWith lFits f ws).all id
def LNAMES : List Str := ["land", "case", "start", "break", "free", "ask", "states", "show", "print", "undo", "redo", "lands", "cases"]
def LFORMS : List Str := ["n", "nn", "nnd", "nnd", "nn", "nn", "n", "n", "n", "", "", "", ""]
def lForm (w : Str) : Option Str := if w ∈ LNAMES then LFORMS[LNAMES.idxOf w]? else none
def lHasO (ws : List Str) : Option Str → Bool
  | none => false
  | some f => lHas ws f.cps.toList
def lRem : List Str → Bool
  | [x, y] => decide (x ∈ (["land", "case"] : List Str)) && isName y
  | _ => false
def lCmd : List Str → Bool
  | [] => false
  | w :: r => if w = "remove" then lRem r else lHasO r (lForm w)
theorem lCmd_cons (w : Str) (r : List Str) : lCmd (w :: r) = if w = "remove" then lRem r else lHasO r (lForm w) := rfl
theorem fits_lit {w s : Str} (h1 : decide (V.str s = V.str "MINUTE") = false) (h2 : Txt.isupper s = false) : fits w s = decide (w = s) := by
  unfold fits
  rw [h1, h2]
  exact str_dec w s
theorem hf_cons {w l : Str} {r ss : List Str} (h1 : decide (V.str l = V.str "MINUTE") = false) (h2 : Txt.isupper l = false) : hasForm (w :: r) (l :: ss) = (decide (w = l) && hasForm r ss) := by
  unfold hasForm fitsAll
  rw [List.zipWith_cons_cons, List.all_cons, id, fits_lit h1 h2]
  by_cases e : r.length = ss.length
  · rw [decide_eq_true (show V.int (((w :: r).length : Nat) : Int) = V.int (((l :: ss).length : Nat) : Int) by simp [e]), decide_eq_true (show V.int ((r.length : Nat) : Int) = V.int ((ss.length : Nat) : Int) by rw [e])]
    simp
  · rw [decide_eq_false (show ¬ V.int (((w :: r).length : Nat) : Int) = V.int (((l :: ss).length : Nat) : Int) by intro q; have := V.int.inj q; simp at this; omega), decide_eq_false (show ¬ V.int ((r.length : Nat) : Int) = V.int ((ss.length : Nat) : Int) by intro q; have := V.int.inj q; omega)]
    simp
/-- a slot and its letter -/
def Slot1 (s : Str) (c : Nat) : Prop := ∀ w, fits w s = lFits c w
theorem slot_n {s : Str} (h1 : decide (V.str s = V.str "MINUTE") = false) (h2 : Txt.isupper s = true) : Slot1 s 110 := fun w => by
  unfold fits lFits
  rw [h1, h2]
  rfl
theorem slot_d : Slot1 "MINUTE" 100 := fun w => by
  unfold fits lFits
  rw [if_pos (decide_eq_true rfl)]
  rfl
inductive Slots : List Str → List Nat → Prop
  | nil : Slots [] []
  | cons {s : Str} {c : Nat} {ss : List Str} {cs : List Nat} : Slot1 s c → Slots ss cs → Slots (s :: ss) (c :: cs)
theorem Slots.len : ∀ {ss : List Str} {cs : List Nat}, Slots ss cs → ss.length = cs.length
  | _, _, .nil => rfl
  | _, _, .cons _ h => by rw [List.length_cons, List.length_cons, h.len]
theorem hf_l : ∀ {ss : List Str} {cs : List Nat} (ws : List Str), Slots ss cs → hasForm ws ss = lHas ws cs := by
  intro ss cs ws h
  have hl : ss.length = cs.length := h.len
  unfold hasForm lHas
  have ed : decide (V.int (ws.length : Int) = V.int (ss.length : Int)) = decide (cs.length = ws.length) := by
    by_cases e : cs.length = ws.length
    · rw [decide_eq_true e, decide_eq_true (by rw [hl, e])]
    · rw [decide_eq_false e, decide_eq_false fun q => e (by have := V.int.inj q; omega)]
  rw [ed]
  congr 1
  congr 1
  unfold fitsAll
  clear hl ed
  induction h generalizing ws with
  | nil => cases ws <;> rfl
  | cons a _ ih =>
    cases ws with
    | nil => rfl
    | cons w ws => rw [List.zipWith_cons_cons, List.zipWith_cons_cons, a w, ih]
theorem forms_split : COMMS.map (fun f => Txt.split f " ") = ([["land", "NAME"], ["case", "NAME", "LAND"], ["start", "CASE", "PLACE", "MINUTE"], ["break", "CASE", "PLACE", "MINUTE"], ["free", "CASE", "PLACE"], ["ask", "CASE", "PLACE"], ["states", "CASE"], ["show", "CASE"], ["print", "LAND"], ["undo"], ["redo"], ["lands"], ["cases"], ["remove", "land", "NAME"], ["remove", "case", "NAME"]] : List (List Str)) := by decide +kernel
theorem n1 {s : Str} (h1 : decide (V.str s = V.str "MINUTE") = false) (h2 : Txt.isupper s = true) (ws : List Str) : hasForm ws [s] = lHas ws [110] := hf_l ws (.cons (slot_n h1 h2) .nil)
theorem n2 {s t : Str} (h1 : decide (V.str s = V.str "MINUTE") = false) (h2 : Txt.isupper s = true) (h3 : decide (V.str t = V.str "MINUTE") = false) (h4 : Txt.isupper t = true) (ws : List Str) : hasForm ws [s, t] = lHas ws [110, 110] := hf_l ws (.cons (slot_n h1 h2) (.cons (slot_n h3 h4) .nil))
theorem n3 {s t : Str} (h1 : decide (V.str s = V.str "MINUTE") = false) (h2 : Txt.isupper s = true) (h3 : decide (V.str t = V.str "MINUTE") = false) (h4 : Txt.isupper t = true) (ws : List Str) : hasForm ws [s, t, "MINUTE"] = lHas ws [110, 110, 100] := hf_l ws (.cons (slot_n h1 h2) (.cons (slot_n h3 h4) (.cons slot_d .nil)))
theorem n0 (ws : List Str) : hasForm ws [] = lHas ws [] := hf_l ws .nil
theorem cmd_or (w : Str) (r : List Str) : isCmd (w :: r) = ((decide (w = "land") && lHas r [110]) || ((decide (w = "case") && lHas r [110, 110]) || ((decide (w = "start") && lHas r [110, 110, 100]) || ((decide (w = "break") && lHas r [110, 110, 100]) || ((decide (w = "free") && lHas r [110, 110]) || ((decide (w = "ask") && lHas r [110, 110]) || ((decide (w = "states") && lHas r [110]) || ((decide (w = "show") && lHas r [110]) || ((decide (w = "print") && lHas r [110]) || ((decide (w = "undo") && lHas r []) || ((decide (w = "redo") && lHas r []) || ((decide (w = "lands") && lHas r []) || ((decide (w = "cases") && lHas r []) || ((decide (w = "remove") && hasForm r ["land", "NAME"]) || ((decide (w = "remove") && hasForm r ["case", "NAME"]) || false))))))))))))))) := by
  unfold isCmd
  rw [show (COMMS.map fun f => hasForm (w :: r) (Txt.split f " ")) = (COMMS.map fun f => Txt.split f " ").map (hasForm (w :: r)) by rw [List.map_map]; rfl, forms_split]
  simp only [List.map_cons, List.map_nil, List.any_cons, List.any_nil, id]
  rw [hf_cons (l := "land") (by decide +kernel) (by decide +kernel), hf_cons (l := "case") (by decide +kernel) (by decide +kernel), hf_cons (l := "start") (by decide +kernel) (by decide +kernel), hf_cons (l := "break") (by decide +kernel) (by decide +kernel), hf_cons (l := "free") (by decide +kernel) (by decide +kernel), hf_cons (l := "ask") (by decide +kernel) (by decide +kernel), hf_cons (l := "states") (by decide +kernel) (by decide +kernel), hf_cons (l := "show") (by decide +kernel) (by decide +kernel), hf_cons (l := "print") (by decide +kernel) (by decide +kernel), hf_cons (l := "undo") (by decide +kernel) (by decide +kernel), hf_cons (l := "redo") (by decide +kernel) (by decide +kernel), hf_cons (l := "lands") (by decide +kernel) (by decide +kernel), hf_cons (l := "cases") (by decide +kernel) (by decide +kernel), hf_cons (l := "remove") (by decide +kernel) (by decide +kernel), hf_cons (l := "remove") (by decide +kernel) (by decide +kernel)]
  rw [n1 (s := "NAME") (by decide +kernel) (by decide +kernel), n2 (s := "NAME") (t := "LAND") (by decide +kernel) (by decide +kernel) (by decide +kernel) (by decide +kernel), n3 (s := "CASE") (t := "PLACE") (by decide +kernel) (by decide +kernel) (by decide +kernel) (by decide +kernel), n2 (s := "CASE") (t := "PLACE") (by decide +kernel) (by decide +kernel) (by decide +kernel) (by decide +kernel), n1 (s := "CASE") (by decide +kernel) (by decide +kernel), n1 (s := "LAND") (by decide +kernel) (by decide +kernel), n0]
theorem rem_eq (r : List Str) : (hasForm r ["land", "NAME"] || (hasForm r ["case", "NAME"] || false)) = lRem r := by
  match r with
  | [] => rfl
  | [x] =>
    show (hasForm [x] ["land", "NAME"] || (hasForm [x] ["case", "NAME"] || false)) = false
    rw [hf_cons (l := "land") (by decide +kernel) (by decide +kernel), hf_cons (l := "case") (by decide +kernel) (by decide +kernel)]
    rw [show hasForm [] (["NAME"] : List Str) = false from rfl, Bool.and_false, Bool.and_false]
    rfl
  | [x, y] =>
    show (hasForm [x, y] ["land", "NAME"] || (hasForm [x, y] ["case", "NAME"] || false)) = (decide (x ∈ (["land", "case"] : List Str)) && isName y)
    rw [hf_cons (l := "land") (by decide +kernel) (by decide +kernel), hf_cons (l := "case") (by decide +kernel) (by decide +kernel), n1 (s := "NAME") (by decide +kernel) (by decide +kernel)]
    have e : lHas [y] [110] = isName y := by
      show (true && (lFits 110 y && true)) = _
      rw [Bool.and_true, Bool.true_and]
      rfl
    rw [e, Bool.or_false, ← Bool.and_or_distrib_right]
    congr 1
    by_cases a : x = "land"
    · subst a
      rfl
    · by_cases b : x = "case"
      · subst b
        rfl
      · rw [decide_eq_false a, decide_eq_false b, decide_eq_false (by simp [a, b])]
        rfl
  | x :: y :: z :: r =>
    show (hasForm (x :: y :: z :: r) ["land", "NAME"] || (hasForm (x :: y :: z :: r) ["case", "NAME"] || false)) = false
    have f : ∀ s t : Str, hasForm (x :: y :: z :: r) [s, t] = false := fun s t => by
      unfold hasForm
      rw [decide_eq_false (fun q => by have := V.int.inj q; simp at this; omega)]
      rfl
    rw [f, f]
    rfl
def kindB (f : Option Str) (A B C D : Bool) : Bool := match f with
  | none => false
  | some f => if f = "n" then A else if f = "nn" then B else if f = "nnd" then C else D
theorem cmd_eq {ws : List Str} (h : ws ≠ []) : isCmd ws = lCmd ws := by
  match ws, h with
  | w :: r, _ =>
    rw [cmd_or, lCmd_cons]
    by_cases c0 : w = "remove"
    · subst c0
      rw [if_pos rfl, ← rem_eq r]
      rw [decide_eq_true (show ("remove" : Str) = "remove" from rfl)]
      rw [decide_eq_false (show ¬ ("remove" : Str) = "land" by decide +kernel), decide_eq_false (show ¬ ("remove" : Str) = "case" by decide +kernel), decide_eq_false (show ¬ ("remove" : Str) = "start" by decide +kernel), decide_eq_false (show ¬ ("remove" : Str) = "break" by decide +kernel), decide_eq_false (show ¬ ("remove" : Str) = "free" by decide +kernel), decide_eq_false (show ¬ ("remove" : Str) = "ask" by decide +kernel), decide_eq_false (show ¬ ("remove" : Str) = "states" by decide +kernel), decide_eq_false (show ¬ ("remove" : Str) = "show" by decide +kernel), decide_eq_false (show ¬ ("remove" : Str) = "print" by decide +kernel), decide_eq_false (show ¬ ("remove" : Str) = "undo" by decide +kernel), decide_eq_false (show ¬ ("remove" : Str) = "redo" by decide +kernel), decide_eq_false (show ¬ ("remove" : Str) = "lands" by decide +kernel), decide_eq_false (show ¬ ("remove" : Str) = "cases" by decide +kernel)]
      simp only [Bool.false_and, Bool.false_or, Bool.true_and]
    · rw [if_neg c0, decide_eq_false c0]
      by_cases m : w ∈ LNAMES
      · have key : ∀ x ∈ LNAMES, ∀ A B C D E F : Bool, ((decide (x = "land") && A) || ((decide (x = "case") && B) || ((decide (x = "start") && C) || ((decide (x = "break") && C) || ((decide (x = "free") && B) || ((decide (x = "ask") && B) || ((decide (x = "states") && A) || ((decide (x = "show") && A) || ((decide (x = "print") && A) || ((decide (x = "undo") && D) || ((decide (x = "redo") && D) || ((decide (x = "lands") && D) || ((decide (x = "cases") && D) || ((false && E) || ((false && F) || false))))))))))))))) = kindB (lForm x) A B C D := by decide +kernel
        rw [key w m]
        have k2 : ∀ x ∈ LNAMES, lForm x = some "n" ∨ lForm x = some "nn" ∨ lForm x = some "nnd" ∨ lForm x = some Str.empty := by decide +kernel
        rcases k2 w m with e | e | e | e <;> rw [e]
        · rfl
        · rfl
        · rfl
        · rfl
      · have ne : ∀ l ∈ LNAMES, decide (w = l) = false := fun l hl => decide_eq_false fun e => m (e ▸ hl)
        rw [ne "land" (by decide +kernel), ne "case" (by decide +kernel), ne "start" (by decide +kernel), ne "break" (by decide +kernel), ne "free" (by decide +kernel), ne "ask" (by decide +kernel), ne "states" (by decide +kernel), ne "show" (by decide +kernel), ne "print" (by decide +kernel), ne "undo" (by decide +kernel), ne "redo" (by decide +kernel), ne "lands" (by decide +kernel), ne "cases" (by decide +kernel)]
        unfold lForm
        rw [if_neg m]
        simp only [Bool.false_and, Bool.false_or]
        rfl
end W3

set_option Elab.async false
set_option linter.all false
set_option maxRecDepth 100000
set_option maxHeartbeats 4000000
namespace W3
open PySem PySem.Spec PyProof.Rows L2 EvS Evl EV TX
/-! ### the program's words, commands and rows -/
def sp_split_words (K : PySem.W.Frag) : Sp := fun vs H Q _ => ∃ z : Str, vs = [.str z] ∧ z.length ≤ 10000 ∧ (Txt.split z " ").length ≤ 10000 ∧ ∀ p H', Ex H H' → H p = none → H' p = some (.lst ((toks (Txt.split z " ")).map V.str)) → Q (.ref p) H'
def sp_is_command (K : PySem.W.Frag) : Sp := fun vs H Q _ => ∃ (p : Addr) (ws : List Str), vs = [.ref p] ∧ SqL K H p (ws.map V.str) ∧ (∀ w ∈ ws, w.length ≤ 10000) ∧ ws.length ≤ 10000 ∧ ∀ H', Ex H H' → Q (.bl (isCmd ws)) H'
def numV (z : Str) : Int := (PySem.intText? z).getD 0
def F1 : List Str := ["wind", "MINUTE", "WIND"]
def F2 : List Str := ["start", "PLACE", "MINUTE"]
def F3 : List Str := ["break", "PLACE", "MINUTE"]
theorem sp1 : Txt.split "wind MINUTE WIND" " " = F1 := by decide +kernel
theorem sp2 : Txt.split "start PLACE MINUTE" " " = F2 := by decide +kernel
theorem sp3 : Txt.split "break PLACE MINUTE" " " = F3 := by decide +kernel
def rowD : List Str → Option PyData
  | [x, y, z] => if hasForm [x, y, z] F1 = true then some (.tuple [.str "wind", .int (numV y), .str z]) else if (hasForm [x, y, z] F2 || hasForm [x, y, z] F3) = true then some (.tuple [.str x, .str y, .int (numV z)]) else none
  | _ => none
theorem rowD3 (x y z : Str) : rowD [x, y, z] = if hasForm [x, y, z] F1 = true then some (.tuple [.str "wind", .int (numV y), .str z]) else if (hasForm [x, y, z] F2 || hasForm [x, y, z] F3) = true then some (.tuple [.str x, .str y, .int (numV z)]) else none := rfl
theorem form_len {ws ss : List Str} (h : hasForm ws ss = true) : ws.length = ss.length := by
  unfold hasForm at h
  rw [Bool.and_eq_true] at h
  have := V.int.inj (of_decide_eq_true h.1)
  omega
theorem digL {c : Nat} (h : c ∈ DIGS) : 48 ≤ c ∧ c ≤ 57 := by
  have : ∀ c ∈ DIGS, 48 ≤ c ∧ c ≤ 57 := by decide +kernel
  exact this c h
/-- a text of digits without a first zero is that of a number -/
theorem digs_num : ∀ (n : Nat) (l : List Nat), l.length = n + 1 → (∀ c ∈ l, 48 ≤ c ∧ c ≤ 57) → l.head? ≠ some 48 → ∃ m : Nat, 1 ≤ m ∧ m < 10 ^ (n + 1) ∧ TL.numL m = l
  | 0, l, hl, hd, hh => by
    match l, hl with
    | [c], _ =>
      have := hd c (by simp)
      have ne : c ≠ 48 := fun e => hh (by rw [e]; rfl)
      refine ⟨c - 48, by omega, by omega, ?_⟩
      rw [TL.numL_lt (by omega), show 48 + (c - 48) = c by omega]
  | n + 1, l, hl, hd, hh => by
    obtain ⟨i, c, rfl⟩ : ∃ i c, l = i ++ [c] := ⟨l.dropLast, l.getLast (fun e => by rw [e] at hl; cases hl), (List.dropLast_concat_getLast _).symm⟩
    rw [List.length_append, List.length_singleton] at hl
    have ine : i ≠ [] := fun e => by rw [e] at hl; simp at hl
    obtain ⟨m, h1, h2, h3⟩ := digs_num n i (by omega) (fun x hx => hd x (List.mem_append_left _ hx)) (fun e => hh (by rw [List.head?_append, e]; rfl))
    have hc := hd c (by simp)
    refine ⟨m * 10 + (c - 48), by omega, by rw [Nat.pow_succ]; omega, ?_⟩
    rw [TL.numL_step (by omega), show (m * 10 + (c - 48)) / 10 = m by omega, show 48 + (m * 10 + (c - 48)) % 10 = c by omega, h3]
theorem num_back {z : Str} (h : isNumber z = true) : ∃ m : Int, 0 ≤ m ∧ m ≤ 999999 ∧ z = numS m := by
  unfold isNumber at h
  rw [Bool.and_eq_true] at h
  obtain ⟨h1, h2⟩ := h
  have hl := of_decide_eq_true h1
  have el : z.cps.toList.length = z.length := Array.length_toList
  by_cases c : z.cps.toList.head? = some 48
  · rw [if_pos c] at h2
    rw [V.str.inj (of_decide_eq_true h2)]
    exact ⟨0, by decide, by decide, by decide +kernel⟩
  · rw [if_neg c] at h2
    obtain ⟨m, m1, m2, m3⟩ := digs_num (z.length - 1) z.cps.toList (by omega) (fun x hx => digL (of_decide_eq_true (List.all_eq_true.mp h2 x hx))) c
    have : 10 ^ (z.length - 1 + 1) ≤ 10 ^ 6 := Nat.pow_le_pow_right (by decide) (by omega)
    refine ⟨m, by omega, by omega, ?_⟩
    refine TL.ext_tl ?_
    show z.cps.toList = (numS m).cps.toList
    rw [num_tl (by omega), ← m3]
    rfl
theorem numV_ok {z : Str} (h : isNumber z = true) : PySem.intText? z = some (numV z) ∧ 0 ≤ numV z ∧ numV z ≤ 999999 ∧ z.length ≤ 640 := by
  obtain ⟨m, h1, h2, rfl⟩ := num_back h
  have e := num_int h1 h2
  have l := num_len h1 h2
  unfold numV
  rw [e]
  exact ⟨rfl, h1, h2, by omega⟩
theorem form_at {ws ss : List Str} {i : Nat} {x s : Str} (h : hasForm ws ss = true) (hx : ws[i]? = some x) (hs : ss[i]? = some s) : fits x s = true := by
  unfold hasForm at h
  rw [Bool.and_eq_true] at h
  refine List.all_eq_true.mp h.2 _ ?_
  unfold fitsAll
  refine List.mem_of_getElem? (i := i) ?_
  rw [List.getElem?_zipWith, hx, hs]
  rfl
theorem fits_min {x : Str} (h : fits x "MINUTE" = true) : isNumber x = true := by
  unfold fits at h
  rw [if_pos (decide_eq_true rfl)] at h
  exact h
def sp_row_of (K : PySem.W.Frag) : Sp := fun vs H Q _ => ∃ (p : Addr) (ws : List Str), vs = [.ref p] ∧ SqL K H p (ws.map V.str) ∧ (∀ w ∈ ws, w.length ≤ 10000) ∧ ws.length ≤ 10000 ∧
  (rowD ws = none → ∀ H', Ex H H' → Q .non H') ∧ ∀ d, rowD ws = some d → ∀ u H', Ex H H' → Dp K H' (.ref u) d → Q (.ref u) H'
theorem rowD_other {ws : List Str} (h : ws.length ≠ 3) : rowD ws = none := by
  match ws, h with
  | [], _ => rfl
  | [_], _ => rfl
  | [_, _], _ => rfl
  | [x, y, z], h => exact absurd rfl h
  | _ :: _ :: _ :: _ :: _, _ => rfl
theorem not_form {ws ss : List Str} (h : ws.length ≠ ss.length) : hasForm ws ss = false := by
  cases e : hasForm ws ss with
  | false => rfl
  | true => exact absurd (form_len e) h
section
variable {P : Program} {w : World} {K : PySem.W.Frag} {mg : Str → Option Value} {base : Heap} {a : Ad}
theorem G_split_words (T : Txt K mg a) : FnOk P w K mg base CX0 1 a.f_split_words a.d_split_words ["line"] (sp_split_words K) := by
  refine T.F_split_words.ok sc_split_words (fun vs H Q E h => ?_) (fun cdv A outer s H vs Q E hr h => ?_)
  · obtain ⟨z, rfl, _⟩ := h
    rfl
  · obtain ⟨z, rfl, hz, hn, k⟩ := h
    refine ⟨_, (pss_one (ps_ret (pe_lc (own := [("word", 1)]) (g := gName 1) rfl sc_split_words.nd (pi_list (pe_split (pv 0) pe_str)) (blkOk_by (N := ["line", "word"]) (sc := defScope s_split_words) (by decide +kernel)) (fun _ _ _ _ _ => pg_name (i := 1) sc_split_words.nd rfl (Or.inl rfl)) (fun _ _ _ _ _ => pts_one (pt_cmpR op_ne (pv 1) pe_str (nomark _))) (fun _ _ _ _ _ => (pv 1))))), ?_⟩
    refine ⟨_, rfl, ⟨_, rfl⟩, z, " ", rfl, rfl, by decide +kernel, sz_of (by omega), fun q hq => ?_⟩
    generalize hss : Txt.split z " " = ss at k hn
    have e1 : Ex H (upd H q (.lst (ss.map V.str))) := Ex.new hq
    have mq : (upd H q (.lst (ss.map V.str))) q = some (.lst (ss.map V.str)) := upd_same
    generalize upd H q (.lst (ss.map V.str)) = H1 at e1 mq
    refine ⟨q, rfl, ⟨_, SqL.of mq⟩, fun D hD => lc_list (K := K) (a := q) (xs := ss.map V.str) (fun i H' => Ex H1 H' ∧ H' D = some (.lst ((toks (ss.take i)).map V.str)) ∧ i ≤ ss.length) ⟨Ex.new hD, upd_same, Nat.zero_le _⟩ (fun i H' _ z => SqL.of (z.1 _ _ mq)) (fun i y H' hy z => ?_) (fun H2 z => ?_)⟩
    · obtain ⟨e, m, _⟩ := z
      have hi : i < ss.length := by have := (List.getElem?_eq_some_iff.mp hy).1; rwa [List.length_map] at this
      rw [List.getElem?_map, List.getElem?_eq_getElem hi] at hy
      obtain rfl := Option.some.inj hy
      have tk : toks (ss.take (i + 1)) = toks (ss.take i) ++ toks [ss[i]] := by rw [take_one (List.getElem?_eq_getElem hi), toks_app]
      generalize ss[i] = x at tk
      refine ⟨rfl, _, rfl, rfl, _, rfl, ?_⟩
      rw [tk]
      have e1 : toks [x] = if (!decide (V.str x = V.str "")) = true then [x] else [] := by
        unfold toks
        rw [List.filter_cons, List.filter_nil]
      rw [e1]
      refine ite2 (fun c => ?_) (fun c => ?_)
      · rw [if_pos c]
        refine ⟨_, rfl, _, m, sz_lt ?_, e.mut hD, ?_, hi⟩
        · have l := List.length_filter_le (fun p => !decide (V.str p = V.str "")) (ss.take i)
          rw [List.length_take] at l
          rw [List.length_map]
          show (toks (ss.take i)).length < _
          unfold toks
          omega
        · rw [upd_same, List.map_append]
          rfl
      · rw [if_neg c, List.append_nil]
        exact ⟨e, m, hi⟩
    · rw [List.length_map, List.take_length] at z
      have hp : H D = none := by
        cases hx : H D with
        | none => rfl
        | some o => exact absurd (e1 _ _ hx) (by rw [hD]; simp)
      exact k D H2 (e1.trans z.1) hp z.2.1
theorem G_is_command (T : Txt K mg a) : FnOk P w K mg base CX0 4 a.f_is_command a.d_is_command ["words"] (sp_is_command K) := by
  refine T.F_is_command.ok sc_is_command (fun vs H Q E h => ?_) (fun cdv A outer s H vs Q E hr h => ?_)
  · obtain ⟨p, ws, rfl, _⟩ := h
    rfl
  · obtain ⟨p, ws, rfl, hS, hw, hn, k⟩ := h
    refine ⟨_, (pss_one (ps_ret (pe_callB (cr_any rfl) (by rfl) T.z_any (by decide +kernel) (pa_cons (pe_lc (own := [("form", 1)]) (g := gName 1) (tt := tYes) rfl sc_is_command.nd (pi_tup (pe_glob (v := .ref a.q_COMMANDS) (by rfl) T.g_COMMANDS rfl)) (blkOk_by (N := ["words", "form"]) (sc := defScope s_is_command) (by decide +kernel)) (fun _ _ _ _ _ => pg_name (i := 1) sc_is_command.nd rfl (Or.inl rfl)) (fun _ _ _ _ _ => pts_nil) (fun _ _ _ _ _ => (pe_call (G_has_form T) (hr.mono (by decide)) (by rfl) T.g_has_form T.k_has_form T.B_has_form .nil pass0 (pa_cons (pv 0) (pa_cons (pv 1) pa_nil))))) pa_nil)))), ?_⟩
    have hg : ∀ H : Hp, SqT K H a.q_COMMANDS (COMMS.map V.str) := T.t_COMMANDS
    refine ⟨a.q_COMMANDS, rfl, ⟨_, hg H⟩, fun B hB => lcY_tup (K := K) (a := a.q_COMMANDS) (xs := COMMS.map V.str) (fun i H' => Ex H H' ∧ H' B = some (.lst ((((COMMS.map fun f => hasForm ws (Txt.split f " "))).take i).map V.bl))) ⟨Ex.new hB, by rw [upd_same] <;> rfl⟩ (fun i H' _ z => hg H') (fun j y H' hy z => ?_) (fun H6 z => ?_)⟩
    · have hjl : j < COMMS.length := by have := (List.getElem?_eq_some_iff.mp hy).1; rwa [List.length_map] at this
      have lf : ∀ f ∈ COMMS, f.length ≤ 1000 := by decide +kernel
      have lf := lf _ (List.getElem_mem hjl)
      have lc : COMMS.length ≤ 100 := by decide
      rw [List.getElem?_map, List.getElem?_eq_getElem hjl] at hy
      obtain rfl := Option.some.inj hy
      have es : (COMMS.map fun f => hasForm ws (Txt.split f " "))[j]? = some (hasForm ws (Txt.split COMMS[j] " ")) := by
        rw [List.getElem?_map, List.getElem?_eq_getElem hjl]
        rfl
      generalize COMMS[j] = fj at es lf
      refine ⟨rfl, _, rfl, _, rfl, p, ws, fj, rfl, ex_l z.1 hS, hw, hn, lf, fun H'' e => ?_⟩
      refine ⟨_, e _ _ z.2, sz_lt (by rw [List.length_map, List.length_take, List.length_map]; omega), (z.1.trans e).mut hB, ?_⟩
      rw [upd_same, take_one es, List.map_append]
      rfl
    · rw [List.length_map] at z
      have lok : (COMMS.map fun f => hasForm ws (Txt.split f " ")).length = COMMS.length := List.length_map ..
      rw [← lok, List.take_length] at z
      exact ⟨B, _, rfl, SqL.of z.2, k H6 z.1⟩
theorem G_row_of (T : Txt K mg a) : FnOk P w K mg base CX0 4 a.f_row_of a.d_row_of ["words"] (sp_row_of K) := by
  refine T.F_row_of.ok sc_row_of (fun vs H Q E h => ?_) (fun cdv A outer s H vs Q E hr h => ?_)
  · obtain ⟨p, ws, rfl, _⟩ := h
    rfl
  · obtain ⟨p, ws, rfl, hS, hw, hn, kn, ks⟩ := h
    refine ⟨_, (pss_cons (ps_if (pt_val (pe_call (G_has_form T) (hr.mono (by decide)) (by rfl) T.g_has_form T.k_has_form T.B_has_form .nil pass0 (pa_cons (pv 0) (pa_cons pe_str pa_nil)))) (pss_one (ps_ret (pe_tup (pa_cons pe_str (pa_cons (pe_callTy call_int_str (by rfl) T.z_int (by decide +kernel) (pa_cons (pe_ix ix_list (pv 0) pe_int (fun _ _ => rfl)) pa_nil)) (pa_cons (pe_ix ix_list (pv 0) pe_int (fun _ _ => rfl)) pa_nil)))))) pss_nil)
      (pss_cons (ps_if (PW.pt (pw_or (pt_val (pe_call (G_has_form T) (hr.mono (by decide)) (by rfl) T.g_has_form T.k_has_form T.B_has_form .nil pass0 (pa_cons (pv 0) (pa_cons pe_str pa_nil)))) (pw_or1 (pt_val (pe_call (G_has_form T) (hr.mono (by decide)) (by rfl) T.g_has_form T.k_has_form T.B_has_form .nil pass0 (pa_cons (pv 0) (pa_cons pe_str pa_nil))))))) (pss_one (ps_ret (pe_tup (pa_cons (pe_ix ix_list (pv 0) pe_int (fun _ _ => rfl)) (pa_cons (pe_ix ix_list (pv 0) pe_int (fun _ _ => rfl)) (pa_cons (pe_callTy call_int_str (by rfl) T.z_int (by decide +kernel) (pa_cons (pe_ix ix_list (pv 0) pe_int (fun _ _ => rfl)) pa_nil)) pa_nil)))))) pss_nil)
      (pss_one (ps_ret pe_non)))), ?_⟩
    refine ⟨_, rfl, p, ws, _, rfl, hS, hw, hn, by decide +kernel, fun H1 e1 => ?_⟩
    rw [sp1]
    refine ⟨_, rfl, ?_⟩
    refine ite2 (fun c => ?_) (fun c => ?_)
    · obtain ⟨x, y, z, rfl⟩ : ∃ x y z, ws = [x, y, z] := by
        match ws, form_len c with
        | [x, y, z], _ => exact ⟨x, y, z, rfl⟩
      have ny := numV_ok (fits_min (form_at (i := 1) c rfl rfl))
      refine ⟨_, rfl, p, _, _, _, rfl, rfl, ex_l e1 hS, atI_nat (j := 1) rfl, y, numV y, rfl, ny.1, ny.2.2.2, _, rfl, p, _, _, _, rfl, rfl, ex_l e1 hS, atI_nat (j := 2) rfl, by show 3 ≤ sizeLine; decide, fun t ht => ?_⟩
      refine ks _ (by rw [rowD3, if_pos c]) _ _ (e1.trans (Ex.new ht)) ?_
      exact .tup (st_of upd_same) (.cons (.str _) (.cons (.int _) (.cons (.str _) .nil)))
    · have fin : ∀ H2, Ex H H2 → (hasForm ws F2 || hasForm ws F3) = true → ∃ x y z, ws = [x, y, z] ∧ PySem.intText? z = some (numV z) ∧ z.length ≤ 640 ∧ ∀ t, H2 t = none → Q (.ref t) (upd H2 t (.tup [.str x, .str y, .int (numV z)])) := fun H2 e2 c2 => by
        have l3 : ws.length = 3 := by
          rw [Bool.or_eq_true] at c2
          rcases c2 with c2 | c2
          · exact form_len c2
          · exact form_len c2
        obtain ⟨x, y, z, rfl⟩ : ∃ x y z, ws = [x, y, z] := by
          match ws, l3 with
          | [x, y, z], _ => exact ⟨x, y, z, rfl⟩
        have nz : isNumber z = true := by
          rw [Bool.or_eq_true] at c2
          rcases c2 with c2 | c2
          · exact fits_min (form_at (i := 2) c2 rfl rfl)
          · exact fits_min (form_at (i := 2) c2 rfl rfl)
        have nz := numV_ok nz
        refine ⟨x, y, z, rfl, nz.1, nz.2.2.2, fun t ht => ?_⟩
        refine ks _ (by rw [rowD3, if_neg c, if_pos c2]) _ _ (e2.trans (Ex.new ht)) ?_
        exact .tup (st_of upd_same) (.cons (.str _) (.cons (.str _) (.cons (.int _) .nil)))
      refine ⟨_, rfl, p, ws, _, rfl, ex_l e1 hS, hw, hn, by decide +kernel, fun H2 e2 => ?_⟩
      rw [sp2]
      cases c2 : hasForm ws F2 with
      | true =>
        obtain ⟨x, y, z, rfl, nz, lz, fin⟩ := fin H2 (e1.trans e2) (by rw [c2]; rfl)
        refine ⟨_, rfl, iteT ⟨_, rfl, p, _, _, _, rfl, rfl, ex_l (e1.trans e2) hS, atI_nat (j := 0) rfl, _, rfl, p, _, _, _, rfl, rfl, ex_l (e1.trans e2) hS, atI_nat (j := 1) rfl, _, rfl, p, _, _, _, rfl, rfl, ex_l (e1.trans e2) hS, atI_nat (j := 2) rfl, z, _, rfl, nz, lz, by show 3 ≤ sizeLine; decide, fin⟩⟩
      | false =>
        refine ⟨_, rfl, _, rfl, p, ws, _, rfl, ex_l (e1.trans e2) hS, hw, hn, by decide +kernel, fun H3 e3 => ?_⟩
        rw [sp3]
        cases c3 : hasForm ws F3 with
        | true =>
          obtain ⟨x, y, z, rfl, nz, lz, fin⟩ := fin H3 ((e1.trans e2).trans e3) (by rw [c2, c3]; rfl)
          refine ⟨_, rfl, iteT ⟨_, rfl, p, _, _, _, rfl, rfl, ex_l ((e1.trans e2).trans e3) hS, atI_nat (j := 0) rfl, _, rfl, p, _, _, _, rfl, rfl, ex_l ((e1.trans e2).trans e3) hS, atI_nat (j := 1) rfl, _, rfl, p, _, _, _, rfl, rfl, ex_l ((e1.trans e2).trans e3) hS, atI_nat (j := 2) rfl, z, _, rfl, nz, lz, by show 3 ≤ sizeLine; decide, fin⟩⟩
        | false =>
          refine ⟨_, rfl, iteF (kn ?_ H3 ((e1.trans e2).trans e3))⟩
          by_cases l3 : ws.length = 3
          · obtain ⟨x, y, z, rfl⟩ : ∃ x y z, ws = [x, y, z] := by
              match ws, l3 with
              | [x, y, z], _ => exact ⟨x, y, z, rfl⟩
            rw [rowD3, if_neg c, c2, c3, if_neg (by decide)]
          · exact rowD_other l3
end
end W3

set_option Elab.async false
set_option linter.all false
set_option maxRecDepth 100000
set_option maxHeartbeats 4000000
namespace W3
open PySem PySem.Spec PyProof.Rows L2 EvS Evl EV TX
/-! ### the law's own look at words -/
def sp__law_is_name : Sp := fun vs H Q _ => ∃ z : Str, vs = [.str z] ∧ z.length ≤ 10000 ∧ ∀ H', Ex H H' → Q (.bl (isName z)) H'
def sp__law_is_number : Sp := fun vs H Q _ => ∃ z : Str, vs = [.str z] ∧ z.length ≤ 10000 ∧ ∀ H', Ex H H' → Q (.bl (isNumber z)) H'
theorem letdig : ("abcdefghijklmnopqrstuvwxyz0123456789" : Str).cps.toList = LETS ++ DIGS := by decide +kernel
theorem okSign_eq (c : Nat) : decide (c ∈ ("abcdefghijklmnopqrstuvwxyz0123456789" : Str).cps.toList) = okSign c := by
  rw [letdig]
  unfold okSign
  by_cases h1 : c ∈ LETS
  · rw [decide_eq_true h1, decide_eq_true (List.mem_append_left _ h1)]
    rfl
  · by_cases h2 : c ∈ DIGS
    · rw [decide_eq_true h2, decide_eq_true (List.mem_append_right _ h2), Bool.or_true]
    · rw [decide_eq_false h1, decide_eq_false h2, decide_eq_false (by simp [h1, h2])]
      rfl
section
variable {P : Program} {w : World} {K : PySem.W.Frag} {mg : Str → Option Value} {base : Heap} {a : Ad}
theorem G__law_is_name (T : Txt K mg a) : FnOk P w K mg base CX0 1 a.f__law_is_name a.d__law_is_name ["word"] sp__law_is_name := by
  refine T.F__law_is_name.ok sc__law_is_name (fun vs H Q E h => ?_) (fun cdv A outer s H vs Q E hr h => ?_)
  · obtain ⟨z, rfl, _⟩ := h
    rfl
  · obtain ⟨z, rfl, hz, k⟩ := h
    have hzs : z.length ≤ sizeLine := sz_of (by omega)
    refine ⟨_, (pss_cons (ps_if (PW.pt (pw_or (pt_cmpR op_lt (pe_callB call_len_str (by rfl) T.z_len PySem.boot_len (pa_cons (pv 0) pa_nil)) pe_int (nomark _)) (pw_or (pt_cmpR op_gt (pe_callB call_len_str (by rfl) T.z_len PySem.boot_len (pa_cons (pv 0) pa_nil)) pe_int (nomark _)) (pw_or1 (pt_cmpR op_notIn_sign (pe_ix ix_str (pv 0) pe_int (fun _ _ => rfl)) pe_str rfl))))) (pss_one (ps_ret pe_bl)) pss_nil)
      (pss_one (ps_ret (pe_callB (cr_all rfl) (by rfl) T.z_all (by decide +kernel) (pa_cons (pe_lc (own := [("char", 1)]) (g := gName 1) (tt := tYes) rfl sc__law_is_name.nd (pi_str (pv 0)) (blkOk_by (N := ["word", "char"]) (sc := defScope s__law_is_name) (by decide +kernel)) (fun _ _ _ _ _ => pg_name (i := 1) sc__law_is_name.nd rfl (Or.inl rfl)) (fun _ _ _ _ _ => pts_nil) (fun _ _ _ _ _ => (pe_cmpR op_in_sign (pv 1) pe_str rfl))) pa_nil))))), ?_⟩
    have hsz : z.cps.size = z.length := rfl
    have hlen : z.cps.toList.length = z.cps.size := Array.length_toList
    have no : isName z = false → Q (.bl false) H := fun e => by
      have q := k H (Ex.refl H)
      rw [e] at q
      exact q
    refine ⟨_, rfl, z, rfl, hzs, _, _, rfl, rfl, _, rfl, ?_⟩
    refine ite2 (fun h1 => ?_) (fun h1 => ?_)
    · refine iteT (no ?_)
      have := of_decide_eq_true h1
      unfold isName
      rw [decide_eq_false (show ¬ (1 ≤ z.length ∧ z.length ≤ 12) by omega)]
      rfl
    have h1' : 1 ≤ z.length := by
      simp at h1
      omega
    refine ⟨_, rfl, z, rfl, hzs, _, _, rfl, rfl, _, rfl, ?_⟩
    refine ite2 (fun h2 => ?_) (fun h2 => ?_)
    · refine iteT (no ?_)
      have := of_decide_eq_true h2
      unfold isName
      rw [decide_eq_false (show ¬ (1 ≤ z.length ∧ z.length ≤ 12) by omega)]
      rfl
    have h2' : z.length ≤ 12 := by
      simp at h2
      omega
    obtain ⟨c0, hc0⟩ : ∃ c, z.cps[0]? = some c := ⟨_, Array.getElem?_eq_getElem (by omega)⟩
    have hl0 : z.cps.toList[0]? = some c0 := by rw [Array.getElem?_toList]; exact hc0
    have hh : z.cps.toList.head? = some c0 := by rw [List.head?_eq_getElem?]; exact hl0
    have en : isName z = (decide (c0 ∈ LETS) && z.cps.toList.all okSign) := by
      unfold isName
      rw [decide_eq_true (show 1 ≤ z.length ∧ z.length ≤ 12 from ⟨h1', h2'⟩), hh, Bool.true_and]
      rfl
    rw [en] at no k
    refine ⟨_, rfl, z, 0, c0, rfl, rfl, hzs, (by have := atI_nat (j := 0) hl0; simpa using this), c0, _, rfl, rfl, _, rfl, ?_⟩
    rw [show ("abcdefghijklmnopqrstuvwxyz" : Str).cps.toList = LETS from rfl]
    cases h3 : decide (c0 ∈ LETS) with
    | false =>
      rw [h3] at no
      exact iteT (no rfl)
    | true =>
      rw [h3, Bool.true_and] at k
      refine iteF ?_
      refine ⟨_, rfl, z, rfl, fun D hD => lcY_sign (fun i H' => Ex H H' ∧ H' D = some (.lst ((z.cps.toList.take i).map fun c => V.bl (okSign c)))) ⟨Ex.new hD, upd_same⟩ (fun i c H' hc p => ?_) (fun H' p => ?_)⟩
      · obtain ⟨p2, p3⟩ := p
        have hil : i < z.cps.size := (Array.getElem?_eq_some_iff.mp hc).1
        have hlc : z.cps.toList[i]? = some c := by rw [Array.getElem?_toList]; exact hc
        refine ⟨rfl, _, rfl, c, _, rfl, rfl, _, p3, sz_lt ?_, p2.mut hD, ?_⟩
        · rw [List.length_map, List.length_take]
          omega
        · rw [upd_same, List.take_add_one, hlc, List.map_append, okSign_eq]
          rfl
      · obtain ⟨p2, p3⟩ := p
        rw [← hlen, List.take_length] at p3
        refine ⟨D, z.cps.toList.map okSign, rfl, ?_, ?_⟩
        · rw [List.map_map]
          exact SqL.of p3
        · have q := k H' p2
          rw [List.all_map]
          exact q
theorem G__law_is_number (T : Txt K mg a) : FnOk P w K mg base CX0 1 a.f__law_is_number a.d__law_is_number ["word"] sp__law_is_number := by
  refine T.F__law_is_number.ok sc__law_is_number (fun vs H Q E h => ?_) (fun cdv A outer s H vs Q E hr h => ?_)
  · obtain ⟨z, rfl, _⟩ := h
    rfl
  · obtain ⟨z, rfl, hz, k⟩ := h
    have hzs : z.length ≤ sizeLine := sz_of (by omega)
    refine ⟨_, (pss_cons (ps_if (PW.pt (pw_or (pt_cmpR op_lt (pe_callB call_len_str (by rfl) T.z_len PySem.boot_len (pa_cons (pv 0) pa_nil)) pe_int (nomark _)) (pw_or (pt_cmpR op_gt (pe_callB call_len_str (by rfl) T.z_len PySem.boot_len (pa_cons (pv 0) pa_nil)) pe_int (nomark _)) (pw_or1 (PW.pt (pw_and (pt_cmpR op_gt (pe_callB call_len_str (by rfl) T.z_len PySem.boot_len (pa_cons (pv 0) pa_nil)) pe_int (nomark _)) (pw_and1 (pt_cmpR op_eq (pe_ix ix_str (pv 0) pe_int (fun _ _ => rfl)) pe_str (nomark _))))))))) (pss_one (ps_ret pe_bl)) pss_nil)
      (pss_one (ps_ret (pe_callB (cr_all rfl) (by rfl) T.z_all (by decide +kernel) (pa_cons (pe_lc (own := [("char", 1)]) (g := gName 1) (tt := tYes) rfl sc__law_is_number.nd (pi_str (pv 0)) (blkOk_by (N := ["word", "char"]) (sc := defScope s__law_is_number) (by decide +kernel)) (fun _ _ _ _ _ => pg_name (i := 1) sc__law_is_number.nd rfl (Or.inl rfl)) (fun _ _ _ _ _ => pts_nil) (fun _ _ _ _ _ => (pe_cmpR op_in_sign (pv 1) pe_str rfl))) pa_nil))))), ?_⟩
    have hsz : z.cps.size = z.length := rfl
    have hlen : z.cps.toList.length = z.cps.size := Array.length_toList
    have no : isNumber z = false → Q (.bl false) H := fun e => by
      have q := k H (Ex.refl H)
      rw [e] at q
      exact q
    have out : ¬ (1 ≤ z.length ∧ z.length ≤ 6) → isNumber z = false := fun n => by
      unfold isNumber
      rw [decide_eq_false n]
      rfl
    refine ⟨_, rfl, z, rfl, hzs, _, _, rfl, rfl, _, rfl, ?_⟩
    refine ite2 (fun h1 => ?_) (fun h1 => ?_)
    · exact iteT (no (out (by have := of_decide_eq_true h1; omega)))
    have h1' : 1 ≤ z.length := by
      simp at h1
      omega
    refine ⟨_, rfl, z, rfl, hzs, _, _, rfl, rfl, _, rfl, ?_⟩
    refine ite2 (fun h2 => ?_) (fun h2 => ?_)
    · exact iteT (no (out (by have := of_decide_eq_true h2; omega)))
    have h2' : z.length ≤ 6 := by
      simp at h2
      omega
    obtain ⟨c0, hc0⟩ : ∃ c, z.cps[0]? = some c := ⟨_, Array.getElem?_eq_getElem (by omega)⟩
    have hl0 : z.cps.toList[0]? = some c0 := by rw [Array.getElem?_toList]; exact hc0
    have hh : z.cps.toList.head? = some c0 := by rw [List.head?_eq_getElem?]; exact hl0
    have en : isNumber z = (if c0 = 48 then decide (z = "0") else z.cps.toList.all fun c => decide (c ∈ DIGS)) := by
      unfold isNumber
      rw [decide_eq_true (show 1 ≤ z.length ∧ z.length ≤ 6 from ⟨h1', h2'⟩), hh, Bool.true_and]
      by_cases q : c0 = 48
      · rw [if_pos (by rw [q]), if_pos q]
        exact str_dec z "0"
      · rw [if_neg (fun e => q (Option.some.inj e)), if_neg q]
    refine ⟨_, rfl, z, rfl, hzs, _, _, rfl, rfl, _, rfl, ?_⟩
    refine ite2 (fun h4 => ?_) (fun h4 => ?_)
    case' refine_1 =>
      refine ⟨_, rfl, z, 0, c0, rfl, rfl, hzs, (by have := atI_nat (j := 0) hl0; simpa using this), rfl, _, rfl, ?_⟩
      refine ite2 (fun h5 => ?_) (fun h5 => ?_)
      · have e := V.str.inj (of_decide_eq_true h5)
        have e2 := congrArg (fun s : Str => s.cps.toList) e
        have e3 : [c0] = [48] := e2.trans (by decide +kernel)
        refine no ?_
        rw [en, if_pos (List.cons.inj e3).1]
        refine decide_eq_false fun q => ?_
        have := of_decide_eq_true h4
        rw [q] at this
        exact absurd this (by decide +kernel)
      have e0 : isNumber z = z.cps.toList.all fun c => decide (c ∈ DIGS) := by
        rw [en, if_neg]
        intro q
        rw [q] at h5
        exact h5 (by decide +kernel)
    case' refine_2 =>
      have e0 : isNumber z = z.cps.toList.all fun c => decide (c ∈ DIGS) := by
        rw [en]
        by_cases q : c0 = 48
        · have l1 : z.length = 1 := by
            simp at h4
            omega
          have ez : z.cps.toList = [48] := by
            match hm : z.cps.toList, (show z.cps.toList.length = 1 by rw [hlen, hsz, l1]) with
            | [x], _ =>
              rw [hm] at hl0
              rw [← q, ← Option.some.inj hl0]
          rw [if_pos q, decide_eq_true (show z = "0" from TL.ext_tl (show z.cps.toList = ("0" : Str).cps.toList by rw [ez]; decide +kernel)), ez]
          decide +kernel
        · rw [if_neg q]
    all_goals (
      rw [e0] at k
      refine ⟨_, rfl, z, rfl, fun D hD => lcY_sign (fun i H' => Ex H H' ∧ H' D = some (.lst ((z.cps.toList.take i).map fun c => V.bl (decide (c ∈ DIGS))))) ⟨Ex.new hD, upd_same⟩ (fun i c H' hc p => ?_) (fun H' p => ?_)⟩
      · obtain ⟨p2, p3⟩ := p
        have hil : i < z.cps.size := (Array.getElem?_eq_some_iff.mp hc).1
        have hlc : z.cps.toList[i]? = some c := by rw [Array.getElem?_toList]; exact hc
        refine ⟨rfl, _, rfl, c, _, rfl, rfl, _, p3, sz_lt ?_, p2.mut hD, ?_⟩
        · rw [List.length_map, List.length_take]
          omega
        · rw [upd_same, List.take_add_one, hlc, List.map_append]
          rfl
      · obtain ⟨p2, p3⟩ := p
        rw [← hlen, List.take_length] at p3
        refine ⟨D, z.cps.toList.map fun c => decide (c ∈ DIGS), rfl, ?_, ?_⟩
        · rw [List.map_map]
          exact SqL.of p3
        · have q := k H' p2
          rw [List.all_map]
          exact q)
end
end W3

set_option Elab.async false
set_option linter.all false
set_option maxRecDepth 100000
set_option maxHeartbeats 4000000
namespace W3
open PySem PySem.Spec PyProof.Rows L2 EvS Evl EV TX
/-! ### drawn words -/
def sp__law_word : Sp := fun vs H Q _ => ∃ n m : Int, vs = [.int n, .int m] ∧ 0 ≤ n ∧ n < 1009 ∧ 0 ≤ m ∧ m < 1009 ∧ ∀ z H', Wd z → Ex H H' → Q (.str z) H'
def KW14 : List Str := ["land", "case", "start", "break", "free", "ask", "states", "show", "print", "undo", "redo", "lands", "cases", "remove"]
def KW6 : List Str := ["wind", "end", "01", "+1", "1_0", "0"]
def SIGNS : Str := "abcdefghijklmnopqrstuvwxyz0123456789"
theorem kw_ok : ∀ x ∈ KW14 ++ KW6, Wd x := by decide +kernel
theorem signs_len : SIGNS.length = 36 := by decide +kernel
theorem signs_ok : ∀ c ∈ SIGNS.cps.toList, 33 ≤ c ∧ c < 127 := by decide +kernel
theorem sign_at {i : Int} (h0 : 0 ≤ i) (h1 : i < 36) : ∃ c, atI SIGNS.cps.toList i = some c ∧ 33 ≤ c ∧ c < 127 := by
  have l : SIGNS.cps.toList.length = 36 := by decide +kernel
  have hi : i.toNat < SIGNS.cps.toList.length := by omega
  refine ⟨SIGNS.cps.toList[i.toNat], ?_, signs_ok _ (List.getElem_mem hi)⟩
  have := atI_nat (j := i.toNat) (List.getElem?_eq_getElem hi)
  rwa [Int.toNat_of_nonneg h0] at this
theorem join0_tl : ∀ ys : List Str, (Txt.join "" ys).cps.toList = (ys.map fun y => y.cps.toList).flatten
  | [] => by decide +kernel
  | [y] => by
    rw [TX.join_one]
    simp
  | y :: z :: r => by
    rw [join_two, app_list, app_list, join0_tl (z :: r)]
    simp
    rfl
/-- one sign -/
def One (y : Str) : Prop := y.length = 1 ∧ ∀ c ∈ y.cps.toList, 33 ≤ c ∧ c < 127
theorem one_of {c : Nat} (h : 33 ≤ c ∧ c < 127) : One ⟨#[c]⟩ := ⟨rfl, fun x hx => by
  have : x = c := by simpa using hx
  rw [this]
  exact h⟩
theorem ones : ∀ {ys : List Str}, (∀ y ∈ ys, One y) → ((ys.map fun y => y.cps.toList).flatten).length = ys.length ∧ ∀ c ∈ (ys.map fun y => y.cps.toList).flatten, 33 ≤ c ∧ c < 127
  | [], _ => ⟨rfl, fun c hc => by cases hc⟩
  | y :: r, h => by
    obtain ⟨i1, i2⟩ := ones (ys := r) fun x hx => h x (List.mem_cons_of_mem _ hx)
    obtain ⟨h1, h2⟩ := h y List.mem_cons_self
    have hl : y.cps.toList.length = y.length := Array.length_toList
    refine ⟨?_, fun c hc => ?_⟩
    · rw [List.map_cons, List.flatten_cons, List.length_append, i1, hl, h1, List.length_cons]
      omega
    · rw [List.map_cons, List.flatten_cons] at hc
      rcases List.mem_append.mp hc with hc | hc
      · exact h2 c hc
      · exact i2 c hc
theorem join_ones {ys : List Str} (h : ∀ y ∈ ys, One y) : (Txt.join "" ys).length = ys.length ∧ ∀ c ∈ (Txt.join "" ys).cps.toList, 33 ≤ c ∧ c < 127 := by
  obtain ⟨h1, h2⟩ := ones h
  refine ⟨?_, ?_⟩
  · have : (Txt.join "" ys).cps.toList.length = (Txt.join "" ys).length := Array.length_toList
    rw [← this, join0_tl, h1]
  · rw [join0_tl]
    exact h2
section
variable {P : Program} {w : World} {K : PySem.W.Frag} {mg : Str → Option Value} {base : Heap} {a : Ad}
theorem G__law_word (T : Txt K mg a) : FnOk P w K mg base CX0 1 a.f__law_word a.d__law_word ["number", "more"] sp__law_word := by
  refine T.F__law_word.ok sc__law_word (fun vs H Q E h => ?_) (fun cdv A outer s H vs Q E hr h => ?_)
  · obtain ⟨n, m, rfl, _⟩ := h
    rfl
  · obtain ⟨n, mo, rfl, n0, n1, m0, m1, k⟩ := h
    refine ⟨_, (pss_cons (ps_set (i := 2) sc__law_word.nd rfl (Or.inl rfl) (pe_tup (pa_cons pe_str (pa_cons pe_str (pa_cons pe_str (pa_cons pe_str (pa_cons pe_str (pa_cons pe_str (pa_cons pe_str (pa_cons pe_str (pa_cons pe_str (pa_cons pe_str (pa_cons pe_str (pa_cons pe_str (pa_cons pe_str (pa_cons pe_str pa_nil))))))))))))))))
      (pss_cons (ps_set (i := 2) sc__law_word.nd rfl (Or.inl rfl) (pe_op op_catT (pv 2) (pe_tup (pa_cons pe_str (pa_cons pe_str (pa_cons pe_str (pa_cons pe_str (pa_cons pe_str (pa_cons pe_str pa_nil)))))))))
      (pss_cons (ps_set (i := 3) sc__law_word.nd rfl (Or.inr rfl) pe_str)
      (pss_cons (ps_if (pt_cmpR op_eq (pe_op op_mod (pe_callTy call_int1 (by rfl) T.z_int (by decide +kernel) (pa_cons (pv 0) pa_nil)) pe_int) pe_int (nomark _)) (pss_one (ps_ret (pe_ix ix_tup (pv 2) (pe_op op_mod (pe_callTy call_int1 (by rfl) T.z_int (by decide +kernel) (pa_cons (pe_op op_fdiv (pv 0) pe_int) pa_nil)) pe_int) (fun _ _ => rfl)))) pss_nil)
      (pss_cons (ps_set (i := 4) sc__law_word.nd rfl (Or.inl rfl) (pe_op op_mod (pe_callTy call_int1 (by rfl) T.z_int (by decide +kernel) (pa_cons (pe_op op_fdiv (pv 0) pe_int) pa_nil)) pe_int))
      (pss_cons (ps_if (pt_cmpR op_eq (pe_op op_mod (pe_callTy call_int1 (by rfl) T.z_int (by decide +kernel) (pa_cons (pv 0) pa_nil)) pe_int) pe_int (nomark _)) (pss_one (ps_ret (pe_join pe_str (pe_lc (own := [("k", 6)]) (g := gName 6) (tt := tYes) rfl sc__law_word.nd (pi_range1 (by rfl) T.z_range (pa_cons (pe_op op_add pe_int (pv 4)) pa_nil)) (blkOk_by (N := ["number", "more", "words", "letters", "size", "word", "k"]) (sc := defScope s__law_word) (by decide +kernel)) (fun _ _ _ _ _ => pg_name (i := 6) sc__law_word.nd rfl (Or.inl rfl)) (fun _ _ _ _ _ => pts_nil) (fun _ _ _ _ _ => (pe_ix ix_str (pv 3) (pe_op op_add pe_int (pe_op op_mod (pe_callTy call_int1 (by rfl) T.z_int (by decide +kernel) (pa_cons (pe_op op_add (pe_op op_add (pv 1) (pe_op op_mul (pe_op op_mul (pv 6) (pv 6)) pe_int)) (pe_op op_fdiv (pv 0) pe_int)) pa_nil)) pe_int)) (fun _ _ => rfl))))))) pss_nil)
      (pss_cons (ps_set (i := 5) sc__law_word.nd rfl (Or.inl rfl) (pe_op op_add_str (pe_ix ix_str (pv 3) (pe_op op_mod (pe_callTy call_int1 (by rfl) T.z_int (by decide +kernel) (pa_cons (pv 1) pa_nil)) pe_int) (fun _ _ => rfl)) (pe_join pe_str (pe_lc (own := [("k", 6)]) (g := gName 6) (tt := tYes) rfl sc__law_word.nd (pi_range1 (by rfl) T.z_range (pa_cons (pe_op op_mul (pv 4) pe_int) pa_nil)) (blkOk_by (N := ["number", "more", "words", "letters", "size", "word", "k"]) (sc := defScope s__law_word) (by decide +kernel)) (fun _ _ _ _ _ => pg_name (i := 6) sc__law_word.nd rfl (Or.inl rfl)) (fun _ _ _ _ _ => pts_nil) (fun _ _ _ _ _ => (pe_ix ix_str (pv 3) (pe_op op_mod (pe_callTy call_int1 (by rfl) T.z_int (by decide +kernel) (pa_cons (pe_op op_add (pe_op op_add (pv 1) (pe_op op_mul (pe_op op_mul pe_int (pv 6)) (pv 0))) (pv 6)) pa_nil)) pe_int) (fun _ _ => rfl)))))))
      (pss_cons (ps_if (pt_cmpR op_eq (pe_op op_mod (pe_callTy call_int1 (by rfl) T.z_int (by decide +kernel) (pa_cons (pv 1) pa_nil)) pe_int) pe_int (nomark _)) (pss_one (ps_ret (pe_op op_add_str (pe_op op_add_str (pe_slice sl_str (pv 5) po_none (po_some pe_int)) pe_str) (pe_slice sl_str (pv 5) (po_some pe_int) po_none)))) pss_nil)
      (pss_one (ps_ret (pv 5))))))))))), ?_⟩
    refine ⟨by show 14 ≤ sizeLine; decide, fun t ht => ?_⟩
    generalize hH : upd H t _ = H1
    have e1 : Ex H H1 := by rw [← hH]; exact Ex.new ht
    have mt : H1 t = some (.tup (KW14.map V.str)) := by rw [← hH]; exact upd_same
    refine ⟨_, rfl, by show 6 ≤ sizeLine; decide, fun u hu => ?_⟩
    generalize hH2 : upd H1 u _ = H2
    have e2 : Ex H1 H2 := by rw [← hH2]; exact Ex.new hu
    have mu : H2 u = some (.tup (KW6.map V.str)) := by rw [← hH2]; exact upd_same
    have e12 := e1.trans e2
    refine ⟨t, u, _, _, rfl, rfl, st_of (e2 _ _ mt), st_of mu, by decide, by show 20 ≤ sizeLine; decide, (fun q => by cases q), fun _ c hc => ?_⟩
    generalize hH3 : upd H2 c _ = H3
    have e3 : Ex H2 H3 := by rw [← hH3]; exact Ex.new hc
    have mc : H3 c = some (.tup ((KW14 ++ KW6).map V.str)) := by rw [← hH3]; exact upd_same
    have e13 := e12.trans e3
    have l20 : (KW14 ++ KW6).length = 20 := rfl
    have hz : SIGNS.length ≤ sizeLine := sz_of (by rw [signs_len]; decide)
    refine ⟨_, rfl, .inl ⟨_, rfl, _, _, rfl, rfl, (by show (0 : Int) < 4; decide), rfl, _, rfl, ?_⟩⟩
    refine ite2 (fun c1 => ?_) (fun c1 => ?_)
    · have hi : (n / 4 % 20).toNat < (KW14 ++ KW6).length := by omega
      refine ⟨_, rfl, _, rfl, _, _, rfl, rfl, ⟨by decide, by decide⟩, .inl ⟨_, rfl, _, _, rfl, rfl, (by show (0 : Int) < 20; decide), c, _, _, .str (KW14 ++ KW6)[(n / 4 % 20).toNat], rfl, rfl, st_of mc, ?_, k _ _ (kw_ok _ (List.getElem_mem hi)) e13⟩⟩
      have := atI_nat (xs := (KW14 ++ KW6).map V.str) (j := (n / 4 % 20).toNat) (by rw [List.getElem?_map, List.getElem?_eq_getElem hi]; rfl)
      rwa [Int.toNat_of_nonneg (by omega)] at this
    refine ⟨_, rfl, _, _, rfl, rfl, ⟨by decide, by decide⟩, .inl ⟨_, rfl, _, _, rfl, rfl, (by show (0 : Int) < 7; decide), ?_⟩⟩
    refine ⟨_, rfl, .inl ⟨_, rfl, _, _, rfl, rfl, (by show (0 : Int) < 4; decide), rfl, _, rfl, ?_⟩⟩
    have s0 : 0 ≤ n / 4 % 7 ∧ n / 4 % 7 < 7 := ⟨Int.emod_nonneg _ (by decide), Int.emod_lt_of_pos _ (by decide)⟩
    refine ite2 (fun c2 => ?_) (fun c2 => ?_)
    · refine ⟨⟨_, rfl⟩, _, rfl, _, _, rfl, rfl, _, rfl, by omega, by omega, fun D0 hD => lc_range (lo := 0) (n := (1 + n / 4 % 7).toNat) (fun i H' => Ex H3 H' ∧ ∃ ys : List Str, H' D0 = some (.lst (ys.map V.str)) ∧ ys.length = i ∧ ∀ y ∈ ys, One y) ⟨Ex.new hD, [], upd_same, rfl, fun y hy => by cases hy⟩ ?_ ?_⟩
      · rintro i H' hi ⟨e, ys, m, ly, oy⟩
        have k0 : (0 : Int) ≤ 0 + (i : Int) := by omega
        have k7 : 0 + (i : Int) ≤ 7 := by omega
        have kk0 : 0 ≤ (0 + (i : Int)) * (0 + (i : Int)) := Int.mul_nonneg k0 k0
        have kk1 : (0 + (i : Int)) * (0 + (i : Int)) ≤ 7 * 7 := Int.mul_le_mul k7 k7 k0 (by decide)
        have q0 : ∀ x : Int, 0 ≤ x % 10 ∧ x % 10 < 10 := fun x => ⟨Int.emod_nonneg _ (by decide), Int.emod_lt_of_pos _ (by decide)⟩
        obtain ⟨ch, hc, oc⟩ := sign_at (i := 26 + (mo + (0 + (i : Int)) * (0 + (i : Int)) * 3 + n / 28) % 10) (by have := q0 (mo + (0 + (i : Int)) * (0 + (i : Int)) * 3 + n / 28); omega) (by have := q0 (mo + (0 + (i : Int)) * (0 + (i : Int)) * 3 + n / 28); omega)
        refine ⟨rfl, _, rfl, _, rfl, _, rfl, _, rfl, _, _, rfl, rfl, .inl ⟨by omega, by omega⟩, _, _, rfl, rfl, .inl ⟨by omega, by omega⟩, _, _, rfl, rfl, _, rfl, _, _, rfl, rfl, ⟨by decide, by decide⟩, _, _, rfl, rfl, .inl ⟨_, rfl, _, _, rfl, rfl, (by show (0 : Int) < 10; decide), _, _, rfl, rfl, SIGNS, _, ch, rfl, rfl, hz, hc, ?_⟩⟩
        refine ⟨_, m, sz_lt (by rw [List.length_map]; omega), e.mut hD, ys ++ [⟨#[ch]⟩], by rw [upd_same, List.map_append]; rfl, by rw [List.length_append, ly]; rfl, fun y hy => ?_⟩
        rcases List.mem_append.mp hy with hy | hy
        · exact oy y hy
        · rw [List.mem_singleton.mp hy]
          exact one_of oc
      · rintro H' ⟨e, ys, m, ly, oy⟩
        have jo := join_ones oy
        have hs : (ys.map (·.length)).sum ≤ 1 * ys.length := sum_le fun y hy => Nat.le_of_eq (oy y hy).1
        refine ⟨_, D0, ys, rfl, rfl, .inl (SqL.of m), ?_, k _ _ ⟨by omega, by omega, jo.2⟩ (e13.trans e)⟩
        rw [show ("" : Str).length = 0 from rfl]
        omega
    obtain ⟨c0, hc0, oc0⟩ := sign_at (i := mo % 36) (Int.emod_nonneg _ (by decide)) (Int.emod_lt_of_pos _ (by decide))
    refine ⟨_, rfl, _, rfl, .inl ⟨_, rfl, _, _, rfl, rfl, (by show (0 : Int) < 36; decide), SIGNS, _, c0, rfl, rfl, hz, hc0, ?_⟩⟩
    refine ⟨⟨_, rfl⟩, _, rfl, _, _, rfl, rfl, .inr ⟨by decide, by decide⟩, _, rfl, by omega, by omega, fun D0 hD => lc_range (lo := 0) (n := (n / 4 % 7 * 2).toNat) (fun i H' => Ex H3 H' ∧ ∃ ys : List Str, H' D0 = some (.lst (ys.map V.str)) ∧ ys.length = i ∧ ∀ y ∈ ys, One y) ⟨Ex.new hD, [], upd_same, rfl, fun y hy => by cases hy⟩ ?_ ?_⟩
    · rintro i H' hi ⟨e, ys, m, ly, oy⟩
      obtain ⟨ch, hc, oc⟩ := sign_at (i := (mo + 11 * (0 + (i : Int)) * n + (0 + (i : Int))) % 36) (Int.emod_nonneg _ (by decide)) (Int.emod_lt_of_pos _ (by decide))
      refine ⟨rfl, _, rfl, _, rfl, _, rfl, _, _, rfl, rfl, .inl ⟨by decide, by decide⟩, _, rfl, _, _, rfl, rfl, .inl ⟨by omega, by omega⟩, _, _, rfl, rfl, _, rfl, _, _, rfl, rfl, .inl ⟨_, rfl, _, _, rfl, rfl, (by show (0 : Int) < 36; decide), SIGNS, _, ch, rfl, rfl, hz, hc, ?_⟩⟩
      refine ⟨_, m, sz_lt (by rw [List.length_map]; omega), e.mut hD, ys ++ [⟨#[ch]⟩], by rw [upd_same, List.map_append]; rfl, by rw [List.length_append, ly]; rfl, fun y hy => ?_⟩
      rcases List.mem_append.mp hy with hy | hy
      · exact oy y hy
      · rw [List.mem_singleton.mp hy]
        exact one_of oc
    · rintro H' ⟨e, ys, m, ly, oy⟩
      have jo := join_ones oy
      have hs : (ys.map (·.length)).sum ≤ 1 * ys.length := sum_le fun y hy => Nat.le_of_eq (oy y hy).1
      have ew : (⟨#[c0]⟩ ++ Txt.join "" ys : Str).cps.toList = c0 :: (Txt.join "" ys).cps.toList := app_list _ _
      have lw : (⟨#[c0]⟩ ++ Txt.join "" ys : Str).length = 1 + ys.length := by rw [Str.length_append, jo.1]; rfl
      have cw : ∀ c ∈ (⟨#[c0]⟩ ++ Txt.join "" ys : Str).cps.toList, 33 ≤ c ∧ c < 127 := fun c hc => by
        rw [ew] at hc
        rcases List.mem_cons.mp hc with rfl | hc
        · exact oc0
        · exact jo.2 c hc
      refine ⟨_, D0, ys, rfl, rfl, .inl (SqL.of m), by rw [show ("" : Str).length = 0 from rfl]; omega, _, _, rfl, rfl, sz_of (by rw [jo.1]; show 1 + _ ≤ _; omega), ?_⟩
      generalize (⟨#[c0]⟩ ++ Txt.join "" ys : Str) = wd at ew lw cw
      have hwz : wd.length ≤ sizeLine := sz_of (by omega)
      refine ⟨_, rfl, .inl ⟨_, rfl, _, _, rfl, rfl, (by show (0 : Int) < 9; decide), rfl, _, rfl, ?_⟩⟩
      refine ite2 (fun c3 => ?_) (fun c3 => ?_)
      · have l1 := cutS_length wd none (some 2)
        have l2 := cutS_length wd (some 2) none
        have lu : ("_" : Str).length = 1 := by decide +kernel
        refine ⟨_, rfl, _, rfl, wd, rfl, hwz, _, _, rfl, rfl, sz_of (by omega), _, rfl, _, rfl, wd, rfl, hwz, _, _, rfl, rfl, sz_of (by rw [Str.length_append]; omega), k _ _ ⟨?_, ?_, ?_⟩ (e13.trans e)⟩
        · rw [Str.length_append, Str.length_append]
          omega
        · rw [Str.length_append, Str.length_append]
          omega
        · intro c hc
          rw [app_list, app_list] at hc
          rcases List.mem_append.mp hc with hc | hc
          · rcases List.mem_append.mp hc with hc | hc
            · exact cw c (List.mem_of_mem_drop (List.mem_of_mem_take hc))
            · have : ∀ c ∈ ("_" : Str).cps.toList, 33 ≤ c ∧ c < 127 := by decide +kernel
              exact this c hc
          · exact cw c (List.mem_of_mem_drop (List.mem_of_mem_take hc))
      · exact ⟨_, rfl, k _ _ ⟨by omega, by omega, cw⟩ (e13.trans e)⟩
end
end W3

set_option Elab.async false
set_option linter.all false
set_option maxRecDepth 100000
set_option maxHeartbeats 4000000
namespace W3
open PySem PySem.Spec PyProof.Rows L2 EvS Evl EV TX
/-! ### the law's forms -/
def vOptS : Option Str → V
  | none => .non
  | some z => .str z
def sp__law_form : Sp := fun vs H Q _ => ∃ z : Str, vs = [.str z] ∧ z.length ≤ 10000 ∧ ∀ H', Ex H H' → Q (vOptS (lForm z)) H'
def sp__law_has_form (K : PySem.W.Frag) : Sp := fun vs H Q _ => ∃ (p : Addr) (ws : List Str) (f : Option Str), vs = [.ref p, vOptS f] ∧ SqL K H p (ws.map V.str) ∧ (∀ w ∈ ws, w.length ≤ 10000) ∧ ws.length ≤ 10000 ∧ (∀ z, f = some z → z.length ≤ 1000) ∧ ∀ H', Ex H H' → Q (.bl (lHasO ws f)) H'
def sp__law_command (K : PySem.W.Frag) : Sp := fun vs H Q _ => ∃ (p : Addr) (ws : List Str), vs = [.ref p] ∧ SqL K H p (ws.map V.str) ∧ ws ≠ [] ∧ (∀ w ∈ ws, w.length ≤ 10000) ∧ ws.length ≤ 10000 ∧ ∀ H', Ex H H' → Q (.bl (lCmd ws)) H'
def sp__law_row_due (K : PySem.W.Frag) : Sp := fun vs H Q _ => ∃ (p : Addr) (ws : List Str), vs = [.ref p] ∧ SqL K H p (ws.map V.str) ∧ ws ≠ [] ∧ (∀ w ∈ ws, w.length ≤ 10000) ∧ ws.length ≤ 10000 ∧
  (rowD ws = none → ∀ H', Ex H H' → Q .non H') ∧ ∀ d, rowD ws = some d → ∀ u H', Ex H H' → Dp K H' (.ref u) d → Q (.ref u) H'
theorem inV_dec (z : Str) (ys : List Str) : inV (.str z) (ys.map V.str) = decide (z ∈ ys) := by
  unfold inV
  rw [List.any_map]
  by_cases h : z ∈ ys
  · rw [decide_eq_true h, List.any_eq_true]
    exact ⟨z, h, by show (z == z) = true; exact beq_self_eq_true z⟩
  · rw [decide_eq_false h, List.any_eq_false]
    intro x hx e
    exact h (eq_of_beq (show (x == z) = true from e) ▸ hx)
theorem flat_strs (ys : List Str) : (ys.map V.str).all flatV = true := by
  rw [List.all_map, List.all_eq_true]
  intro x _
  rfl
theorem lForm_len {z f : Str} (h : lForm z = some f) : f.length ≤ 3 := by
  unfold lForm at h
  split at h
  · have : f ∈ LFORMS := List.mem_of_getElem? h
    have al : ∀ x ∈ LFORMS, x.length ≤ 3 := by decide +kernel
    exact al f this
  · cases h
/-- a word of a list has a first place -/
theorem idx_at {ys : List Str} {z : Str} (h : z ∈ ys) : ∃ j, j = ys.idxOf z ∧ j < ys.length ∧ (ys.map V.str)[j]? = some (.str z) ∧ eqV (V.str z) (V.str z) = true ∧ ∀ (m : Nat) (z' : V), m < j → (ys.map V.str)[m]? = some z' → eqV z' (.str z) = false := by
  have hj : ys.idxOf z < ys.length := List.idxOf_lt_length_of_mem h
  refine ⟨_, rfl, hj, ?_, (by show (z == z) = true; exact beq_self_eq_true z), fun m z' hm e => ?_⟩
  · rw [List.getElem?_map, List.getElem?_eq_getElem hj]
    exact congrArg (fun x => some (V.str x)) (List.getElem_idxOf hj)
  · rw [List.getElem?_map, List.getElem?_eq_getElem (by omega)] at e
    obtain rfl := Option.some.inj e
    exact List.not_of_lt_findIdx (p := (· == z)) (xs := ys) hm
theorem has_len {ws : List Str} {cs : List Nat} (h : cs.length ≠ ws.length) : lHas ws cs = false := by
  unfold lHas
  rw [decide_eq_false h]
  rfl
theorem has_true {ws : List Str} {cs : List Nat} (h : cs.length = ws.length) (al : ∀ (i c : Nat) (x : Str), cs[i]? = some c → ws[i]? = some x → lFits c x = true) : lHas ws cs = true := by
  unfold lHas
  rw [decide_eq_true h, Bool.true_and, List.all_eq_true]
  intro b hb
  obtain ⟨i, hi⟩ := List.mem_iff_getElem?.mp hb
  rw [List.getElem?_zipWith] at hi
  cases hc : cs[i]? with
  | none => rw [hc] at hi; cases hi
  | some c =>
    cases hx : ws[i]? with
    | none => rw [hc, hx] at hi; cases hi
    | some x =>
      rw [hc, hx] at hi
      rw [← Option.some.inj hi]
      exact al i c x hc hx
theorem has_false {ws : List Str} {cs : List Nat} {i c : Nat} {x : Str} (hc : cs[i]? = some c) (hx : ws[i]? = some x) (n : lFits c x = false) : lHas ws cs = false := by
  unfold lHas
  have : (List.zipWith lFits cs ws).all id = false := by
    rw [List.all_eq_false]
    refine ⟨false, List.mem_of_getElem? (i := i) ?_, by decide⟩
    rw [List.getElem?_zipWith, hc, hx]
    show some (lFits c x) = _
    rw [n]
  rw [this, Bool.and_false]
section
variable {P : Program} {w : World} {K : PySem.W.Frag} {mg : Str → Option Value} {base : Heap} {a : Ad}
theorem G__law_form (T : Txt K mg a) : FnOk P w K mg base CX0 1 a.f__law_form a.d__law_form ["word"] sp__law_form := by
  refine T.F__law_form.ok sc__law_form (fun vs H Q E h => ?_) (fun cdv A outer s H vs Q E hr h => ?_)
  · obtain ⟨z, rfl, _⟩ := h
    rfl
  · obtain ⟨z, rfl, hz, k⟩ := h
    refine ⟨_, (pss_cons (ps_set (i := 1) sc__law_form.nd rfl (Or.inl rfl) (TupX.pe_tupB (pa_cons pe_str (pa_cons pe_str (pa_cons pe_str (pa_cons pe_str (pa_cons pe_str (pa_cons pe_str (pa_cons pe_str (pa_cons pe_str (pa_cons pe_str (pa_cons pe_str (pa_cons pe_str (pa_cons pe_str (pa_cons pe_str pa_nil)))))))))))))))
      (pss_cons (ps_set (i := 2) sc__law_form.nd rfl (Or.inl rfl) (TupX.pe_tupB (pa_cons pe_str (pa_cons pe_str (pa_cons pe_str (pa_cons pe_str (pa_cons pe_str (pa_cons pe_str (pa_cons pe_str (pa_cons pe_str (pa_cons pe_str (pa_cons pe_str (pa_cons pe_str (pa_cons pe_str (pa_cons pe_str pa_nil)))))))))))))))
      (pss_cons (ps_if (pt_cmpR op_in_seq (pv 0) (pv 1) (by rfl)) (pss_one (ps_ret (pe_ix ix_tup (pv 2) (TupX.pe_bmT PySem.F.plainAttrs_tuple PySem.F.slot_tuple_index PySem.F.type_tuple_index mt_tup_index (pv 1) (pa_cons (pv 0) pa_nil)) (fun _ _ => rfl)))) pss_nil)
      (pss_one (ps_ret pe_non))))), ?_⟩
    refine ⟨by show 13 ≤ sizeLine; decide, fun t H1 ht e1 bt => ?_⟩
    have bt : TupX.Bare H1 t (LNAMES.map V.str) := bt
    refine ⟨by show 13 ≤ sizeLine; decide, fun u H2 hu e2 bu => ?_⟩
    have bu : TupX.Bare H2 u (LFORMS.map V.str) := bu
    have bt2 := bt.ex e2
    refine ⟨_, rfl, _, rfl, t, _, rfl, .inr bt2.sq, rfl, flat_strs _, ?_⟩
    rw [inV_dec]
    have q := k H2 (e1.trans e2)
    unfold lForm at q
    cases hd : decide (z ∈ LNAMES) with
    | false =>
      rw [if_neg (of_decide_eq_false hd)] at q
      exact ⟨_, rfl, iteF q⟩
    | true =>
      have hm := of_decide_eq_true hd
      rw [if_pos hm] at q
      obtain ⟨j, ej, hj, h1, h2, h3⟩ := idx_at hm
      have hj2 : j < LFORMS.length := hj
      rw [← ej, List.getElem?_eq_getElem hj2] at q
      refine ⟨_, rfl, iteT ⟨_, rfl, _, rfl, t, _, rfl, bt2, _, rfl, ?_⟩⟩
      have gj : LNAMES[j]? = some z := by
        rw [List.getElem?_map] at h1
        obtain ⟨y, hy, e⟩ := Option.map_eq_some_iff.mp h1
        rw [hy, V.str.inj e]
      have no : ∀ m, m < j → LNAMES[m]? ≠ some z := fun m hm e => by
        have := h3 m (.str z) hm (by rw [List.getElem?_map, e]; rfl)
        rw [h2] at this
        cases this
      exact ⟨t, LNAMES, z, j, rfl, rfl, bt2.sq, gj, no, u, _, _, _, rfl, rfl, bu.sq, atI_nat (j := j) (by rw [List.getElem?_map, List.getElem?_eq_getElem hj2]; rfl), q⟩
theorem G__law_has_form (T : Txt K mg a) : FnOk P w K mg base CX0 3 a.f__law_has_form a.d__law_has_form ["words", "form"] (sp__law_has_form K) := by
  refine T.F__law_has_form.ok sc__law_has_form (fun vs H Q E h => ?_) (fun cdv A outer s H vs Q E hr h => ?_)
  · obtain ⟨p, ws, f, rfl, _⟩ := h
    rfl
  · obtain ⟨p, ws, f, rfl, hS, hw, hn, hf, k⟩ := h
    refine ⟨_, (pss_cons (ps_if (PW.pt (pw_or (pt_cmpR op_isN (pv 1) pe_non (nomark _)) (pw_or1 (pt_cmpR op_ne (pe_callB call_len_str (by rfl) T.z_len PySem.boot_len (pa_cons (pv 1) pa_nil)) (pe_callB call_len_seq (by rfl) T.z_len PySem.boot_len (pa_cons (pv 0) pa_nil)) (nomark _))))) (pss_one (ps_ret pe_bl)) pss_nil)
      (pss_cons (ps_for PassesOwn.never rfl (pi_range1 (by rfl) T.z_range (pa_cons (pe_callB call_len_str (by rfl) T.z_len PySem.boot_len (pa_cons (pv 1) pa_nil)) pa_nil)) (pg_name (i := 2) sc__law_has_form.nd rfl (Or.inl rfl)) (pss_cons (ps_if (PW.pt (pw_and (pt_cmpR op_eq (pe_ix ix_str (pv 1) (pv 2) (fun _ _ => rfl)) pe_str (nomark _)) (pw_and1 (pt_not (pt_val (pe_call (G__law_is_name T) (hr.mono (by decide)) (by rfl) T.g__law_is_name T.k__law_is_name T.B__law_is_name .nil pass0 (pa_cons (pe_ix ix_list (pv 0) (pv 2) (fun _ _ => rfl)) pa_nil))))))) (pss_one (ps_ret pe_bl)) pss_nil)
        (pss_one (ps_if (PW.pt (pw_and (pt_cmpR op_eq (pe_ix ix_str (pv 1) (pv 2) (fun _ _ => rfl)) pe_str (nomark _)) (pw_and1 (pt_not (pt_val (pe_call (G__law_is_number T) (hr.mono (by decide)) (by rfl) T.g__law_is_number T.k__law_is_number T.B__law_is_number .nil pass0 (pa_cons (pe_ix ix_list (pv 0) (pv 2) (fun _ _ => rfl)) pa_nil))))))) (pss_one (ps_ret pe_bl)) pss_nil))))
      (pss_one (ps_ret pe_bl)))), ?_⟩
    cases f with
    | none =>
      refine ⟨_, rfl, rfl, _, rfl, iteT (k H (Ex.refl H))⟩
    | some f =>
      have lf := hf f rfl
      have hfz : f.length ≤ sizeLine := sz_of (by omega)
      have fl : f.cps.toList.length = f.length := Array.length_toList
      have k : ∀ H', Ex H H' → Q (.bl (lHas ws f.cps.toList)) H' := k
      refine ⟨_, rfl, rfl, _, rfl, iteF ?_⟩
      refine ⟨_, rfl, f, rfl, hfz, _, rfl, p, _, rfl, .inl hS, rfl, _, rfl, ?_⟩
      rw [List.length_map]
      have edl : decide (V.int (f.length : Int) = V.int (ws.length : Int)) = decide (f.length = ws.length) := by
        by_cases q : f.length = ws.length
        · rw [decide_eq_true q, decide_eq_true (by rw [q])]
        · rw [decide_eq_false q, decide_eq_false fun e => q (by have := V.int.inj e; omega)]
      rw [edl]
      by_cases le : f.length = ws.length
      case neg =>
        rw [decide_eq_false le]
        have q := k H (Ex.refl H)
        rw [has_len (by rw [fl]; exact le)] at q
        exact iteT q
      rw [decide_eq_true le]
      refine iteF ?_
      refine ⟨_, rfl, f, rfl, hfz, _, rfl, by omega, by omega, for_range (n := ((f.length : Nat) : Int).toNat) (fun i σ H' => ∃ v2, σ = [some (.ref p), some (.str f), v2] ∧ Ex H H' ∧ ∀ (j c : Nat) (x : Str), j < i → f.cps.toList[j]? = some c → ws[j]? = some x → lFits c x = true) ⟨none, rfl, Ex.refl H, fun j c x hj => by omega⟩ ?_ ?_⟩
      · rintro i σ H1 hi ⟨v2, rfl, e, al⟩
        have hi' : i < f.length := by omega
        have hi2 : i < f.cps.toList.length := by omega
        have hiw : i < ws.length := by omega
        obtain ⟨c, hc⟩ : ∃ c, f.cps.toList[i]? = some c := ⟨_, List.getElem?_eq_getElem hi2⟩
        obtain ⟨x, hx⟩ : ∃ x, ws[i]? = some x := ⟨_, List.getElem?_eq_getElem hiw⟩
        have hxl := hw x (List.mem_of_getElem? hx)
        have ic : atI f.cps.toList (0 + (i : Int)) = some c := by rw [Int.zero_add]; exact atI_nat hc
        have ix : atI (ws.map V.str) (0 + (i : Int)) = some (.str x) := by rw [Int.zero_add]; exact atI_nat (by rw [List.getElem?_map, hx]; rfl)
        have ec : ∀ (z : Str) (d : Nat), z = ⟨#[d]⟩ → decide (V.str ⟨#[c]⟩ = V.str z) = decide (c = d) := fun z d ez => by
          subst ez
          by_cases q : c = d
          · subst q
            rw [decide_eq_true rfl, decide_eq_true rfl]
          · rw [decide_eq_false q, decide_eq_false fun h => q (by have := congrArg (fun s : Str => s.cps.toList) (V.str.inj h); exact (List.cons.inj this).1)]
        have step : ∀ H2, Ex H H2 → lFits c x = true → ∃ v2', [some (V.ref p), some (.str f), some (.int (0 + (i : Int)))] = [some (.ref p), some (.str f), v2'] ∧ Ex H H2 ∧ ∀ (j c : Nat) (x : Str), j < i + 1 → f.cps.toList[j]? = some c → ws[j]? = some x → lFits c x = true := fun H2 e2 t => ⟨_, rfl, e2, fun j c' x' hj h1 h2 => by
          rcases Nat.lt_or_eq_of_le (Nat.le_of_lt_succ hj) with hj | rfl
          · exact al j c' x' hj h1 h2
          · rw [hc] at h1
            rw [hx] at h2
            rw [← Option.some.inj h1, ← Option.some.inj h2]
            exact t⟩
        have stop : ∀ H2, Ex H H2 → lFits c x = false → Q (.bl false) H2 := fun H2 e2 t => by
          have q := k H2 e2
          rw [has_false hc hx t] at q
          exact q
        refine ⟨_, rfl, _, rfl, f, _, c, rfl, rfl, hfz, ic, rfl, _, rfl, ?_⟩
        rw [ec _ 110 (by decide +kernel)]
        by_cases h1 : c = 110
        · rw [decide_eq_true h1]
          have ef : lFits c x = isName x := by unfold lFits; rw [if_pos h1]
          refine iteT ⟨_, rfl, _, rfl, p, _, _, _, rfl, rfl, ex_l e hS, ix, x, rfl, hxl, fun H2 e2 => ⟨_, rfl, ?_⟩⟩
          cases hn : isName x with
          | false => exact iteNF (stop H2 (e.trans e2) (by rw [ef, hn]))
          | true =>
            refine iteNT ?_
            refine ⟨_, rfl, _, rfl, f, _, c, rfl, rfl, hfz, ic, rfl, _, rfl, ?_⟩
            rw [ec _ 100 (by decide +kernel), decide_eq_false (by omega)]
            exact iteF (step H2 (e.trans e2) (by rw [ef, hn]))
        · rw [decide_eq_false h1]
          refine iteF ?_
          refine ⟨_, rfl, _, rfl, f, _, c, rfl, rfl, hfz, ic, rfl, _, rfl, ?_⟩
          rw [ec _ 100 (by decide +kernel)]
          by_cases h2 : c = 100
          · rw [decide_eq_true h2]
            have ef : lFits c x = isNumber x := by unfold lFits; rw [if_neg h1, if_pos h2]
            refine iteT ⟨_, rfl, _, rfl, p, _, _, _, rfl, rfl, ex_l e hS, ix, x, rfl, hxl, fun H2 e2 => ⟨_, rfl, ?_⟩⟩
            cases hn : isNumber x with
            | false => exact iteNF (stop H2 (e.trans e2) (by rw [ef, hn]))
            | true => exact iteNT (step H2 (e.trans e2) (by rw [ef, hn]))
          · rw [decide_eq_false h2]
            exact iteF (step H1 e (by unfold lFits; rw [if_neg h1, if_neg h2]))
      · rintro σ H1 ⟨v2, rfl, e, al⟩
        have q := k H1 e
        rw [has_true (by rw [fl]; exact le) fun j c x h1 h2 => al j c x (by have := (List.getElem?_eq_some_iff.mp h1).1; omega) h1 h2] at q
        exact q
theorem rowD_w (r : List Str) (x : Str) : rowD (x :: r) = if (decide (x = "wind") && lHas r [100, 110]) = true then (match r with | [y, z] => some (.tuple [.str "wind", .int (numV y), .str z]) | _ => none) else if ((decide (x = "start") || decide (x = "break")) && lHas r [110, 100]) = true then (match r with | [y, z] => some (.tuple [.str x, .str y, .int (numV z)]) | _ => none) else none := by
  by_cases l : r.length = 2
  · match r, l with
    | [y, z], _ =>
      rw [rowD3]
      unfold F1 F2 F3
      rw [hf_cons (l := "wind") (by decide +kernel) (by decide +kernel), hf_cons (l := "start") (by decide +kernel) (by decide +kernel), hf_cons (l := "break") (by decide +kernel) (by decide +kernel)]
      rw [hf_l [y, z] (.cons slot_d (.cons (slot_n (s := "WIND") (by decide +kernel) (by decide +kernel)) .nil)), hf_l [y, z] (.cons (slot_n (s := "PLACE") (by decide +kernel) (by decide +kernel)) (.cons slot_d .nil)), Bool.and_or_distrib_right]
  · rw [rowD_other (by simp; omega), has_len (fun e => l e.symm), has_len (fun e => l e.symm), Bool.and_false, Bool.and_false]
    rfl
theorem two {r : List Str} {cs : List Nat} (h : lHas r cs = true) (hl : cs.length = 2) : ∃ y z, r = [y, z] := by
  have l : r.length = 2 := by
    cases Nat.decEq cs.length r.length with
    | isTrue e => omega
    | isFalse e => rw [has_len e] at h; cases h
  match r, l with
  | [y, z], _ => exact ⟨y, z, rfl⟩
theorem has_at {ws : List Str} {cs : List Nat} {i c : Nat} {x : Str} (h : lHas ws cs = true) (hc : cs[i]? = some c) (hx : ws[i]? = some x) : lFits c x = true := by
  cases e : lFits c x with
  | true => rfl
  | false => rw [has_false hc hx e] at h; cases h
end
section
variable {P : Program} {w : World} {K : PySem.W.Frag} {mg : Str → Option Value} {base : Heap} {a : Ad}
theorem G__law_command (T : Txt K mg a) : FnOk P w K mg base CX0 4 a.f__law_command a.d__law_command ["words"] (sp__law_command K) := by
  refine T.F__law_command.ok sc__law_command (fun vs H Q E h => ?_) (fun cdv A outer s H vs Q E hr h => ?_)
  · obtain ⟨p, ws, rfl, _⟩ := h
    rfl
  · obtain ⟨p, ws, rfl, hS, ne, hw, hn, k⟩ := h
    refine ⟨_, (pss_cons (ps_if (pt_cmpR op_eq (pe_ix ix_list (pv 0) pe_int (fun _ _ => rfl)) pe_str (nomark _)) (pss_one (ps_ret (pe_and (pe_cmpR op_eq (pe_callB call_len_seq (by rfl) T.z_len PySem.boot_len (pa_cons (pv 0) pa_nil)) pe_int (nomark _)) (pe_and (pe_cmpR op_in_seq (pe_ix ix_list (pv 0) pe_int (fun _ _ => rfl)) (pe_tup (pa_cons pe_str (pa_cons pe_str pa_nil))) (by rfl)) (pe_one (pe_call (G__law_is_name T) (hr.mono (by decide)) (by rfl) T.g__law_is_name T.k__law_is_name T.B__law_is_name .nil pass0 (pa_cons (pe_ix ix_list (pv 0) pe_int (fun _ _ => rfl)) pa_nil))))))) pss_nil)
      (pss_one (ps_ret (pe_call (G__law_has_form T) (hr.mono (by decide)) (by rfl) T.g__law_has_form T.k__law_has_form T.B__law_has_form .nil pass0 (pa_cons (pe_slice sl_list (pv 0) (po_some pe_int) po_none) (pa_cons (pe_call (G__law_form T) (hr.mono (by decide)) (by rfl) T.g__law_form T.k__law_form T.B__law_form .nil pass0 (pa_cons (pe_ix ix_list (pv 0) pe_int (fun _ _ => rfl)) pa_nil)) pa_nil)))))), ?_⟩
    obtain ⟨x, r, rfl⟩ : ∃ x r, ws = x :: r := by
      cases ws with
      | nil => exact absurd rfl ne
      | cons x r => exact ⟨x, r, rfl⟩
    · refine ⟨_, rfl, p, _, _, _, rfl, rfl, hS, atI_nat (j := 0) rfl, rfl, _, rfl, ?_⟩
      rw [str_dec]
      rw [lCmd_cons] at k
      by_cases c : x = "remove"
      · rw [if_pos c] at k
        rw [decide_eq_true c]
        refine iteT ?_
        refine ⟨_, rfl, p, _, rfl, .inl hS, rfl, ?_⟩
        have elen : ((((x :: r).map V.str).length : Nat) : Int) = (r.length : Int) + 1 := by rw [List.length_map, List.length_cons]; omega
        rw [elen]
        cases hd : decide (V.int ((r.length : Int) + 1) = V.int 3) with
        | false =>
          have ne2 : r.length ≠ 2 := fun e => of_decide_eq_false hd (by rw [e]; rfl)
          have q := k H (Ex.refl H)
          have e0 : lRem r = false := by
            match r, ne2 with
            | [], _ => rfl
            | [_], _ => rfl
            | [_, _], n => exact absurd rfl n
            | _ :: _ :: _ :: _, _ => rfl
          rw [e0] at q
          exact ⟨_, rfl, q⟩
        | true =>
          have l2 : r.length = 2 := by have := V.int.inj (of_decide_eq_true hd); omega
          obtain ⟨y, z, rfl⟩ : ∃ y z, r = [y, z] := by
            match r, l2 with
            | [y, z], _ => exact ⟨y, z, rfl⟩
          refine ⟨_, rfl, _, rfl, p, _, _, _, rfl, rfl, hS, atI_nat (j := 1) rfl, by show 2 ≤ sizeLine; decide, fun t ht => ?_⟩
          have e1 : Ex H (upd H t (.tup ((["land", "case"] : List Str).map V.str))) := Ex.new ht
          have mt : (upd H t (.tup ((["land", "case"] : List Str).map V.str))) t = some (.tup ((["land", "case"] : List Str).map V.str)) := upd_same
          refine ⟨t, _, rfl, .inr (st_of mt), rfl, flat_strs _, ?_⟩
          rw [inV_dec]
          have k : ∀ H', Ex H H' → Q (.bl (decide (y ∈ (["land", "case"] : List Str)) && isName z)) H' := k
          cases hm : decide (y ∈ (["land", "case"] : List Str)) with
          | false =>
            rw [hm] at k
            exact ⟨_, rfl, k _ e1⟩
          | true =>
            rw [hm] at k
            exact ⟨_, rfl, _, rfl, p, _, _, _, rfl, rfl, ex_l e1 hS, atI_nat (j := 2) rfl, z, rfl, hw z (by simp), fun H3 e3 => k H3 (e1.trans e3)⟩
      · rw [if_neg c] at k
        rw [decide_eq_false c]
        refine iteF ?_
        refine ⟨_, rfl, _, rfl, p, _, rfl, hS, fun q hq => ?_⟩
        have ce : cutV ((x :: r).map V.str) (some 1) none = r.map V.str := by
          rw [show (1 : Int) = ((1 : Nat) : Int) from rfl, cut_from]
          rfl
        rw [ce]
        have e2 := Ex.new (o := .lst (r.map V.str)) hq
        have mq : (upd H q (.lst (r.map V.str))) q = some (.lst (r.map V.str)) := upd_same
        generalize upd H q (.lst (r.map V.str)) = H2 at e2 mq
        refine ⟨_, rfl, p, _, _, _, rfl, rfl, ex_l e2 hS, atI_nat (j := 0) rfl, x, rfl, hw x List.mem_cons_self, fun H3 e3 => ?_⟩
        refine ⟨q, r, lForm x, rfl, SqL.of (e3 _ _ mq), fun y hy => hw y (List.mem_cons_of_mem _ hy), by rw [List.length_cons] at hn; omega, fun f hf => by have := lForm_len hf; omega, fun H4 e4 => k H4 ((e2.trans e3).trans e4)⟩
theorem G__law_row_due (T : Txt K mg a) : FnOk P w K mg base CX0 4 a.f__law_row_due a.d__law_row_due ["words"] (sp__law_row_due K) := by
  refine T.F__law_row_due.ok sc__law_row_due (fun vs H Q E h => ?_) (fun cdv A outer s H vs Q E hr h => ?_)
  · obtain ⟨p, ws, rfl, _⟩ := h
    rfl
  · obtain ⟨p, ws, rfl, hS, ne, hw, hn, kn, ks⟩ := h
    refine ⟨_, (pss_cons (ps_if (PW.pt (pw_and (pt_cmpR op_eq (pe_ix ix_list (pv 0) pe_int (fun _ _ => rfl)) pe_str (nomark _)) (pw_and1 (pt_val (pe_call (G__law_has_form T) (hr.mono (by decide)) (by rfl) T.g__law_has_form T.k__law_has_form T.B__law_has_form .nil pass0 (pa_cons (pe_slice sl_list (pv 0) (po_some pe_int) po_none) (pa_cons pe_str pa_nil))))))) (pss_one (ps_ret (pe_tup (pa_cons pe_str (pa_cons (pe_callTy call_int_str (by rfl) T.z_int (by decide +kernel) (pa_cons (pe_ix ix_list (pv 0) pe_int (fun _ _ => rfl)) pa_nil)) (pa_cons (pe_ix ix_list (pv 0) pe_int (fun _ _ => rfl)) pa_nil)))))) pss_nil)
      (pss_cons (ps_if (PW.pt (pw_and (PW.pt (pw_or (pt_cmpR op_eq (pe_ix ix_list (pv 0) pe_int (fun _ _ => rfl)) pe_str (nomark _)) (pw_or1 (pt_cmpR op_eq (pe_ix ix_list (pv 0) pe_int (fun _ _ => rfl)) pe_str (nomark _))))) (pw_and1 (pt_val (pe_call (G__law_has_form T) (hr.mono (by decide)) (by rfl) T.g__law_has_form T.k__law_has_form T.B__law_has_form .nil pass0 (pa_cons (pe_slice sl_list (pv 0) (po_some pe_int) po_none) (pa_cons pe_str pa_nil))))))) (pss_one (ps_ret (pe_tup (pa_cons (pe_ix ix_list (pv 0) pe_int (fun _ _ => rfl)) (pa_cons (pe_ix ix_list (pv 0) pe_int (fun _ _ => rfl)) (pa_cons (pe_callTy call_int_str (by rfl) T.z_int (by decide +kernel) (pa_cons (pe_ix ix_list (pv 0) pe_int (fun _ _ => rfl)) pa_nil)) pa_nil)))))) pss_nil)
      (pss_one (ps_ret pe_non)))), ?_⟩
    obtain ⟨x, r, rfl⟩ : ∃ x r, ws = x :: r := by
      cases ws with
      | nil => exact absurd rfl ne
      | cons x r => exact ⟨x, r, rfl⟩
    have ce : cutV ((x :: r).map V.str) (some 1) none = r.map V.str := by
      rw [show (1 : Int) = ((1 : Nat) : Int) from rfl, cut_from]
      rfl
    have hwr : ∀ y ∈ r, y.length ≤ 10000 := fun y hy => hw y (List.mem_cons_of_mem _ hy)
    have hnr : r.length ≤ 10000 := by rw [List.length_cons] at hn; omega
    have c110 : ("dn" : Str).cps.toList = [100, 110] := by decide +kernel
    have c011 : ("nd" : Str).cps.toList = [110, 100] := by decide +kernel
    have hdn : ∀ z : Str, some ("dn" : Str) = some z → z.length ≤ 1000 := fun z e => by rw [← Option.some.inj e]; decide +kernel
    have hnd : ∀ z : Str, some ("nd" : Str) = some z → z.length ≤ 1000 := fun z e => by rw [← Option.some.inj e]; decide +kernel
    rw [rowD_w] at kn ks
    refine ⟨_, rfl, p, _, _, _, rfl, rfl, hS, atI_nat (j := 0) rfl, rfl, _, rfl, ?_⟩
    rw [str_dec]
    cases c1 : decide (x = "wind") with
    | true =>
      refine iteT ⟨_, rfl, _, rfl, p, _, rfl, hS, fun q hq => ?_⟩
      rw [ce]
      have e2 := Ex.new (o := .lst (r.map V.str)) hq
      have mq : (upd H q (.lst (r.map V.str))) q = some (.lst (r.map V.str)) := upd_same
      generalize upd H q (.lst (r.map V.str)) = H2 at e2 mq
      refine ⟨q, r, some "dn", rfl, SqL.of mq, hwr, hnr, hdn, fun H3 e3 => ?_⟩
      rw [show lHasO r (some "dn") = lHas r [100, 110] by rw [← c110]; rfl]
      have e03 := e2.trans e3
      rw [c1, Bool.true_and] at ks kn
      cases c2 : lHas r [100, 110] with
      | true =>
        obtain ⟨y, z, rfl⟩ := two c2 rfl
        rw [if_pos c2] at ks
        have ny := numV_ok (z := y) (has_at (i := 0) c2 rfl rfl)
        refine ⟨_, rfl, iteT ⟨_, rfl, p, _, _, _, rfl, rfl, ex_l e03 hS, atI_nat (j := 1) rfl, y, numV y, rfl, ny.1, ny.2.2.2, _, rfl, p, _, _, _, rfl, rfl, ex_l e03 hS, atI_nat (j := 2) rfl, by show 3 ≤ sizeLine; decide, fun t ht => ?_⟩⟩
        exact ks _ rfl _ _ (e03.trans (Ex.new ht)) (.tup (st_of upd_same) (.cons (.str _) (.cons (.int _) (.cons (.str _) .nil))))
      | false =>
        rw [c2] at kn
        have xw := of_decide_eq_true c1
        have d1 : decide (x = "start") = false := by rw [xw]; decide +kernel
        have d2 : decide (x = "break") = false := by rw [xw]; decide +kernel
        rw [d1, d2] at kn
        refine ⟨_, rfl, iteF ?_⟩
        refine ⟨_, rfl, p, _, _, _, rfl, rfl, ex_l e03 hS, atI_nat (j := 0) rfl, rfl, _, rfl, ?_⟩
        rw [str_dec, d1]
        refine iteF ⟨_, rfl, p, _, _, _, rfl, rfl, ex_l e03 hS, atI_nat (j := 0) rfl, rfl, _, rfl, ?_⟩
        rw [str_dec, d2]
        exact iteF (kn rfl H3 e03)
    | false =>
      refine iteF ?_
      rw [c1, Bool.false_and] at ks kn
      have ks : ∀ d, (if ((decide (x = "start") || decide (x = "break")) && lHas r [110, 100]) = true then (match r with | [y, z] => some (.tuple [.str x, .str y, .int (numV z)]) | _ => none) else none) = some d → ∀ u H', Ex H H' → Dp K H' (.ref u) d → Q (.ref u) H' := ks
      have kn : (if ((decide (x = "start") || decide (x = "break")) && lHas r [110, 100]) = true then (match r with | [y, z] => some (PyData.tuple [.str x, .str y, .int (numV z)]) | _ => none) else none) = none → ∀ H', Ex H H' → Q .non H' := kn
      refine ⟨_, rfl, p, _, _, _, rfl, rfl, hS, atI_nat (j := 0) rfl, rfl, _, rfl, ?_⟩
      rw [str_dec]
      cases c3 : decide (x = "start")
      case' false =>
        refine iteF ⟨_, rfl, p, _, _, _, rfl, rfl, hS, atI_nat (j := 0) rfl, rfl, _, rfl, ?_⟩
        rw [str_dec]
        rw [c3, Bool.false_or] at ks kn
        cases c4 : decide (x = "break")
        case' false =>
          rw [c4] at kn
          exact iteF (kn rfl H (Ex.refl H))
        case' true =>
          rw [c4, Bool.true_and] at ks kn
      case' true =>
        rw [c3, Bool.true_or, Bool.true_and] at ks kn
      all_goals (
        refine iteT ⟨_, rfl, _, rfl, p, _, rfl, hS, fun q hq => ?_⟩
        rw [ce]
        have e2 := Ex.new (o := .lst (r.map V.str)) hq
        have mq : (upd H q (.lst (r.map V.str))) q = some (.lst (r.map V.str)) := upd_same
        generalize upd H q (.lst (r.map V.str)) = H2 at e2 mq
        refine ⟨q, r, some "nd", rfl, SqL.of mq, hwr, hnr, hnd, fun H3 e3 => ?_⟩
        rw [show lHasO r (some "nd") = lHas r [110, 100] by rw [← c011]; rfl]
        have e03 := e2.trans e3
        cases c2 : lHas r [110, 100] with
        | true =>
          obtain ⟨y, z, rfl⟩ := two c2 rfl
          rw [if_pos c2] at ks
          have nz := numV_ok (z := z) (has_at (i := 1) c2 rfl rfl)
          refine ⟨_, rfl, iteT ⟨_, rfl, p, _, _, _, rfl, rfl, ex_l e03 hS, atI_nat (j := 0) rfl, _, rfl, p, _, _, _, rfl, rfl, ex_l e03 hS, atI_nat (j := 1) rfl, _, rfl, p, _, _, _, rfl, rfl, ex_l e03 hS, atI_nat (j := 2) rfl, z, numV z, rfl, nz.1, nz.2.2.2, by show 3 ≤ sizeLine; decide, fun t ht => ?_⟩⟩
          exact ks _ rfl _ _ (e03.trans (Ex.new ht)) (.tup (st_of upd_same) (.cons (.str _) (.cons (.str _) (.cons (.int _) .nil))))
        | false =>
          rw [c2] at kn
          exact ⟨_, rfl, iteF (kn rfl H3 e03)⟩)
end
end W3

set_option Elab.async false
set_option linter.all false
set_option maxRecDepth 100000
set_option maxHeartbeats 4000000
namespace W3
open PySem PySem.Spec PyProof.Rows L2 EvS Evl EV TX
/-! ### lines that are right -/
def AllW (ws : List Str) : Prop := ∀ w ∈ ws, Wd w
def sp__law_formed (K : PySem.W.Frag) : Sp := fun vs H Q _ => ∃ (p q : Addr) (ks : List Int) (ws : List Str), vs = [.ref p, .ref q] ∧ Nm K H p ks ∧ ks.length = 60 ∧ SqL K H q (ws.map V.str) ∧ AllW ws ∧ ws.length ≤ 10 ∧
  ∀ l H' ls, Ex H H' → H l = none → H' l = some (.lst (ls.map V.str)) → AllW ls → 1 ≤ ls.length → ls.length ≤ 4 → Q (.ref l) H'
def ABC : List Str := ["a", "b", "c"]
def FIG : List Str := ["0", "7", "12"]
theorem pick_at {ys : List Str} (al : AllW ys) {i : Int} (h0 : 0 ≤ i) (h1 : i < ys.length) : ∃ x, atI (ys.map V.str) i = some (.str x) ∧ Wd x ∧ x ∈ ys := by
  have hi : i.toNat < ys.length := by omega
  refine ⟨ys[i.toNat], ?_, al _ (List.getElem_mem hi), List.getElem_mem hi⟩
  have := atI_nat (xs := ys.map V.str) (j := i.toNat) (by rw [List.getElem?_map, List.getElem?_eq_getElem hi]; rfl)
  rwa [Int.toNat_of_nonneg h0] at this
theorem lnames_ok : AllW LNAMES := by
  intro y hy
  have : ∀ y ∈ LNAMES, Wd y := by decide +kernel
  exact this y hy
theorem land_ok : AllW ["land", "case"] := by
  have : ∀ y ∈ (["land", "case"] : List Str), Wd y := by decide +kernel
  exact this
theorem start_ok : AllW ["start", "break"] := by
  have : ∀ y ∈ (["start", "break"] : List Str), Wd y := by decide +kernel
  exact this
theorem none_ex {H H' : Hp} {l : Addr} (e : Ex H H') (h : H' l = none) : H l = none := by
  cases hx : H l with
  | none => rfl
  | some o => rw [e _ _ hx] at h; cases h
theorem allw3 {x y z : Str} (h1 : Wd x) (h2 : Wd y) (h3 : Wd z) : AllW [x, y, z] := fun w hw => by
  have : w = x ∨ w = y ∨ w = z := by simpa using hw
  rcases this with rfl | rfl | rfl
  · exact h1
  · exact h2
  · exact h3
section
variable {P : Program} {w : World} {K : PySem.W.Frag} {mg : Str → Option Value} {base : Heap} {a : Ad}
theorem G__law_formed (T : Txt K mg a) : FnOk P w K mg base CX0 4 a.f__law_formed a.d__law_formed ["numbers", "words"] (sp__law_formed K) := by
  refine T.F__law_formed.ok sc__law_formed (fun vs H Q E h => ?_) (fun cdv A outer s H vs Q E hr h => ?_)
  · obtain ⟨p, q, ks, ws, rfl, _⟩ := h
    rfl
  · obtain ⟨p, q, ks, ws, rfl, N, lk, hS, aw, lw, k⟩ := h
    have hwl : ∀ w ∈ ws, w.length ≤ 10000 := fun w hw => by have := (aw w hw).2.1; omega
    refine ⟨_, (pss_cons (ps_set (i := 2) sc__law_formed.nd rfl (Or.inl rfl) (pe_op op_cat (pe_lc (own := [("word", 8)]) (g := gName 8) rfl sc__law_formed.nd (pi_list (pv 1)) (blkOk_by (N := ["numbers", "words", "names", "figures", "heads", "place", "line", "sort", "word"]) (sc := defScope s__law_formed) (by decide +kernel)) (fun _ _ _ _ _ => pg_name (i := 8) sc__law_formed.nd rfl (Or.inl rfl)) (fun _ _ _ _ _ => pts_one (pt_val (pe_call (G__law_is_name T) (hr.mono (by decide)) (by rfl) T.g__law_is_name T.k__law_is_name T.B__law_is_name .nil pass0 (pa_cons (pv 8) pa_nil)))) (fun _ _ _ _ _ => (pv 8))) (pe_lst (pa_cons pe_str (pa_cons pe_str (pa_cons pe_str pa_nil))))))
      (pss_cons (ps_set (i := 3) sc__law_formed.nd rfl (Or.inl rfl) (pe_op op_cat (pe_lc (own := [("word", 8)]) (g := gName 8) rfl sc__law_formed.nd (pi_list (pv 1)) (blkOk_by (N := ["numbers", "words", "names", "figures", "heads", "place", "line", "sort", "word"]) (sc := defScope s__law_formed) (by decide +kernel)) (fun _ _ _ _ _ => pg_name (i := 8) sc__law_formed.nd rfl (Or.inl rfl)) (fun _ _ _ _ _ => pts_one (pt_val (pe_call (G__law_is_number T) (hr.mono (by decide)) (by rfl) T.g__law_is_number T.k__law_is_number T.B__law_is_number .nil pass0 (pa_cons (pv 8) pa_nil)))) (fun _ _ _ _ _ => (pv 8))) (pe_lst (pa_cons pe_str (pa_cons pe_str (pa_cons pe_str pa_nil))))))
      (pss_cons (ps_set (i := 4) sc__law_formed.nd rfl (Or.inl rfl) (pe_tup (pa_cons pe_str (pa_cons pe_str (pa_cons pe_str (pa_cons pe_str (pa_cons pe_str (pa_cons pe_str (pa_cons pe_str (pa_cons pe_str (pa_cons pe_str (pa_cons pe_str (pa_cons pe_str (pa_cons pe_str (pa_cons pe_str pa_nil)))))))))))))))
      (pss_cons (ps_set (i := 5) sc__law_formed.nd rfl (Or.inl rfl) (pe_op op_mod (pe_callTy call_int1 (by rfl) T.z_int (by decide +kernel) (pa_cons (pe_ix ix_list (pv 0) pe_int (fun _ _ => rfl)) pa_nil)) pe_int))
      (pss_cons (ps_if (pt_cmpR op_eq (pv 5) pe_int (nomark _)) (pss_one (ps_ret (pe_lst (pa_cons pe_str (pa_cons (pe_ix ix_tup (pe_tup (pa_cons pe_str (pa_cons pe_str pa_nil))) (pe_op op_mod (pe_callTy call_int1 (by rfl) T.z_int (by decide +kernel) (pa_cons (pe_ix ix_list (pv 0) pe_int (fun _ _ => rfl)) pa_nil)) pe_int) (fun _ _ => rfl)) (pa_cons (pe_ix ix_list (pv 2) pe_int (fun _ _ => rfl)) pa_nil)))))) pss_nil)
      (pss_cons (ps_if (pt_cmpR op_eq (pv 5) pe_int (nomark _)) (pss_one (ps_ret (pe_lst (pa_cons pe_str (pa_cons (pe_ix ix_list (pv 3) pe_int (fun _ _ => rfl)) (pa_cons (pe_ix ix_list (pv 2) pe_int (fun _ _ => rfl)) pa_nil)))))) pss_nil)
      (pss_cons (ps_if (pt_cmpR op_gt (pv 5) pe_int (nomark _)) (pss_one (ps_ret (pe_lst (pa_cons (pe_ix ix_tup (pe_tup (pa_cons pe_str (pa_cons pe_str pa_nil))) (pe_op op_sub (pv 5) pe_int) (fun _ _ => rfl)) (pa_cons (pe_ix ix_list (pv 2) pe_int (fun _ _ => rfl)) (pa_cons (pe_ix ix_list (pv 3) pe_int (fun _ _ => rfl)) pa_nil)))))) pss_nil)
      (pss_cons (ps_set (i := 6) sc__law_formed.nd rfl (Or.inl rfl) (pe_lst (pa_cons (pe_ix ix_tup (pv 4) (pv 5) (fun _ _ => rfl)) pa_nil)))
      (pss_cons (ps_for PassesOwn.never rfl (pi_str (pe_call (G__law_form T) (hr.mono (by decide)) (by rfl) T.g__law_form T.k__law_form T.B__law_form .nil pass0 (pa_cons (pe_ix ix_tup (pv 4) (pv 5) (fun _ _ => rfl)) pa_nil))) (pg_name (i := 7) sc__law_formed.nd rfl (Or.inl rfl)) (pss_one (ps_if (pt_cmpR op_eq (pv 7) pe_str (nomark _)) (pss_one (ps_expr (pe_bm PySem.F.plainAttrs_list PySem.F.slot_list_append PySem.F.type_list_append mt_append (pv 6) (pa_cons (pe_ix ix_list (pv 2) (pe_op op_modN (pe_callB call_len_seq (by rfl) T.z_len PySem.boot_len (pa_cons (pv 6) pa_nil)) (pe_callB call_len_seq (by rfl) T.z_len PySem.boot_len (pa_cons (pv 2) pa_nil))) (fun _ _ => rfl)) pa_nil)))) (pss_one (ps_expr (pe_bm PySem.F.plainAttrs_list PySem.F.slot_list_append PySem.F.type_list_append mt_append (pv 6) (pa_cons (pe_ix ix_list (pv 3) (pe_op op_modN (pe_callB call_len_seq (by rfl) T.z_len PySem.boot_len (pa_cons (pv 6) pa_nil)) (pe_callB call_len_seq (by rfl) T.z_len PySem.boot_len (pa_cons (pv 3) pa_nil))) (fun _ _ => rfl)) pa_nil)))))))
      (pss_one (ps_ret (pv 6)))))))))))), ?_⟩
    refine ⟨_, rfl, q, rfl, ⟨_, hS⟩, fun D hD => lc_list (K := K) (a := q) (xs := ws.map V.str) (fun i H' => Ex H H' ∧ ∃ nn : List Str, H' D = some (.lst (nn.map V.str)) ∧ AllW nn ∧ nn.length ≤ i ∧ i ≤ ws.length) ⟨Ex.new hD, [], upd_same, (fun x hx => by cases hx), Nat.le_refl _, Nat.zero_le _⟩ (fun i H' _ z => ex_l z.1 hS) (fun i y H' hy z => ?_) (fun H1 z => ?_)⟩
    · obtain ⟨e, nn, m, al, l1, _⟩ := z
      have hi : i < ws.length := by have := (List.getElem?_eq_some_iff.mp hy).1; rwa [List.length_map] at this
      rw [List.getElem?_map, List.getElem?_eq_getElem hi] at hy
      obtain rfl := Option.some.inj hy
      have wx := aw _ (List.getElem_mem hi)
      have lx := hwl _ (List.getElem_mem hi)
      generalize ws[i] = x at wx lx
      refine ⟨rfl, _, rfl, x, rfl, lx, fun H2 e2 => ?_⟩
      cases hc : isName x with
      | false => exact ⟨_, rfl, e.trans e2, nn, e2 _ _ m, al, by omega, by omega⟩
      | true =>
        refine ⟨_, rfl, _, rfl, _, e2 _ _ m, sz_lt (by rw [List.length_map]; omega), (e.trans e2).mut hD, nn ++ [x], by rw [upd_same, List.map_append]; rfl, fun y hy => ?_, by rw [List.length_append]; show nn.length + 1 ≤ _; omega, by omega⟩
        rcases List.mem_append.mp hy with hy | hy
        · exact al y hy
        · rw [List.mem_singleton.mp hy]
          exact wx
    obtain ⟨e1, nn, m, al, l1, _⟩ := z
    rw [List.length_map] at l1
    refine ⟨by show 3 ≤ sizeLine; decide, fun A1 hA1 => ?_⟩
    generalize hH2 : upd H1 A1 _ = H2
    have e2 : Ex H1 H2 := by rw [← hH2]; exact Ex.new hA1
    have m2 : H2 A1 = some (.lst (ABC.map V.str)) := by rw [← hH2]; exact upd_same
    refine ⟨D, A1, _, _, rfl, rfl, e2 _ _ m, m2, sz_of (by rw [List.length_map]; show _ + 3 ≤ _; omega), fun n0 hn0 => ?_⟩
    have e3 : Ex H2 (upd H2 n0 (.lst (nn.map V.str ++ ABC.map V.str))) := Ex.new hn0
    have m3 : (upd H2 n0 (.lst (nn.map V.str ++ ABC.map V.str))) n0 = some (.lst ((nn ++ ABC).map V.str)) := by rw [upd_same, List.map_append]
    generalize upd H2 n0 (.lst (nn.map V.str ++ ABC.map V.str)) = H3 at e3 m3
    have e03 := (e1.trans e2).trans e3
    have an : AllW (nn ++ ABC) := fun y hy => by
      rcases List.mem_append.mp hy with hy | hy
      · exact al y hy
      · have : ∀ y ∈ ABC, Wd y := by decide +kernel
        exact this y hy
    have ln : (nn ++ ABC).length = nn.length + 3 := by rw [List.length_append]; rfl
    generalize nn ++ ABC = names at m3 an ln
    refine ⟨_, rfl, q, rfl, ⟨_, ex_l e03 hS⟩, fun F hF => lc_list (K := K) (a := q) (xs := ws.map V.str) (fun i H' => Ex H3 H' ∧ ∃ nn : List Str, H' F = some (.lst (nn.map V.str)) ∧ AllW nn ∧ nn.length ≤ i ∧ i ≤ ws.length) ⟨Ex.new hF, [], upd_same, (fun x hx => by cases hx), Nat.le_refl _, Nat.zero_le _⟩ (fun i H' _ z => ex_l (e03.trans z.1) hS) (fun i y H' hy z => ?_) (fun H4 z => ?_)⟩
    · obtain ⟨e, nn, m, al, l1, _⟩ := z
      have hi : i < ws.length := by have := (List.getElem?_eq_some_iff.mp hy).1; rwa [List.length_map] at this
      rw [List.getElem?_map, List.getElem?_eq_getElem hi] at hy
      obtain rfl := Option.some.inj hy
      have wx := aw _ (List.getElem_mem hi)
      have lx := hwl _ (List.getElem_mem hi)
      generalize ws[i] = x at wx lx
      refine ⟨rfl, _, rfl, x, rfl, lx, fun H2 e2 => ?_⟩
      cases hc : isNumber x with
      | false => exact ⟨_, rfl, e.trans e2, nn, e2 _ _ m, al, by omega, by omega⟩
      | true =>
        refine ⟨_, rfl, _, rfl, _, e2 _ _ m, sz_lt (by rw [List.length_map]; omega), (e.trans e2).mut hF, nn ++ [x], by rw [upd_same, List.map_append]; rfl, fun y hy => ?_, by rw [List.length_append]; show nn.length + 1 ≤ _; omega, by omega⟩
        rcases List.mem_append.mp hy with hy | hy
        · exact al y hy
        · rw [List.mem_singleton.mp hy]
          exact wx
    obtain ⟨e4, ff, mf, af, l4, _⟩ := z
    rw [List.length_map] at l4
    refine ⟨by show 3 ≤ sizeLine; decide, fun A2 hA2 => ?_⟩
    generalize hH5 : upd H4 A2 _ = H5
    have e5 : Ex H4 H5 := by rw [← hH5]; exact Ex.new hA2
    have m5 : H5 A2 = some (.lst (FIG.map V.str)) := by rw [← hH5]; exact upd_same
    refine ⟨F, A2, _, _, rfl, rfl, e5 _ _ mf, m5, sz_of (by rw [List.length_map]; show _ + 3 ≤ _; omega), fun f0 hf0 => ?_⟩
    have e6 : Ex H5 (upd H5 f0 (.lst (ff.map V.str ++ FIG.map V.str))) := Ex.new hf0
    have m6 : (upd H5 f0 (.lst (ff.map V.str ++ FIG.map V.str))) f0 = some (.lst ((ff ++ FIG).map V.str)) := by rw [upd_same, List.map_append]
    generalize upd H5 f0 (.lst (ff.map V.str ++ FIG.map V.str)) = H6 at e6 m6
    have e36 := (e4.trans e5).trans e6
    have e06 := e03.trans e36
    have mn6 := e36 _ _ m3
    have ag : AllW (ff ++ FIG) := fun y hy => by
      rcases List.mem_append.mp hy with hy | hy
      · exact af y hy
      · have : ∀ y ∈ FIG, Wd y := by decide +kernel
        exact this y hy
    have lg : (ff ++ FIG).length = ff.length + 3 := by rw [List.length_append]; rfl
    generalize ff ++ FIG = figs at m6 ag lg
    clear e4 e5 mf m5 hH5 af l4 e36 m3
    refine ⟨by show 13 ≤ sizeLine; decide, fun h0 hh0 => ?_⟩
    generalize hH7 : upd H6 h0 _ = H7
    have e7 : Ex H6 H7 := by rw [← hH7]; exact Ex.new hh0
    have m7 : H7 h0 = some (.tup (LNAMES.map V.str)) := by rw [← hH7]; exact upd_same
    have e07 := e06.trans e7
    have mn := e7 _ _ mn6
    have mf := e7 _ _ m6
    have N7 := N.ex e07
    obtain ⟨n0', w0, wn0, hn00⟩ := pick_at an (i := 0) (by decide) (by omega)
    obtain ⟨f0', wf, wf0, hf00⟩ := pick_at ag (i := 0) (by decide) (by omega)
    obtain ⟨n42, _, _, g42⟩ := N7.get (i := 42) (by decide) (by omega)
    obtain ⟨n43, _, _, g43⟩ := N7.get (i := 43) (by decide) (by omega)
    refine ⟨_, rfl, p, _, _, _, rfl, rfl, N7.at_, g42, .inl ⟨_, rfl, _, _, rfl, rfl, (by show (0 : Int) < 17; decide), ?_⟩⟩
    have pl0 : 0 ≤ n42 % 17 ∧ n42 % 17 < 17 := ⟨Int.emod_nonneg _ (by decide), Int.emod_lt_of_pos _ (by decide)⟩
    refine ⟨_, rfl, rfl, _, rfl, ?_⟩
    refine ite2 (fun c1 => ?_) (fun c1 => ?_)
    · obtain ⟨y, hy, wy, _⟩ := pick_at (i := n43 % 2) land_ok (Int.emod_nonneg _ (by decide)) (by show _ < (2 : Int); exact Int.emod_lt_of_pos _ (by decide))
      refine ⟨by show 2 ≤ sizeLine; decide, fun t ht => ⟨_, rfl, p, _, _, _, rfl, rfl, (N7.ex (Ex.new ht)).at_, g43, .inl ⟨_, rfl, _, _, rfl, rfl, (by show (0 : Int) < 2; decide), t, _, _, _, rfl, rfl, st_of (xs := (["land", "case"] : List Str).map V.str) upd_same, hy, ?_⟩⟩⟩
      have eT := Ex.new (o := .tup ((["land", "case"] : List Str).map V.str)) ht
      refine ⟨_, rfl, n0, _, _, _, rfl, rfl, SqL.of (eT _ _ mn), w0, by show 3 ≤ sizeLine; decide, fun l hl => ?_⟩
      refine k l _ ["remove", y, n0'] ((e07.trans eT).trans (Ex.new hl)) (none_ex (e07.trans eT) hl) upd_same (allw3 (by decide +kernel) wy wn0) (by show 1 ≤ 3; decide) (by show 3 ≤ 4; decide)
    refine ⟨_, rfl, rfl, _, rfl, ?_⟩
    refine ite2 (fun c2 => ?_) (fun c2 => ?_)
    · refine ⟨_, rfl, f0, _, _, _, rfl, rfl, SqL.of mf, wf, _, rfl, n0, _, _, _, rfl, rfl, SqL.of mn, w0, by show 3 ≤ sizeLine; decide, fun l hl => ?_⟩
      exact k l _ ["wind", f0', n0'] (e07.trans (Ex.new hl)) (none_ex e07 hl) upd_same (allw3 (by decide +kernel) wf0 wn0) (by show 1 ≤ 3; decide) (by show 3 ≤ 4; decide)
    refine ⟨_, rfl, _, _, rfl, rfl, _, rfl, ?_⟩
    refine ite2 (fun c3 => ?_) (fun c3 => ?_)
    · have c3 := of_decide_eq_true c3
      obtain ⟨y, hy, wy, _⟩ := pick_at (i := n42 % 17 - 15) start_ok (by omega) (by show _ < (2 : Int); omega)
      refine ⟨by show 2 ≤ sizeLine; decide, fun t ht => ⟨_, rfl, _, _, rfl, rfl, t, _, _, _, rfl, rfl, st_of (xs := (["start", "break"] : List Str).map V.str) upd_same, hy, ?_⟩⟩
      have eT := Ex.new (o := .tup ((["start", "break"] : List Str).map V.str)) ht
      refine ⟨_, rfl, n0, _, _, _, rfl, rfl, SqL.of (eT _ _ mn), w0, _, rfl, f0, _, _, _, rfl, rfl, SqL.of (eT _ _ mf), wf, by show 3 ≤ sizeLine; decide, fun l hl => ?_⟩
      exact k l _ [y, n0', f0'] ((e07.trans eT).trans (Ex.new hl)) (none_ex (e07.trans eT) hl) upd_same (allw3 wy wn0 wf0) (by show 1 ≤ 3; decide) (by show 3 ≤ 4; decide)
    have pl13 : n42 % 17 < 13 := by
      have a1 : ¬ n42 % 17 = 13 := fun e => c1 (decide_eq_true (congrArg V.int e))
      have a2 : ¬ n42 % 17 = 14 := fun e => c2 (decide_eq_true (congrArg V.int e))
      have a3 : ¬ 14 < n42 % 17 := fun e => c3 (decide_eq_true e)
      omega
    obtain ⟨hd, wh, whd, hhd⟩ := pick_at lnames_ok (i := n42 % 17) pl0.1 (by show _ < (13 : Int); exact pl13)
    refine ⟨_, rfl, _, rfl, h0, _, _, _, rfl, rfl, st_of m7, wh, by show 1 ≤ sizeLine; decide, fun l hl => ?_⟩
    have hf : ∃ f, lForm hd = some f ∧ f.length ≤ 3 := by
      have : ∀ y ∈ LNAMES, ∃ f, lForm y = some f := by
        intro y hy
        have : (lForm y).isSome = true := by
          have al : ∀ y ∈ LNAMES, (lForm y).isSome = true := by decide +kernel
          exact al y hy
        exact Option.isSome_iff_exists.mp this
      obtain ⟨f, e⟩ := this hd hhd
      exact ⟨f, e, lForm_len e⟩
    obtain ⟨f, ef, lf⟩ := hf
    generalize hH8 : upd H7 l _ = H8
    have e8 : Ex H7 H8 := by rw [← hH8]; exact Ex.new hl
    have m8 : H8 l = some (.lst (([hd] : List Str).map V.str)) := by rw [← hH8]; exact upd_same
    refine ⟨_, rfl, _, rfl, h0, _, _, _, rfl, rfl, st_of (e8 _ _ m7), wh, hd, rfl, by have := whd.2.1; omega, fun H9 e9 => ?_⟩
    rw [ef]
    have e79 := e8.trans e9
    have m9 := e9 _ _ m8
    have fl : f.cps.size = f.length := rfl
    refine ⟨f, rfl, for_sign (fun i σ H' => ∃ (v7 : Option V) (ls : List Str), σ = [some (.ref p), some (.ref q), some (.ref n0), some (.ref f0), some (.ref h0), some (.int (n42 % 17)), some (.ref l), v7, none] ∧ Ex H7 H' ∧ H' l = some (.lst (ls.map V.str)) ∧ AllW ls ∧ ls.length = i + 1) ⟨none, [hd], rfl, e79, m9, fun y hy => by rw [List.mem_singleton.mp hy]; exact whd, rfl⟩ ?_ ?_⟩
    · rintro i c σ H10 hc ⟨v7, ls, rfl, e10, m10, al10, ll⟩
      have hil : i < f.cps.size := (Array.getElem?_eq_some_iff.mp hc).1
      have app : ∀ x, Wd x → ∃ (v7 : Option V) (ls' : List Str), [some (V.ref p), some (.ref q), some (.ref n0), some (.ref f0), some (.ref h0), some (.int (n42 % 17)), some (.ref l), some (.str ⟨#[c]⟩), none] = [some (.ref p), some (.ref q), some (.ref n0), some (.ref f0), some (.ref h0), some (.int (n42 % 17)), some (.ref l), v7, none] ∧ Ex H7 (upd H10 l (.lst (ls.map V.str ++ [V.str x]))) ∧ (upd H10 l (.lst (ls.map V.str ++ [V.str x]))) l = some (.lst (ls'.map V.str)) ∧ AllW ls' ∧ ls'.length = i + 1 + 1 := fun x wx => by
        refine ⟨_, ls ++ [x], rfl, e10.mut hl, by rw [upd_same, List.map_append]; rfl, fun y hy => ?_, by rw [List.length_append, ll]; rfl⟩
        rcases List.mem_append.mp hy with hy | hy
        · exact al10 y hy
        · rw [List.mem_singleton.mp hy]
          exact wx
      have room : (ls.map V.str).length < sizeLine := sz_lt (by rw [List.length_map]; omega)
      have L10 : SqL K H10 l (ls.map V.str) := SqL.of m10
      have md : ∀ ys : List Str, 3 ≤ ys.length → 0 ≤ (((ls.map V.str).length : Nat) : Int).fmod (((ys.map V.str).length : Nat) : Int) ∧ (((ls.map V.str).length : Nat) : Int).fmod (((ys.map V.str).length : Nat) : Int) < (ys.length : Int) ∧ (((ys.map V.str).length : Nat) : Int) ≠ 0 := fun ys h3 => by
        rw [List.length_map (f := V.str) (as := ys)]
        exact ⟨Int.fmod_nonneg_of_pos _ (by omega), Int.fmod_lt_of_pos _ (by omega), by omega⟩
      refine ⟨_, rfl, rfl, _, rfl, ?_⟩
      refine ite2 (fun c4 => ?_) (fun c4 => ?_)
      · have mm := md names (by omega)
        have MN : SqL K H10 n0 (names.map V.str) := SqL.of (e10 _ _ mn)
        obtain ⟨x, hx, wx, _⟩ := pick_at an mm.1 mm.2.1
        exact ⟨_, rfl, .inl ⟨rfl, _, L10⟩, _, rfl, _, rfl, l, _, rfl, .inl L10, _, rfl, n0, _, rfl, .inl MN, _, _, rfl, rfl, mm.2.2, n0, _, _, _, rfl, rfl, MN, hx, l, _, _, rfl, rfl, m10, room, app x wx⟩
      · have mm := md figs (by omega)
        have MN : SqL K H10 f0 (figs.map V.str) := SqL.of (e10 _ _ mf)
        obtain ⟨x, hx, wx, _⟩ := pick_at ag mm.1 mm.2.1
        exact ⟨_, rfl, .inl ⟨rfl, _, L10⟩, _, rfl, _, rfl, l, _, rfl, .inl L10, _, rfl, f0, _, rfl, .inl MN, _, _, rfl, rfl, mm.2.2, f0, _, _, _, rfl, rfl, MN, hx, l, _, _, rfl, rfl, m10, room, app x wx⟩
    · rintro σ H10 ⟨v7, ls, rfl, e10, m10, al10, ll⟩
      exact ⟨_, rfl, k l H10 ls (e07.trans e10) (none_ex e07 hl) m10 al10 (by omega) (by omega)⟩
end
end W3

set_option Elab.async false
set_option linter.all false
set_option maxRecDepth 100000
set_option maxHeartbeats 4000000
namespace W3
open PySem PySem.Spec PyProof.Rows L2 EvS Evl EV TX
theorem join_pieces : ∀ {ps : List Str}, ps ≠ [] → ps.length ≤ (Txt.join " " ps).length + 1
  | [], h => absurd rfl h
  | [y], _ => by show 1 ≤ _; omega
  | y :: z :: r, _ => by
    have ih := join_pieces (ps := z :: r) (by simp)
    rw [join_two, Str.length_append, Str.length_append, len_sp, List.length_cons]
    omega
theorem Line.num {z : Str} {ws ps : List Str} (h : Line z ws ps) : (Txt.split z " ").length ≤ z.length + 1 := by
  have e := join_pieces h.ne
  rw [← h.eq] at e
  rw [h.eq, line_split h.ne h.cl]
  rw [← h.eq]
  exact e
theorem dps_strs {K : PySem.W.Frag} {H : Hp} : ∀ ws : List Str, DpAll K H (ws.map V.str) (ws.map PyData.str)
  | [] => .nil
  | w :: r => .cons (.str w) (dps_strs r)
theorem shaped_ws {ws : List Str} (h : AllW ws) : SeqAt.shaped (.list (ws.map PyData.str)) = true := sh_shaped (sh_lst (n := 1) fun x hx => by
  obtain ⟨r, hr, rfl⟩ := List.mem_map.mp hx
  exact sh_st (wd_strOk (h r hr))) (by decide)
theorem none_ex' {H H' : Hp} {l : Addr} (e : Ex H H') (h : H' l = none) : H l = none := none_ex e h
open RpX in
theorem rp_row {ws : List Str} {d : PyData} (h : AllW ws) (e : rowD ws = some d) : Rp 2 (3 * 42) d := by
  have st : ∀ z : Str, Wd z → Rp 1 41 (.str z) := fun z hz => rp_str (by simp only [PyData.canLay0]; exact wd_strOk hz) (Nat.le_trans hz.2.1 (by decide))
  have it : ∀ z : Str, isNumber z = true → Rp 1 41 (.int (numV z)) := fun z hz => by
    have := numV_ok hz
    exact rp_int (by omega) (by omega)
  match ws, e with
  | [x, y, z], e =>
    have wx := h x (by simp)
    have wy := h y (by simp)
    have wz := h z (by simp)
    rw [rowD3] at e
    split at e
    · rename_i c
      rw [← Option.some.inj e]
      refine rp_tup (n := 1) (w := 41) (m := 3) (fun d hd => ?_) (by show 3 ≤ 3; decide)
      have : d = .str "wind" ∨ d = .int (numV y) ∨ d = .str z := by simpa using hd
      rcases this with rfl | rfl | rfl
      · exact st _ (by decide +kernel)
      · exact it _ (fits_min (form_at (i := 1) c rfl rfl))
      · exact st _ wz
    · split at e
      · rename_i c
        rw [← Option.some.inj e]
        refine rp_tup (n := 1) (w := 41) (m := 3) (fun d hd => ?_) (by show 3 ≤ 3; decide)
        have : d = .str x ∨ d = .str y ∨ d = .int (numV z) := by simpa using hd
        rcases this with rfl | rfl | rfl
        · exact st _ wx
        · exact st _ wy
        · rw [Bool.or_eq_true] at c
          rcases c with c | c
          · exact it _ (fits_min (form_at (i := 2) c rfl rfl))
          · exact it _ (fits_min (form_at (i := 2) c rfl rfl))
      · cases e
  | [], e => cases e
  | [_], e => cases e
  | [_, _], e => cases e
  | _ :: _ :: _ :: _ :: _, e => cases e
end W3
namespace EV
open PySem PySem.Spec PyProof.Rows L2 EvS Evl TX W3
def spLaw (K : PySem.W.Frag) : Sp := fun vs H Q _ => ∃ (p : Addr) (ns : List Int), vs = [.ref p] ∧ SqL K H p (ns.map V.int) ∧ ∀ H', Q (.bl true) H'
section
variable {P : Program} {w : World} {K : PySem.W.Frag} {mg : Str → Option Value} {base : Heap} {a : Ad}
theorem G_law (T : Txt K mg a) (bind : ∀ (s : Shared) (u : Value), BindsTo s a.d_law ⟨[u], []⟩ [("script", u)]) : GrdX.Says P w K mg base CX0 a.f_law (spLaw K) := by
  refine GrdX.says_fun (k := 5) T.F_law sc_law bind ⟨rfl, by decide, by decide⟩ (fun cdv s H v Q E hr h => ?_)
  · obtain ⟨sc, ns, hv, hS, k⟩ := h
    cases hv
    refine ⟨_, (pss_cons (ps_set (i := 1) sc_law.nd rfl (Or.inr rfl) (pe_call (G__law_numbers T) (hr.mono (by decide)) (by rfl) T.g__law_numbers T.k__law_numbers T.B__law_numbers .nil pass0 (pa_cons (pv 0) (pa_cons pe_int pa_nil))))
      (pss_cons (ps_setLc (i := 2) (own := [("k", 6)]) (g := gName 6) (tt := tYes) rfl sc_law.nd rfl rfl (sw_true rfl rfl rfl (by decide +kernel)) (pi_range1 (by rfl) T.z_range (pa_cons (pe_op op_add pe_int (pe_op op_mod (pe_callTy call_int1 (by rfl) T.z_int (by decide +kernel) (pa_cons (pe_ix ix_list (pv 1) pe_int (fun _ _ => rfl)) pa_nil)) pe_int)) pa_nil)) (blkOk_by (N := ["script", "numbers", "words", "line", "place", "text", "k", "told", "passed", "actual"]) (sc := defScope s_law) (by decide +kernel)) (fun _ _ _ _ _ => pg_name (i := 6) sc_law.nd rfl (Or.inl rfl)) (fun _ _ _ _ _ => pts_nil) (fun _ _ _ _ _ => (pe_call (G__law_word T) (hr.mono (by decide)) (by rfl) T.g__law_word T.k__law_word T.B__law_word .nil pass0 (pa_cons (pe_ix (show IxR _ (rIxL K) from ix_list) (pv 1) (pe_op op_mul pe_int (pv 6)) (fun _ _ => rfl)) (pa_cons (pe_ix (show IxR _ (rIxL K) from ix_list) (pv 1) (pe_op op_add (pe_op op_mul pe_int (pv 6)) pe_int) (fun _ _ => rfl)) pa_nil)))))
      (Evl.pss_cut (ps_if (pt_cmpR op_gt (pe_op op_mod (pe_callTy call_int1 (by rfl) T.z_int (by decide +kernel) (pa_cons (pe_ix ix_list (pv 1) pe_int (fun _ _ => rfl)) pa_nil)) pe_int) pe_int (nomark _)) (pss_cons (ps_set (i := 3) sc_law.nd rfl (Or.inl rfl) (pe_call (G__law_formed T) (hr.mono (by decide)) (by rfl) T.g__law_formed T.k__law_formed T.B__law_formed .nil pass0 (pa_cons (pv 1) (pa_cons (pv 2) pa_nil))))
        (pss_cons (ps_set (i := 4) sc_law.nd rfl (Or.inl rfl) (pe_op op_modN (pe_callTy call_int1 (by rfl) T.z_int (by decide +kernel) (pa_cons (pe_ix ix_list (pv 1) pe_int (fun _ _ => rfl)) pa_nil)) (pe_callB call_len_seq (by rfl) T.z_len PySem.boot_len (pa_cons (pv 3) pa_nil))))
        (Evl.pss_cut (ps_if (pt_cmpR op_eq (pe_op op_mod (pe_callTy call_int1 (by rfl) T.z_int (by decide +kernel) (pa_cons (pe_ix ix_list (pv 1) pe_int (fun _ _ => rfl)) pa_nil)) pe_int) pe_int (nomark _)) (pss_one (ps_asg (pe_ix ix_list (pv 2) pe_int (fun _ _ => rfl)) (pg_sub (pv 3) (pv 4) set_list))) pss_nil)
        (Evl.pss_cut (ps_if (PW.pt (pw_and (pt_cmpR op_eq (pe_op op_mod (pe_callTy call_int1 (by rfl) T.z_int (by decide +kernel) (pa_cons (pe_ix ix_list (pv 1) pe_int (fun _ _ => rfl)) pa_nil)) pe_int) pe_int (nomark _)) (pw_and1 (pt_cmpR op_gt (pe_callB call_len_seq (by rfl) T.z_len PySem.boot_len (pa_cons (pv 3) pa_nil)) pe_int (nomark _))))) (pss_one (ps_set (i := 3) sc_law.nd rfl (Or.inl rfl) (pe_op op_cat (pe_slice sl_list (pv 3) po_none (po_some (pv 4))) (pe_slice sl_list (pv 3) (po_some (pe_op op_add (pv 4) pe_int)) po_none)))) pss_nil)
        (Evl.pss_cut (ps_if (pt_cmpR op_eq (pe_op op_mod (pe_callTy call_int1 (by rfl) T.z_int (by decide +kernel) (pa_cons (pe_ix ix_list (pv 1) pe_int (fun _ _ => rfl)) pa_nil)) pe_int) pe_int (nomark _)) (pss_one (ps_expr (pe_bm PySem.F.plainAttrs_list PySem.F.slot_list_append PySem.F.type_list_append mt_append (pv 3) (pa_cons (pe_ix ix_list (pv 2) pe_int (fun _ _ => rfl)) pa_nil)))) pss_nil)
        (pss_one (ps_set (i := 2) sc_law.nd rfl (Or.inl rfl) (pv 3)))))))) pss_nil)
      (pss_cons (ps_set (i := 5) sc_law.nd rfl (Or.inl rfl) (pe_op MulS.op_mulS pe_str (pe_op op_mod (pe_callTy call_int1 (by rfl) T.z_int (by decide +kernel) (pa_cons (pe_ix ix_list (pv 1) pe_int (fun _ _ => rfl)) pa_nil)) pe_int)))
      (pss_cons (ps_for PassesOwn.never rfl (pi_range1 (by rfl) T.z_range (pa_cons (pe_callB call_len_seq (by rfl) T.z_len PySem.boot_len (pa_cons (pv 2) pa_nil)) pa_nil)) (pg_name (i := 6) sc_law.nd rfl (Or.inl rfl)) (pss_cons (ps_set (i := 5) sc_law.nd rfl (Or.inl rfl) (pe_op op_add_str (pv 5) (pe_ix ix_list (pv 2) (pv 6) (fun _ _ => rfl))))
        (pss_one (ps_if (pt_cmpR op_lt (pe_op op_add (pv 6) pe_int) (pe_callB call_len_seq (by rfl) T.z_len PySem.boot_len (pa_cons (pv 2) pa_nil)) (nomark _)) (pss_one (ps_set (i := 5) sc_law.nd rfl (Or.inl rfl) (pe_op op_add_str (pv 5) (pe_op MulS.op_mulS pe_str (pe_op op_add pe_int (pe_op op_mod (pe_callTy call_int1 (by rfl) T.z_int (by decide +kernel) (pa_cons (pe_op op_add (pe_ix ix_list (pv 1) pe_int (fun _ _ => rfl)) (pe_op op_mul (pv 6) (pe_ix ix_list (pv 1) pe_int (fun _ _ => rfl)))) pa_nil)) pe_int)))))) pss_nil))))
      (pss_cons (ps_set (i := 5) sc_law.nd rfl (Or.inl rfl) (pe_op op_add_str (pv 5) (pe_op MulS.op_mulS pe_str (pe_op op_mod (pe_callTy call_int1 (by rfl) T.z_int (by decide +kernel) (pa_cons (pe_ix ix_list (pv 1) pe_int (fun _ _ => rfl)) pa_nil)) pe_int))))
      (pss_cons (ps_set (i := 7) sc_law.nd rfl (Or.inl rfl) (pe_call (G_split_words T) (hr.mono (by decide)) (by rfl) T.g_split_words T.k_split_words T.B_split_words .nil pass0 (pa_cons (pv 5) pa_nil)))
      (pss_cons (ps_if (PW.pt (pw_or (pt_not (pt_val (pe_callB call_isi (by rfl) T.z_isinstance (by decide +kernel) (pa_cons (pv 7) (pa_cons (pe_bltn (v := .ty "list") (u := .type "list") (by rfl) T.z_list (by decide +kernel) rfl) pa_nil))))) (pw_or (pt_cmpR (op_neD hr.units) (pv 7) (pv 2) (nomark _)) (pw_or1 (pt_cmpR (op_neD hr.units) (pe_call (G_split_words T) (hr.mono (by decide)) (by rfl) T.g_split_words T.k_split_words T.B_split_words .nil pass0 (pa_cons (pe_op MulS.op_mulS pe_str (pe_op op_mod (pe_callTy call_int1 (by rfl) T.z_int (by decide +kernel) (pa_cons (pe_ix ix_list (pv 1) pe_int (fun _ _ => rfl)) pa_nil)) pe_int)) pa_nil)) (pe_lst pa_nil) (nomark _)))))) (pss_one (ps_ret pe_bl)) pss_nil)
      (pss_cons (ps_if (pt_cmpR (op_neD hr.units) (pe_call (G_split_words T) (hr.mono (by decide)) (by rfl) T.g_split_words T.k_split_words T.B_split_words .nil pass0 (pa_cons pe_str pa_nil)) (pe_lst (pa_cons pe_str (pa_cons pe_str pa_nil))) (nomark _)) (pss_one (ps_ret pe_bl)) pss_nil)
      (pss_cons (ps_set (i := 8) sc_law.nd rfl (Or.inl rfl) (pe_callTy call_lstK (by rfl) T.z_list (by decide +kernel) (pa_cons (pv 2) pa_nil)))
      (pss_cons (ps_if (pt_cmpR op_ne (pe_callB (GrdX.call_reprN rfl hr.units) (by rfl) T.z_repr (by decide +kernel) (pa_cons (pe_call (G_row_of T) (hr.mono (by decide)) (by rfl) T.g_row_of T.k_row_of T.B_row_of .nil pass0 (pa_cons (pv 8) pa_nil)) pa_nil)) (pe_callB (GrdX.call_reprN rfl hr.units) (by rfl) T.z_repr (by decide +kernel) (pa_cons (pe_call (G__law_row_due T) (hr.mono (by decide)) (by rfl) T.g__law_row_due T.k__law_row_due T.B__law_row_due .nil pass0 (pa_cons (pv 2) pa_nil)) pa_nil)) (nomark _)) (pss_one (ps_ret pe_bl)) pss_nil)
      (pss_cons (ps_set (i := 9) sc_law.nd rfl (Or.inl rfl) (pe_call (G_is_command T) (hr.mono (by decide)) (by rfl) T.g_is_command T.k_is_command T.B_is_command .nil pass0 (pa_cons (pv 8) pa_nil)))
      (pss_one (ps_ret (pe_and (pe_callB call_isi (by rfl) T.z_isinstance (by decide +kernel) (pa_cons (pv 9) (pa_cons (pe_bltn (v := .ty "bool") (u := .type "bool") (by rfl) T.z_bool (by decide +kernel) rfl) pa_nil))) (pe_and (pe_cmpR op_eq (pv 9) (pe_call (G__law_command T) (hr.mono (by decide)) (by rfl) T.g__law_command T.k__law_command T.B__law_command .nil pass0 (pa_cons (pv 2) pa_nil)) (nomark _)) (pe_one (pe_cmpR (op_eqD hr.units) (pv 8) (pv 2) (nomark _))))))))))))))))))), ?_⟩
    refine ⟨_, rfl, sc, ns, 60, rfl, hS, by decide, by decide, fun H1 q ks e1 _ hq lq sm => ?_⟩
    have N : Nm K H1 q ks := ⟨SqL.of hq, sm⟩
    have lk : ks.length = 60 := by omega
    obtain ⟨n40, _, _, g40⟩ := N.get (i := 40) (by decide) (by omega)
    have m7 : 0 ≤ n40 % 7 ∧ n40 % 7 < 7 := ⟨Int.emod_nonneg _ (by decide), Int.emod_lt_of_pos _ (by decide)⟩
    refine ⟨_, rfl, q, _, _, _, rfl, rfl, N.at_, g40, .inl ⟨_, rfl, _, _, rfl, rfl, (by show (0 : Int) < 7; decide), _, _, rfl, rfl, ?_⟩⟩
    refine ⟨_, rfl, by omega, by omega, fun W0 hW => lc_range (lo := 0) (n := (1 + n40 % 7).toNat) (fun i H' => Ex H1 H' ∧ ∃ ws : List Str, H' W0 = some (.lst (ws.map V.str)) ∧ ws.length = i ∧ AllW ws) ⟨Ex.new hW, [], upd_same, rfl, fun y hy => by cases hy⟩ ?_ ?_⟩
    · rintro i H' hi ⟨e, ws, m, lw, aw⟩
      have N' := N.ex e
      obtain ⟨x, x0, x1, gx⟩ := N'.get (i := 2 * (0 + (i : Int))) (by omega) (by omega)
      obtain ⟨y, y0, y1, gy⟩ := N'.get (i := 2 * (0 + (i : Int)) + 1) (by omega) (by omega)
      refine ⟨rfl, _, rfl, _, rfl, _, _, rfl, rfl, .inl ⟨by decide, by decide⟩, q, _, _, _, rfl, rfl, N'.at_, gx, _, rfl, _, rfl, _, _, rfl, rfl, .inl ⟨by decide, by decide⟩, _, _, rfl, rfl, q, _, _, _, rfl, rfl, N'.at_, gy, x, y, rfl, x0, x1, y0, y1, fun z H2 wz e2 => ?_⟩
      refine ⟨_, e2 _ _ m, sz_lt (by rw [List.length_map]; omega), (e.trans e2).mut hW, ws ++ [z], by rw [upd_same, List.map_append]; rfl, by rw [List.length_append, lw]; rfl, fun y hy => ?_⟩
      rcases List.mem_append.mp hy with hy | hy
      · exact aw y hy
      · rw [List.mem_singleton.mp hy]
        exact wz
    rintro H2 ⟨e2, ws, m2, lw, aw⟩
    have lw1 : 1 ≤ ws.length := by omega
    have lw7 : ws.length ≤ 7 := by omega
    have N2 := N.ex e2
    obtain ⟨n41, _, _, g41⟩ := N2.get (i := 41) (by decide) (by omega)
    refine ⟨fun σ H' => ∃ (wq : Addr) (ws : List Str) (v3 v4 : Option V), σ = [some (.ref sc), some (.ref q), some (.ref wq), v3, v4, none, none, none, none, none] ∧ Ex H1 H' ∧ SqL K H' wq (ws.map V.str) ∧ AllW ws ∧ 1 ≤ ws.length ∧ ws.length ≤ 9, ?_, ?_⟩
    · refine ⟨_, rfl, q, _, _, _, rfl, rfl, N2.at_, g41, .inl ⟨_, rfl, _, _, rfl, rfl, (by show (0 : Int) < 3; decide), _, _, rfl, rfl, _, rfl, ?_⟩⟩
      refine ite2 (fun c1 => ?_) (fun c1 => ?_)
      case' refine_2 => exact ⟨W0, ws, none, none, rfl, e2, SqL.of m2, aw, lw1, by omega⟩
      refine ⟨_, rfl, _, rfl, q, W0, ks, ws, rfl, N2, lk, SqL.of m2, aw, by omega, fun l H3 ls e3 hl0 ml al l1 l4 => ?_⟩
      have N3 := N2.ex e3
      have mW3 := e3 _ _ m2
      obtain ⟨n44, _, _, g44⟩ := N3.get (i := 44) (by decide) (by omega)
      obtain ⟨n45, _, _, g45⟩ := N3.get (i := 45) (by decide) (by omega)
      refine ⟨_, rfl, q, _, _, _, rfl, rfl, N3.at_, g44, .inl ⟨_, rfl, _, rfl, l, _, rfl, .inl (SqL.of ml), _, _, rfl, rfl, ?_, ?_⟩⟩
      · rw [List.length_map]
        omega
      have pl : 0 ≤ n44.fmod (((ls.map V.str).length : Nat) : Int) ∧ n44.fmod (((ls.map V.str).length : Nat) : Int) < (ls.length : Int) := by
        rw [List.length_map]
        exact ⟨Int.fmod_nonneg_of_pos _ (by omega), Int.fmod_lt_of_pos _ (by omega)⟩
      obtain ⟨x0, hx0, wx0, _⟩ := pick_at aw (i := 0) (by decide) (by omega)
      have m6 : 0 ≤ n45 % 6 ∧ n45 % 6 < 6 := ⟨Int.emod_nonneg _ (by decide), Int.emod_lt_of_pos _ (by decide)⟩
      -- a word is put in the place of another
      refine ⟨fun σ H' => ∃ (ls : List Str) (pc : Int), σ = [some (.ref sc), some (.ref q), some (.ref W0), some (.ref l), some (.int pc), none, none, none, none, none] ∧ Ex H2 H' ∧ H' l = some (.lst (ls.map V.str)) ∧ AllW ls ∧ 1 ≤ ls.length ∧ ls.length ≤ 4 ∧ 0 ≤ pc ∧ pc < ls.length, ?_, ?_⟩
      · refine ⟨_, rfl, q, _, _, _, rfl, rfl, N3.at_, g45, .inl ⟨_, rfl, _, _, rfl, rfl, (by show (0 : Int) < 6; decide), rfl, _, rfl, ?_⟩⟩
        refine ite2 (fun c2 => ?_) (fun c2 => ?_)
        case' refine_2 => exact ⟨ls, _, rfl, e3, ml, al, l1, l4, pl.1, pl.2⟩
        refine ⟨_, rfl, W0, _, _, _, rfl, rfl, SqL.of mW3, hx0, ?_⟩
        refine ⟨_, rfl, _, rfl, l, _, _, (n44.fmod (((ls.map V.str).length : Nat) : Int)).toNat, rfl, rfl, ml, by
          unfold ixN
          rw [if_pos pl.1, if_pos (by rw [List.length_map]; rw [List.length_map] at pl; exact pl.2)], ?_⟩
        refine ⟨ls.set (n44.fmod (((ls.map V.str).length : Nat) : Int)).toNat x0, _, rfl, e3.mut hl0, by rw [upd_same, List.map_set], fun y hy => ?_, by rw [List.length_set]; exact l1, by rw [List.length_set]; exact l4, pl.1, by rw [List.length_set]; exact pl.2⟩
        rcases List.mem_or_eq_of_mem_set hy with hy | hy
        · exact al y hy
        · rw [hy]
          exact wx0
      rintro σ H4 ⟨ls, pc, rfl, e4, ml, al, l1, l4, p0, p1⟩
      have N4 := N2.ex e4
      have mW4 := e4 _ _ m2
      -- a word is left out
      refine ⟨fun σ H' => ∃ (l : Addr) (ls : List Str) (pc : Int), σ = [some (.ref sc), some (.ref q), some (.ref W0), some (.ref l), some (.int pc), none, none, none, none, none] ∧ Ex H2 H' ∧ H2 l = none ∧ H' l = some (.lst (ls.map V.str)) ∧ AllW ls ∧ 1 ≤ ls.length ∧ ls.length ≤ 4, ?_, ?_⟩
      · have skip : ∃ (l' : Addr) (ls : List Str) (pc' : Int), [some (V.ref sc), some (.ref q), some (.ref W0), some (.ref l), some (.int pc), none, none, none, none, none] = [some (.ref sc), some (.ref q), some (.ref W0), some (.ref l'), some (.int pc'), none, none, none, none, none] ∧ Ex H2 H4 ∧ H2 l' = none ∧ H4 l' = some (.lst (ls.map V.str)) ∧ AllW ls ∧ 1 ≤ ls.length ∧ ls.length ≤ 4 := ⟨l, ls, pc, rfl, e4, hl0, ml, al, l1, l4⟩
        obtain ⟨n45, _, _, g45⟩ := N4.get (i := 45) (by decide) (by omega)
        refine ⟨_, rfl, q, _, _, _, rfl, rfl, N4.at_, g45, .inl ⟨_, rfl, _, _, rfl, rfl, (by show (0 : Int) < 6; decide), rfl, _, rfl, ?_⟩⟩
        refine ite2 (fun c3 => ?_) (fun c3 => skip)
        refine ⟨_, rfl, l, _, rfl, .inl (SqL.of ml), _, _, rfl, rfl, _, rfl, ?_⟩
        refine ite2 (fun c4 => ?_) (fun c4 => skip)
        have c4 : 1 < ((ls.map V.str).length : Int) := of_decide_eq_true c4
        rw [List.length_map] at c4
        obtain ⟨n, rfl⟩ : ∃ n : Nat, pc = (n : Int) := ⟨_, (Int.toNat_of_nonneg p0).symm⟩
        have hn : n < ls.length := by omega
        refine ⟨_, rfl, _, rfl, _, rfl, l, _, rfl, SqL.of ml, fun a1 ha1 => ?_⟩
        have e5 := Ex.new (o := .lst (cutV (ls.map V.str) none (some (n : Int)))) ha1
        have m5 : (upd H4 a1 (.lst (cutV (ls.map V.str) none (some (n : Int))))) a1 = some (.lst ((ls.take n).map V.str)) := by rw [upd_same, cutV_to, List.map_take]
        generalize upd H4 a1 (.lst (cutV (ls.map V.str) none (some (n : Int)))) = H5 at e5 m5
        refine ⟨_, rfl, _, rfl, _, _, rfl, rfl, _, rfl, l, _, rfl, SqL.of (e5 _ _ ml), fun a2 ha2 => ?_⟩
        have e6 := Ex.new (o := .lst (cutV (ls.map V.str) (some ((n : Int) + 1)) none)) ha2
        have m6' : (upd H5 a2 (.lst (cutV (ls.map V.str) (some ((n : Int) + 1)) none))) a2 = some (.lst ((ls.drop (n + 1)).map V.str)) := by rw [upd_same, show (n : Int) + 1 = ((n + 1 : Nat) : Int) by omega, cut_from, List.map_drop]
        generalize upd H5 a2 (.lst (cutV (ls.map V.str) (some ((n : Int) + 1)) none)) = H6 at e6 m6'
        refine ⟨a1, a2, _, _, rfl, rfl, e6 _ _ m5, m6', sz_of (by rw [List.length_map, List.length_map, List.length_take, List.length_drop]; omega), fun a3 ha3 => ?_⟩
        have e7 := Ex.new (o := .lst ((ls.take n).map V.str ++ (ls.drop (n + 1)).map V.str)) ha3
        refine ⟨a3, ls.take n ++ ls.drop (n + 1), _, rfl, ((e4.trans e5).trans e6).trans e7, none_ex ((e4.trans e5).trans e6) ha3, by rw [upd_same, List.map_append], fun y hy => ?_, by rw [List.length_append, List.length_take, List.length_drop]; omega, by rw [List.length_append, List.length_take, List.length_drop]; omega⟩
        rcases List.mem_append.mp hy with hy | hy
        · exact al y (List.mem_of_mem_take hy)
        · exact al y (List.mem_of_mem_drop hy)
      clear p0 p1 al l1 l4 ml
      rintro σ H5 ⟨l, ls, pc, rfl, e5, hl0, ml, al, l1, l4⟩
      have N5 := N2.ex e5
      have mW5 := e5 _ _ m2
      -- a word more
      refine ⟨fun σ H' => ∃ (l : Addr) (ls : List Str) (pc : Int), σ = [some (.ref sc), some (.ref q), some (.ref W0), some (.ref l), some (.int pc), none, none, none, none, none] ∧ Ex H2 H' ∧ H2 l = none ∧ H' l = some (.lst (ls.map V.str)) ∧ AllW ls ∧ 1 ≤ ls.length ∧ ls.length ≤ 5, ?_, ?_⟩
      · obtain ⟨n45, _, _, g45⟩ := N5.get (i := 45) (by decide) (by omega)
        refine ⟨_, rfl, q, _, _, _, rfl, rfl, N5.at_, g45, .inl ⟨_, rfl, _, _, rfl, rfl, (by show (0 : Int) < 6; decide), rfl, _, rfl, ?_⟩⟩
        refine ite2 (fun c3 => ?_) (fun c3 => ⟨l, ls, pc, rfl, e5, hl0, ml, al, l1, by omega⟩)
        refine ⟨_, rfl, .inl ⟨rfl, _, SqL.of ml⟩, _, rfl, W0, _, _, _, rfl, rfl, SqL.of mW5, hx0, l, _, _, rfl, rfl, ml, sz_lt (by rw [List.length_map]; omega), ?_⟩
        refine ⟨l, ls ++ [x0], pc, rfl, e5.mut hl0, hl0, by rw [upd_same, List.map_append]; rfl, fun y hy => ?_, by rw [List.length_append]; omega, by rw [List.length_append]; show _ + 1 ≤ _; omega⟩
        rcases List.mem_append.mp hy with hy | hy
        · exact al y hy
        · rw [List.mem_singleton.mp hy]
          exact wx0
      clear al l1 l4 ml hl0
      rintro σ H6 ⟨l, ls, pc, rfl, e6, hl0, ml, al, l1, l4⟩
      exact ⟨_, rfl, l, ls, _, _, rfl, e2.trans e6, SqL.of ml, al, l1, by omega⟩
    · clear e2 m2 aw lw lw1 lw7 N2 g41 g40
      rintro σ H3 ⟨wq, ws, v3, v4, rfl, e3, hW, aw, lw1, lw9⟩
      have N3 := N.ex e3
      obtain ⟨n46, _, _, g46⟩ := N3.get (i := 46) (by decide) (by omega)
      obtain ⟨n47, a47, b47, g47⟩ := N3.get (i := 47) (by decide) (by omega)
      obtain ⟨n48, a48, b48, g48⟩ := N3.get (i := 48) (by decide) (by omega)
      obtain ⟨n49, _, _, g49⟩ := N3.get (i := 49) (by decide) (by omega)
      obtain ⟨n50, _, _, g50⟩ := N3.get (i := 50) (by decide) (by omega)
      have lwm : (ws.map V.str).length = ws.length := List.length_map ..
      have m3 : ∀ x : Int, 0 ≤ x % 3 ∧ x % 3 < 3 := fun x => ⟨Int.emod_nonneg _ (by decide), Int.emod_lt_of_pos _ (by decide)⟩
      have z46 := m3 n46
      have z49 := m3 n49
      refine ⟨_, rfl, q, _, _, _, rfl, rfl, N3.at_, g46, .inl ⟨_, rfl, _, _, rfl, rfl, (by show (0 : Int) < 3; decide), " ", _, rfl, rfl, z46.1, by omega, by rw [len_sp]; decide, fun r er => ?_⟩⟩
      have er := sps_of er
      subst er
      refine ⟨_, rfl, wq, _, rfl, .inl hW, _, rfl, by omega, by omega, for_range (n := (((ws.map V.str).length : Nat) : Int).toNat) (fun i σ H' => ∃ (v6 : Option V) (z : Str), σ = [some (.ref sc), some (.ref q), some (.ref wq), v3, v4, some (.str z), v6, none, none, none] ∧ H' = H3 ∧ z.length ≤ 3 + i * 44 ∧ (i < ws.length → Open z (ws.take i)) ∧ (i = ws.length → ∃ ps, Line z ws ps)) ⟨none, _, rfl, rfl, by rw [sps_len]; omega, fun _ => open0 _, fun e => by omega⟩ ?_ ?_⟩
      · rintro i σ H4 hi ⟨v6, z, rfl, rfl, lz, op, _⟩
        rw [List.length_map] at hi
        have hi' : i < ws.length := by omega
        have op := op hi'
        obtain ⟨x, hx⟩ : ∃ x, ws[i]? = some x := ⟨_, List.getElem?_eq_getElem hi'⟩
        have wx := aw x (List.mem_of_getElem? hx)
        obtain ⟨ps, ln⟩ := op.word wx
        have ix : atI (ws.map V.str) (0 + (i : Int)) = some (.str x) := by rw [Int.zero_add]; exact atI_nat (by rw [List.getElem?_map, hx]; rfl)
        rw [← take_one hx] at ln
        have lx := wx.2.1
        have ll : (z ++ x).length ≤ 3 + i * 44 + 40 := by rw [Str.length_append]; omega
        refine ⟨_, rfl, _, rfl, _, rfl, wq, _, _, _, rfl, rfl, hW, ix, _, _, rfl, rfl, sz_of (by omega), ?_⟩
        refine ⟨_, rfl, _, _, rfl, rfl, _, rfl, wq, _, rfl, .inl hW, _, _, rfl, rfl, _, rfl, ?_⟩
        refine ite2 (fun c => ?_) (fun c => ?_)
        · have c : 0 + (i : Int) + 1 < ((ws.map V.str).length : Int) := of_decide_eq_true c
          rw [List.length_map] at c
          have z3 := m3 (n47 + (0 + (i : Int)) * n48)
          refine ⟨_, rfl, _, rfl, q, _, _, _, rfl, rfl, N3.at_, g47, _, rfl, _, rfl, q, _, _, _, rfl, rfl, N3.at_, g48, _, _, rfl, rfl, .inl ⟨by omega, by omega⟩, _, _, rfl, rfl, .inl ⟨_, rfl, _, _, rfl, rfl, (by show (0 : Int) < 3; decide), _, _, rfl, rfl, " ", _, rfl, rfl, by omega, by omega, by rw [len_sp]; decide, fun r er => ?_⟩⟩
          have er := sps_of er
          subst er
          have ls : (sps (1 + (n47 + (0 + (i : Int)) * n48) % 3).toNat).length ≤ 3 := by rw [sps_len]; omega
          refine ⟨_, _, rfl, rfl, sz_of (by omega), _, _, rfl, rfl, by rw [Str.length_append]; omega, fun _ => ln.open _ (by omega), fun e => by omega⟩
        · have c : ¬ (0 + (i : Int) + 1 < ((ws.map V.str).length : Int)) := fun h => c (decide_eq_true h)
          rw [List.length_map] at c
          refine ⟨_, _, rfl, rfl, by omega, fun e => by omega, fun e => ⟨ps, ?_⟩⟩
          rw [List.take_of_length_le (by omega)] at ln
          exact ln
      · rintro σ H4 ⟨v6, z, rfl, rfl, lz, _, ln⟩
        rw [List.length_map] at lz ln
        obtain ⟨ps, ln⟩ := ln (by omega)
        have lz : z.length ≤ 500 := by omega
        refine ⟨_, rfl, _, rfl, q, _, _, _, rfl, rfl, N3.at_, g49, .inl ⟨_, rfl, _, _, rfl, rfl, (by show (0 : Int) < 3; decide), " ", _, rfl, rfl, z49.1, by omega, by rw [len_sp]; decide, fun r er => ?_⟩⟩
        have er := sps_of er
        subst er
        have ln := ln.sps (n49 % 3).toNat
        have lz : (z ++ sps (n49 % 3).toNat).length ≤ 600 := by rw [Str.length_append, sps_len]; omega
        refine ⟨_, _, rfl, rfl, sz_of (by rw [Str.length_append] at lz; omega), ?_⟩
        generalize z ++ sps (n49 % 3).toNat = tx at ln lz
        refine ⟨_, rfl, tx, rfl, by omega, by have := ln.num; omega, fun told H5 e5 h5 m5 => ?_⟩
        rw [ln.split] at m5
        have wd : Dp K H5 (.ref wq) (.list (ws.map PyData.str)) := .lst (ex_l e5 hW) (dps_strs ws)
        have td : Dp K H5 (.ref told) (.list (ws.map PyData.str)) := .lst (SqL.of m5) (dps_strs ws)
        have shw := shaped_ws aw
        refine ⟨_, rfl, .ref told, .ty "list", _, _, true, rfl, .ty "list", .base (.lst m5), kit_ty (by decide +kernel), _, rfl, iteF ?_⟩
        refine ⟨_, rfl, _, rfl, _, _, td, wd, shw, shw, ?_⟩
        rw [eqv_self shw]
        refine ⟨_, rfl, iteF ?_⟩
        have z50 : 0 ≤ n50 % 4 ∧ n50 % 4 < 4 := ⟨Int.emod_nonneg _ (by decide), Int.emod_lt_of_pos _ (by decide)⟩
        have N5 := N3.ex e5
        refine ⟨_, rfl, q, _, _, _, rfl, rfl, N5.at_, g50, .inl ⟨_, rfl, _, _, rfl, rfl, (by show (0 : Int) < 4; decide), " ", _, rfl, rfl, z50.1, by omega, by rw [len_sp]; decide, fun r er => ?_⟩⟩
        have er := sps_of er
        subst er
        have l0 := line0 (n50 % 4).toNat
        refine ⟨_, rfl, by rw [sps_len]; omega, by have := l0.num; rw [sps_len] at this; omega, fun t0 H6 e6 h6 m6 => ?_⟩
        rw [l0.split] at m6
        refine ⟨Nat.zero_le _, fun b1 hb1 => ?_⟩
        generalize hH7 : upd H6 b1 _ = H7
        have e7 : Ex H6 H7 := by rw [← hH7]; exact Ex.new hb1
        have m7 : H7 b1 = some (.lst []) := by rw [← hH7]; exact upd_same
        have sh0 : SeqAt.shaped (.list []) = true := by decide +kernel
        refine ⟨_, _, .lst (SqL.of (e7 _ _ m6)) .nil, .lst (SqL.of m7) .nil, sh0, sh0, ?_⟩
        rw [eqv_self sh0]
        refine ⟨_, rfl, iteF ?_⟩
        have sq : toks (Txt.split "a\tb \t" " ") = (["a\tb", "\t"] : List Str) := by decide +kernel
        refine ⟨_, rfl, by decide +kernel, by decide +kernel, fun t1 H8 e8 h8 m8 => ?_⟩
        rw [sq] at m8
        refine ⟨by show 2 ≤ sizeLine; decide, fun b2 hb2 => ?_⟩
        generalize hH9 : upd H8 b2 _ = H9
        have e9 : Ex H8 H9 := by rw [← hH9]; exact Ex.new hb2
        have m9 : H9 b2 = some (.lst ((["a\tb", "\t"] : List Str).map V.str)) := by rw [← hH9]; exact upd_same
        have sh1 : SeqAt.shaped (.list ((["a\tb", "\t"] : List Str).map PyData.str)) = true := by decide +kernel
        refine ⟨_, _, .lst (SqL.of (e9 _ _ m8)) (dps_strs _), .lst (SqL.of m9) (dps_strs _), sh1, sh1, ?_⟩
        rw [eqv_self sh1]
        refine ⟨_, rfl, iteF ?_⟩
        have e39 := (((e5.trans e6).trans e7).trans e8).trans e9
        have hW9 := ex_l e39 hW
        refine ⟨_, rfl, wq, _, rfl, .inl hW9, fun ps hps => ?_⟩
        have e10 := Ex.new (o := .lst (ws.map V.str)) hps
        have m10 : (upd H9 ps (.lst (ws.map V.str))) ps = some (.lst (ws.map V.str)) := upd_same
        generalize upd H9 ps (.lst (ws.map V.str)) = H10 at e10 m10
        have hW10 := ex_l e10 hW9
        have ne : ws ≠ [] := fun e => by rw [e] at lw1; exact absurd lw1 (by decide)
        have hwl : ∀ w ∈ ws, w.length ≤ 10000 := fun w hw => by have := (aw w hw).2.1; omega
        have fin : ∀ H', Ex H10 H' → H' ps = some (.lst (ws.map V.str)) := fun H' e => e _ _ m10
        cases hd : rowD ws
        case' none =>
          refine ⟨_, rfl, ps, ws, rfl, SqL.of m10, hwl, by omega, fun _ H11 e11 => .inl ⟨rfl, ?_⟩, fun d hd' => by rw [hd] at hd'; cases hd'⟩
          refine ⟨_, rfl, wq, ws, rfl, ex_l e11 hW10, ne, hwl, by omega, fun _ H12 e12 => .inl ⟨rfl, ?_⟩, fun d hd' => by rw [hd] at hd'; cases hd'⟩
          have eF : Ex H10 H12 := e11.trans e12
          refine ⟨rfl, _, rfl, ?_⟩
          rw [decide_eq_true (rfl : V.str "None" = V.str "None")]
        case' some d =>
          have rp := rp_row aw hd
          refine ⟨_, rfl, ps, ws, rfl, SqL.of m10, hwl, by omega, (fun hd' => by rw [hd] at hd'; cases hd'), fun d' hd' u1 H11 e11 du1 => .inr ⟨u1, d', rfl, du1, ?_, ?_, ?_, ?_, ?_⟩⟩
          all_goals obtain rfl : d = d' := Option.some.inj (hd.symm.trans hd')
          case' refine_1 => exact rp.sh
          case' refine_2 => exact rp.nd
          case' refine_3 => exact rp.d20
          case' refine_4 => exact rp.fits
          refine ⟨_, rfl, wq, ws, rfl, ex_l e11 hW10, ne, hwl, by omega, (fun hd' => by rw [hd] at hd'; cases hd'), fun d' hd' u2 H12 e12 du2 => .inr ⟨u2, d', rfl, du2, ?_, ?_, ?_, ?_, ?_⟩⟩
          all_goals obtain rfl : d = d' := Option.some.inj (hd.symm.trans hd')
          case' refine_1 => exact rp.sh
          case' refine_2 => exact rp.nd
          case' refine_3 => exact rp.d20
          case' refine_4 => exact rp.fits
          have eF : Ex H10 H12 := e11.trans e12
          refine ⟨rfl, _, rfl, ?_⟩
          rw [decide_eq_true (rfl : V.str d.shown = V.str d.shown)]
        all_goals (
          refine iteF ?_
          refine ⟨_, rfl, ps, ws, rfl, SqL.of (eF _ _ m10), hwl, by omega, fun H13 e13 => ?_⟩
          refine ⟨_, rfl, .bl _, .ty "bool", _, _, true, rfl, .ty "bool", .base (.bl _), kit_ty (by decide +kernel), _, rfl, ?_⟩
          refine ⟨_, rfl, _, rfl, wq, ws, rfl, ex_l (eF.trans e13) hW10, ne, hwl, by omega, fun H14 e14 => ?_⟩
          rw [cmd_eq ne]
          have eZ := (eF.trans e13).trans e14
          refine ⟨rfl, ?_⟩
          rw [decide_eq_true (rfl : V.bl (lCmd ws) = V.bl (lCmd ws))]
          refine ⟨_, rfl, _, rfl, _, rfl, _, _, .lst (SqL.of (eZ _ _ m10)) (dps_strs ws), .lst (ex_l eZ hW10) (dps_strs ws), shw, shw, ?_⟩
          rw [eqv_self shw]
          exact k _)
end
end EV

set_option Elab.async false
set_option linter.all false
set_option maxRecDepth 100000
set_option maxHeartbeats 4000000
namespace EV
open PySem PySem.Spec PyProof.Rows L2 EvS Evl
theorem all_mk {l : PySem.W.OpenLaw} {w : World} {K : PySem.W.Frag} {h : Heap} {mg : Str → Option Value} {fa f_is_name f_is_number f_split_words f_is_command f_row_of f_has_form f__fits f__law_row f__law_numbers f__law_word f__law_is_name f__law_is_number f__law_form f__law_has_form f__law_command f__law_row_due f__law_formed f_law q_COMMANDS : Addr} (X : K.In h) (G : h.Ns mainGlobals mg) (hfa : mg "law" = some (.ref fa))
    {od_is_name an_is_name od_is_number an_is_number od_split_words an_split_words od_is_command an_is_command od_row_of an_row_of od_has_form an_has_form od__fits an__fits od__law_row an__law_row od__law_numbers an__law_numbers od__law_word an__law_word od__law_is_name an__law_is_name od__law_is_number an__law_is_number od__law_form an__law_form od__law_has_form an__law_has_form od__law_command an__law_command od__law_row_due an__law_row_due od__law_formed an__law_formed od_law an_law dd_qCOMMANDS : Option Addr} {sl_is_name sl_is_number sl_split_words sl_is_command sl_row_of sl_has_form sl__fits sl__law_row sl__law_numbers sl__law_word sl__law_is_name sl__law_is_number sl__law_form sl__law_has_form sl__law_command sl__law_row_due sl__law_formed sl_law sl_qCOMMANDS : Array (Option Value)} {oc_is_name kV_is_name dc_is_name pm_is_name cd_is_name ct_is_name oc_is_number kV_is_number dc_is_number pm_is_number cd_is_number ct_is_number oc_split_words kV_split_words dc_split_words pm_split_words cd_split_words ct_split_words oc_is_command kV_is_command dc_is_command pm_is_command cd_is_command ct_is_command oc_row_of kV_row_of dc_row_of pm_row_of cd_row_of ct_row_of oc_has_form kV_has_form dc_has_form pm_has_form cd_has_form ct_has_form oc__fits kV__fits dc__fits pm__fits cd__fits ct__fits oc__law_row kV__law_row dc__law_row pm__law_row cd__law_row ct__law_row oc__law_numbers kV__law_numbers dc__law_numbers pm__law_numbers cd__law_numbers ct__law_numbers oc__law_word kV__law_word dc__law_word pm__law_word cd__law_word ct__law_word oc__law_is_name kV__law_is_name dc__law_is_name pm__law_is_name cd__law_is_name ct__law_is_name oc__law_is_number kV__law_is_number dc__law_is_number pm__law_is_number cd__law_is_number ct__law_is_number oc__law_form kV__law_form dc__law_form pm__law_form cd__law_form ct__law_form oc__law_has_form kV__law_has_form dc__law_has_form pm__law_has_form cd__law_has_form ct__law_has_form oc__law_command kV__law_command dc__law_command pm__law_command cd__law_command ct__law_command oc__law_row_due kV__law_row_due dc__law_row_due pm__law_row_due cd__law_row_due ct__law_row_due oc__law_formed kV__law_formed dc__law_formed pm__law_formed cd__law_formed ct__law_formed oc_law kV_law dc_law pm_law cd_law ct_law : Value} {t_DIGITS t_LETTERS t_LONGEST_NAME t_MOST_DIGITS : Tok} {n_qCOMMANDS : Nat} {t0_COMMANDS t1_COMMANDS t2_COMMANDS t3_COMMANDS t4_COMMANDS t5_COMMANDS t6_COMMANDS t7_COMMANDS t8_COMMANDS t9_COMMANDS t10_COMMANDS t11_COMMANDS t12_COMMANDS t13_COMMANDS t14_COMMANDS : Tok}
    (a_is_name : PySem.W.nsIn K mainGlobals "is_name" = some (some (.ref f_is_name)))
    (l_is_name : K.lookup f_is_name = some ⟨oc_is_name, od_is_name, .func (PySem.W.fnOf "is_name" "is_name" (defArgs s_is_name) (defBody s_is_name) (defScope s_is_name) .none kV_is_name dc_is_name pm_is_name an_is_name cd_is_name ct_is_name), sl_is_name⟩)
    (c_is_name : PySem.W.codeIn K cd_is_name "is_name" = true)
    (k_is_name : PySem.W.keepIn K (.ref f_is_name) = true)
    (a_is_number : PySem.W.nsIn K mainGlobals "is_number" = some (some (.ref f_is_number)))
    (l_is_number : K.lookup f_is_number = some ⟨oc_is_number, od_is_number, .func (PySem.W.fnOf "is_number" "is_number" (defArgs s_is_number) (defBody s_is_number) (defScope s_is_number) .none kV_is_number dc_is_number pm_is_number an_is_number cd_is_number ct_is_number), sl_is_number⟩)
    (c_is_number : PySem.W.codeIn K cd_is_number "is_number" = true)
    (k_is_number : PySem.W.keepIn K (.ref f_is_number) = true)
    (a_split_words : PySem.W.nsIn K mainGlobals "split_words" = some (some (.ref f_split_words)))
    (l_split_words : K.lookup f_split_words = some ⟨oc_split_words, od_split_words, .func (PySem.W.fnOf "split_words" "split_words" (defArgs s_split_words) (defBody s_split_words) (defScope s_split_words) .none kV_split_words dc_split_words pm_split_words an_split_words cd_split_words ct_split_words), sl_split_words⟩)
    (c_split_words : PySem.W.codeIn K cd_split_words "split_words" = true)
    (k_split_words : PySem.W.keepIn K (.ref f_split_words) = true)
    (a_is_command : PySem.W.nsIn K mainGlobals "is_command" = some (some (.ref f_is_command)))
    (l_is_command : K.lookup f_is_command = some ⟨oc_is_command, od_is_command, .func (PySem.W.fnOf "is_command" "is_command" (defArgs s_is_command) (defBody s_is_command) (defScope s_is_command) .none kV_is_command dc_is_command pm_is_command an_is_command cd_is_command ct_is_command), sl_is_command⟩)
    (c_is_command : PySem.W.codeIn K cd_is_command "is_command" = true)
    (k_is_command : PySem.W.keepIn K (.ref f_is_command) = true)
    (a_row_of : PySem.W.nsIn K mainGlobals "row_of" = some (some (.ref f_row_of)))
    (l_row_of : K.lookup f_row_of = some ⟨oc_row_of, od_row_of, .func (PySem.W.fnOf "row_of" "row_of" (defArgs s_row_of) (defBody s_row_of) (defScope s_row_of) .none kV_row_of dc_row_of pm_row_of an_row_of cd_row_of ct_row_of), sl_row_of⟩)
    (c_row_of : PySem.W.codeIn K cd_row_of "row_of" = true)
    (k_row_of : PySem.W.keepIn K (.ref f_row_of) = true)
    (a_has_form : PySem.W.nsIn K mainGlobals "has_form" = some (some (.ref f_has_form)))
    (l_has_form : K.lookup f_has_form = some ⟨oc_has_form, od_has_form, .func (PySem.W.fnOf "has_form" "has_form" (defArgs s_has_form) (defBody s_has_form) (defScope s_has_form) .none kV_has_form dc_has_form pm_has_form an_has_form cd_has_form ct_has_form), sl_has_form⟩)
    (c_has_form : PySem.W.codeIn K cd_has_form "has_form" = true)
    (k_has_form : PySem.W.keepIn K (.ref f_has_form) = true)
    (a__fits : PySem.W.nsIn K mainGlobals "_fits" = some (some (.ref f__fits)))
    (l__fits : K.lookup f__fits = some ⟨oc__fits, od__fits, .func (PySem.W.fnOf "_fits" "_fits" (defArgs s__fits) (defBody s__fits) (defScope s__fits) .none kV__fits dc__fits pm__fits an__fits cd__fits ct__fits), sl__fits⟩)
    (c__fits : PySem.W.codeIn K cd__fits "_fits" = true)
    (k__fits : PySem.W.keepIn K (.ref f__fits) = true)
    (a__law_row : PySem.W.nsIn K mainGlobals "_law_row" = some (some (.ref f__law_row)))
    (l__law_row : K.lookup f__law_row = some ⟨oc__law_row, od__law_row, .func (PySem.W.fnOf "_law_row" "_law_row" (defArgs s__law_row) (defBody s__law_row) (defScope s__law_row) .none kV__law_row dc__law_row pm__law_row an__law_row cd__law_row ct__law_row), sl__law_row⟩)
    (c__law_row : PySem.W.codeIn K cd__law_row "_law_row" = true)
    (k__law_row : PySem.W.keepIn K (.ref f__law_row) = true)
    (a__law_numbers : PySem.W.nsIn K mainGlobals "_law_numbers" = some (some (.ref f__law_numbers)))
    (l__law_numbers : K.lookup f__law_numbers = some ⟨oc__law_numbers, od__law_numbers, .func (PySem.W.fnOf "_law_numbers" "_law_numbers" (defArgs s__law_numbers) (defBody s__law_numbers) (defScope s__law_numbers) .none kV__law_numbers dc__law_numbers pm__law_numbers an__law_numbers cd__law_numbers ct__law_numbers), sl__law_numbers⟩)
    (c__law_numbers : PySem.W.codeIn K cd__law_numbers "_law_numbers" = true)
    (k__law_numbers : PySem.W.keepIn K (.ref f__law_numbers) = true)
    (a__law_word : PySem.W.nsIn K mainGlobals "_law_word" = some (some (.ref f__law_word)))
    (l__law_word : K.lookup f__law_word = some ⟨oc__law_word, od__law_word, .func (PySem.W.fnOf "_law_word" "_law_word" (defArgs s__law_word) (defBody s__law_word) (defScope s__law_word) .none kV__law_word dc__law_word pm__law_word an__law_word cd__law_word ct__law_word), sl__law_word⟩)
    (c__law_word : PySem.W.codeIn K cd__law_word "_law_word" = true)
    (k__law_word : PySem.W.keepIn K (.ref f__law_word) = true)
    (a__law_is_name : PySem.W.nsIn K mainGlobals "_law_is_name" = some (some (.ref f__law_is_name)))
    (l__law_is_name : K.lookup f__law_is_name = some ⟨oc__law_is_name, od__law_is_name, .func (PySem.W.fnOf "_law_is_name" "_law_is_name" (defArgs s__law_is_name) (defBody s__law_is_name) (defScope s__law_is_name) .none kV__law_is_name dc__law_is_name pm__law_is_name an__law_is_name cd__law_is_name ct__law_is_name), sl__law_is_name⟩)
    (c__law_is_name : PySem.W.codeIn K cd__law_is_name "_law_is_name" = true)
    (k__law_is_name : PySem.W.keepIn K (.ref f__law_is_name) = true)
    (a__law_is_number : PySem.W.nsIn K mainGlobals "_law_is_number" = some (some (.ref f__law_is_number)))
    (l__law_is_number : K.lookup f__law_is_number = some ⟨oc__law_is_number, od__law_is_number, .func (PySem.W.fnOf "_law_is_number" "_law_is_number" (defArgs s__law_is_number) (defBody s__law_is_number) (defScope s__law_is_number) .none kV__law_is_number dc__law_is_number pm__law_is_number an__law_is_number cd__law_is_number ct__law_is_number), sl__law_is_number⟩)
    (c__law_is_number : PySem.W.codeIn K cd__law_is_number "_law_is_number" = true)
    (k__law_is_number : PySem.W.keepIn K (.ref f__law_is_number) = true)
    (a__law_form : PySem.W.nsIn K mainGlobals "_law_form" = some (some (.ref f__law_form)))
    (l__law_form : K.lookup f__law_form = some ⟨oc__law_form, od__law_form, .func (PySem.W.fnOf "_law_form" "_law_form" (defArgs s__law_form) (defBody s__law_form) (defScope s__law_form) .none kV__law_form dc__law_form pm__law_form an__law_form cd__law_form ct__law_form), sl__law_form⟩)
    (c__law_form : PySem.W.codeIn K cd__law_form "_law_form" = true)
    (k__law_form : PySem.W.keepIn K (.ref f__law_form) = true)
    (a__law_has_form : PySem.W.nsIn K mainGlobals "_law_has_form" = some (some (.ref f__law_has_form)))
    (l__law_has_form : K.lookup f__law_has_form = some ⟨oc__law_has_form, od__law_has_form, .func (PySem.W.fnOf "_law_has_form" "_law_has_form" (defArgs s__law_has_form) (defBody s__law_has_form) (defScope s__law_has_form) .none kV__law_has_form dc__law_has_form pm__law_has_form an__law_has_form cd__law_has_form ct__law_has_form), sl__law_has_form⟩)
    (c__law_has_form : PySem.W.codeIn K cd__law_has_form "_law_has_form" = true)
    (k__law_has_form : PySem.W.keepIn K (.ref f__law_has_form) = true)
    (a__law_command : PySem.W.nsIn K mainGlobals "_law_command" = some (some (.ref f__law_command)))
    (l__law_command : K.lookup f__law_command = some ⟨oc__law_command, od__law_command, .func (PySem.W.fnOf "_law_command" "_law_command" (defArgs s__law_command) (defBody s__law_command) (defScope s__law_command) .none kV__law_command dc__law_command pm__law_command an__law_command cd__law_command ct__law_command), sl__law_command⟩)
    (c__law_command : PySem.W.codeIn K cd__law_command "_law_command" = true)
    (k__law_command : PySem.W.keepIn K (.ref f__law_command) = true)
    (a__law_row_due : PySem.W.nsIn K mainGlobals "_law_row_due" = some (some (.ref f__law_row_due)))
    (l__law_row_due : K.lookup f__law_row_due = some ⟨oc__law_row_due, od__law_row_due, .func (PySem.W.fnOf "_law_row_due" "_law_row_due" (defArgs s__law_row_due) (defBody s__law_row_due) (defScope s__law_row_due) .none kV__law_row_due dc__law_row_due pm__law_row_due an__law_row_due cd__law_row_due ct__law_row_due), sl__law_row_due⟩)
    (c__law_row_due : PySem.W.codeIn K cd__law_row_due "_law_row_due" = true)
    (k__law_row_due : PySem.W.keepIn K (.ref f__law_row_due) = true)
    (a__law_formed : PySem.W.nsIn K mainGlobals "_law_formed" = some (some (.ref f__law_formed)))
    (l__law_formed : K.lookup f__law_formed = some ⟨oc__law_formed, od__law_formed, .func (PySem.W.fnOf "_law_formed" "_law_formed" (defArgs s__law_formed) (defBody s__law_formed) (defScope s__law_formed) .none kV__law_formed dc__law_formed pm__law_formed an__law_formed cd__law_formed ct__law_formed), sl__law_formed⟩)
    (c__law_formed : PySem.W.codeIn K cd__law_formed "_law_formed" = true)
    (k__law_formed : PySem.W.keepIn K (.ref f__law_formed) = true)
    (a_law : PySem.W.nsIn K mainGlobals "law" = some (some (.ref f_law)))
    (l_law : K.lookup f_law = some ⟨oc_law, od_law, .func (PySem.W.fnOf "law" "law" (defArgs s_law) (defBody s_law) (defScope s_law) .none kV_law dc_law pm_law an_law cd_law ct_law), sl_law⟩)
    (c_law : PySem.W.codeIn K cd_law "law" = true)
    (k_law : PySem.W.keepIn K (.ref f_law) = true)
    (z_abs : PySem.W.nsIn K mainGlobals "abs" = some none)
    (z_all : PySem.W.nsIn K mainGlobals "all" = some none)
    (z_any : PySem.W.nsIn K mainGlobals "any" = some none)
    (z_bool : PySem.W.nsIn K mainGlobals "bool" = some none)
    (z_int : PySem.W.nsIn K mainGlobals "int" = some none)
    (z_isinstance : PySem.W.nsIn K mainGlobals "isinstance" = some none)
    (z_len : PySem.W.nsIn K mainGlobals "len" = some none)
    (z_list : PySem.W.nsIn K mainGlobals "list" = some none)
    (z_max : PySem.W.nsIn K mainGlobals "max" = some none)
    (z_range : PySem.W.nsIn K mainGlobals "range" = some none)
    (z_repr : PySem.W.nsIn K mainGlobals "repr" = some none)
    (z_zip : PySem.W.nsIn K mainGlobals "zip" = some none)
    (z_sorted : PySem.W.nsIn K mainGlobals "sorted" = some none)
    (z_tuple : PySem.W.nsIn K mainGlobals "tuple" = some none)
    (z_set : PySem.W.nsIn K mainGlobals "set" = some none)
    (gq_COMMANDS : PySem.W.nsIn K mainGlobals "COMMANDS" = some (some (.ref q_COMMANDS)))
    (lq_COMMANDS : K.lookup q_COMMANDS = some ⟨.type "tuple", dd_qCOMMANDS, .seq #[.str "land NAME" t0_COMMANDS, .str "case NAME LAND" t1_COMMANDS, .str "start CASE PLACE MINUTE" t2_COMMANDS, .str "break CASE PLACE MINUTE" t3_COMMANDS, .str "free CASE PLACE" t4_COMMANDS, .str "ask CASE PLACE" t5_COMMANDS, .str "states CASE" t6_COMMANDS, .str "show CASE" t7_COMMANDS, .str "print LAND" t8_COMMANDS, .str "undo" t9_COMMANDS, .str "redo" t10_COMMANDS, .str "lands" t11_COMMANDS, .str "cases" t12_COMMANDS, .str "remove land NAME" t13_COMMANDS, .str "remove case NAME" t14_COMMANDS] n_qCOMMANDS, sl_qCOMMANDS⟩)
    (g_DIGITS : PySem.W.nsIn K mainGlobals "DIGITS" = some (some (.str "0123456789" t_DIGITS)))
    (g_LETTERS : PySem.W.nsIn K mainGlobals "LETTERS" = some (some (.str "abcdefghijklmnopqrstuvwxyz" t_LETTERS)))
    (g_LONGEST_NAME : PySem.W.nsIn K mainGlobals "LONGEST_NAME" = some (some (.int 12 t_LONGEST_NAME)))
    (g_MOST_DIGITS : PySem.W.nsIn K mainGlobals "MOST_DIGITS" = some (some (.int 6 t_MOST_DIGITS)))
    : ∀ base : Heap, K.In base → base.Ns mainGlobals mg → GrdX.Says l.prog w K mg base CX0 fa (spLaw K) := by
  have e := hfa.symm.trans (PySem.W.mg_of X G a_law)
  cases e
  have F_is_name := fun_mk (st := s_is_name) l_is_name c_is_name k_is_name
  have B_is_name := F_is_name.binds (ps := ["text"]) fun _ _ _ _ _ _ us hl => match us, hl with | [_], _ => rfl
  have F_is_number := fun_mk (st := s_is_number) l_is_number c_is_number k_is_number
  have B_is_number := F_is_number.binds (ps := ["word"]) fun _ _ _ _ _ _ us hl => match us, hl with | [_], _ => rfl
  have F_split_words := fun_mk (st := s_split_words) l_split_words c_split_words k_split_words
  have B_split_words := F_split_words.binds (ps := ["line"]) fun _ _ _ _ _ _ us hl => match us, hl with | [_], _ => rfl
  have F_is_command := fun_mk (st := s_is_command) l_is_command c_is_command k_is_command
  have B_is_command := F_is_command.binds (ps := ["words"]) fun _ _ _ _ _ _ us hl => match us, hl with | [_], _ => rfl
  have F_row_of := fun_mk (st := s_row_of) l_row_of c_row_of k_row_of
  have B_row_of := F_row_of.binds (ps := ["words"]) fun _ _ _ _ _ _ us hl => match us, hl with | [_], _ => rfl
  have F_has_form := fun_mk (st := s_has_form) l_has_form c_has_form k_has_form
  have B_has_form := F_has_form.binds (ps := ["words", "form"]) fun _ _ _ _ _ _ us hl => match us, hl with | [_, _], _ => rfl
  have F__fits := fun_mk (st := s__fits) l__fits c__fits k__fits
  have B__fits := F__fits.binds (ps := ["word", "slot"]) fun _ _ _ _ _ _ us hl => match us, hl with | [_, _], _ => rfl
  have F__law_row := fun_mk (st := s__law_row) l__law_row c__law_row k__law_row
  have B__law_row := F__law_row.binds (ps := ["cell", "many"]) fun _ _ _ _ _ _ us hl => match us, hl with | [_, _], _ => rfl
  have F__law_numbers := fun_mk (st := s__law_numbers) l__law_numbers c__law_numbers k__law_numbers
  have B__law_numbers := F__law_numbers.binds (ps := ["script", "many"]) fun _ _ _ _ _ _ us hl => match us, hl with | [_, _], _ => rfl
  have F__law_word := fun_mk (st := s__law_word) l__law_word c__law_word k__law_word
  have B__law_word := F__law_word.binds (ps := ["number", "more"]) fun _ _ _ _ _ _ us hl => match us, hl with | [_, _], _ => rfl
  have F__law_is_name := fun_mk (st := s__law_is_name) l__law_is_name c__law_is_name k__law_is_name
  have B__law_is_name := F__law_is_name.binds (ps := ["word"]) fun _ _ _ _ _ _ us hl => match us, hl with | [_], _ => rfl
  have F__law_is_number := fun_mk (st := s__law_is_number) l__law_is_number c__law_is_number k__law_is_number
  have B__law_is_number := F__law_is_number.binds (ps := ["word"]) fun _ _ _ _ _ _ us hl => match us, hl with | [_], _ => rfl
  have F__law_form := fun_mk (st := s__law_form) l__law_form c__law_form k__law_form
  have B__law_form := F__law_form.binds (ps := ["word"]) fun _ _ _ _ _ _ us hl => match us, hl with | [_], _ => rfl
  have F__law_has_form := fun_mk (st := s__law_has_form) l__law_has_form c__law_has_form k__law_has_form
  have B__law_has_form := F__law_has_form.binds (ps := ["words", "form"]) fun _ _ _ _ _ _ us hl => match us, hl with | [_, _], _ => rfl
  have F__law_command := fun_mk (st := s__law_command) l__law_command c__law_command k__law_command
  have B__law_command := F__law_command.binds (ps := ["words"]) fun _ _ _ _ _ _ us hl => match us, hl with | [_], _ => rfl
  have F__law_row_due := fun_mk (st := s__law_row_due) l__law_row_due c__law_row_due k__law_row_due
  have B__law_row_due := F__law_row_due.binds (ps := ["words"]) fun _ _ _ _ _ _ us hl => match us, hl with | [_], _ => rfl
  have F__law_formed := fun_mk (st := s__law_formed) l__law_formed c__law_formed k__law_formed
  have B__law_formed := F__law_formed.binds (ps := ["numbers", "words"]) fun _ _ _ _ _ _ us hl => match us, hl with | [_, _], _ => rfl
  have F_law := fun_mk (st := s_law) l_law c_law k_law
  have B_law := F_law.binds (ps := ["script"]) fun _ _ _ _ _ _ us hl => match us, hl with | [_], _ => rfl
  have T : Txt K mg { f_is_name := f_is_name, d_is_name := _, f_is_number := f_is_number, d_is_number := _, f_split_words := f_split_words, d_split_words := _, f_is_command := f_is_command, d_is_command := _, f_row_of := f_row_of, d_row_of := _, f_has_form := f_has_form, d_has_form := _, f__fits := f__fits, d__fits := _, f__law_row := f__law_row, d__law_row := _, f__law_numbers := f__law_numbers, d__law_numbers := _, f__law_word := f__law_word, d__law_word := _, f__law_is_name := f__law_is_name, d__law_is_name := _, f__law_is_number := f__law_is_number, d__law_is_number := _, f__law_form := f__law_form, d__law_form := _, f__law_has_form := f__law_has_form, d__law_has_form := _, f__law_command := f__law_command, d__law_command := _, f__law_row_due := f__law_row_due, d__law_row_due := _, f__law_formed := f__law_formed, d__law_formed := _, f_law := fa, d_law := _, q_COMMANDS := q_COMMANDS } := {
    F_is_name := F_is_name
    B_is_name := B_is_name
    k_is_name := k_is_name
    g_is_name := PySem.W.mg_of X G a_is_name
    F_is_number := F_is_number
    B_is_number := B_is_number
    k_is_number := k_is_number
    g_is_number := PySem.W.mg_of X G a_is_number
    F_split_words := F_split_words
    B_split_words := B_split_words
    k_split_words := k_split_words
    g_split_words := PySem.W.mg_of X G a_split_words
    F_is_command := F_is_command
    B_is_command := B_is_command
    k_is_command := k_is_command
    g_is_command := PySem.W.mg_of X G a_is_command
    F_row_of := F_row_of
    B_row_of := B_row_of
    k_row_of := k_row_of
    g_row_of := PySem.W.mg_of X G a_row_of
    F_has_form := F_has_form
    B_has_form := B_has_form
    k_has_form := k_has_form
    g_has_form := PySem.W.mg_of X G a_has_form
    F__fits := F__fits
    B__fits := B__fits
    k__fits := k__fits
    g__fits := PySem.W.mg_of X G a__fits
    F__law_row := F__law_row
    B__law_row := B__law_row
    k__law_row := k__law_row
    g__law_row := PySem.W.mg_of X G a__law_row
    F__law_numbers := F__law_numbers
    B__law_numbers := B__law_numbers
    k__law_numbers := k__law_numbers
    g__law_numbers := PySem.W.mg_of X G a__law_numbers
    F__law_word := F__law_word
    B__law_word := B__law_word
    k__law_word := k__law_word
    g__law_word := PySem.W.mg_of X G a__law_word
    F__law_is_name := F__law_is_name
    B__law_is_name := B__law_is_name
    k__law_is_name := k__law_is_name
    g__law_is_name := PySem.W.mg_of X G a__law_is_name
    F__law_is_number := F__law_is_number
    B__law_is_number := B__law_is_number
    k__law_is_number := k__law_is_number
    g__law_is_number := PySem.W.mg_of X G a__law_is_number
    F__law_form := F__law_form
    B__law_form := B__law_form
    k__law_form := k__law_form
    g__law_form := PySem.W.mg_of X G a__law_form
    F__law_has_form := F__law_has_form
    B__law_has_form := B__law_has_form
    k__law_has_form := k__law_has_form
    g__law_has_form := PySem.W.mg_of X G a__law_has_form
    F__law_command := F__law_command
    B__law_command := B__law_command
    k__law_command := k__law_command
    g__law_command := PySem.W.mg_of X G a__law_command
    F__law_row_due := F__law_row_due
    B__law_row_due := B__law_row_due
    k__law_row_due := k__law_row_due
    g__law_row_due := PySem.W.mg_of X G a__law_row_due
    F__law_formed := F__law_formed
    B__law_formed := B__law_formed
    k__law_formed := k__law_formed
    g__law_formed := PySem.W.mg_of X G a__law_formed
    F_law := F_law
    B_law := B_law
    k_law := k_law
    g_law := PySem.W.mg_of X G a_law
    z_abs := PySem.W.mg_none_of X G z_abs
    z_all := PySem.W.mg_none_of X G z_all
    z_any := PySem.W.mg_none_of X G z_any
    z_bool := PySem.W.mg_none_of X G z_bool
    z_int := PySem.W.mg_none_of X G z_int
    z_isinstance := PySem.W.mg_none_of X G z_isinstance
    z_len := PySem.W.mg_none_of X G z_len
    z_list := PySem.W.mg_none_of X G z_list
    z_max := PySem.W.mg_none_of X G z_max
    z_range := PySem.W.mg_none_of X G z_range
    z_repr := PySem.W.mg_none_of X G z_repr
    z_zip := PySem.W.mg_none_of X G z_zip
    z_sorted := PySem.W.mg_none_of X G z_sorted
    z_tuple := PySem.W.mg_none_of X G z_tuple
    z_set := PySem.W.mg_none_of X G z_set
    g_COMMANDS := PySem.W.mg_of X G gq_COMMANDS
    t_COMMANDS := fun H => .inr ⟨_, #[.str "land NAME" t0_COMMANDS, .str "case NAME LAND" t1_COMMANDS, .str "start CASE PLACE MINUTE" t2_COMMANDS, .str "break CASE PLACE MINUTE" t3_COMMANDS, .str "free CASE PLACE" t4_COMMANDS, .str "ask CASE PLACE" t5_COMMANDS, .str "states CASE" t6_COMMANDS, .str "show CASE" t7_COMMANDS, .str "print LAND" t8_COMMANDS, .str "undo" t9_COMMANDS, .str "redo" t10_COMMANDS, .str "lands" t11_COMMANDS, .str "cases" t12_COMMANDS, .str "remove land NAME" t13_COMMANDS, .str "remove case NAME" t14_COMMANDS], _, lq_COMMANDS, rfl, rfl, (by show 15 ≤ sizeLine; decide), .cons ⟨_, rfl⟩ (.cons ⟨_, rfl⟩ (.cons ⟨_, rfl⟩ (.cons ⟨_, rfl⟩ (.cons ⟨_, rfl⟩ (.cons ⟨_, rfl⟩ (.cons ⟨_, rfl⟩ (.cons ⟨_, rfl⟩ (.cons ⟨_, rfl⟩ (.cons ⟨_, rfl⟩ (.cons ⟨_, rfl⟩ (.cons ⟨_, rfl⟩ (.cons ⟨_, rfl⟩ (.cons ⟨_, rfl⟩ (.cons ⟨_, rfl⟩ (.nil)))))))))))))))⟩
    c_DIGITS := ⟨_, PySem.W.mg_of X G g_DIGITS⟩
    c_LETTERS := ⟨_, PySem.W.mg_of X G g_LETTERS⟩
    c_LONGEST_NAME := ⟨_, PySem.W.mg_of X G g_LONGEST_NAME⟩
    c_MOST_DIGITS := ⟨_, PySem.W.mg_of X G g_MOST_DIGITS⟩ }
  exact fun base _ _ => G_law T (fun s v => .of_eq rfl)
theorem walk {l : PySem.W.OpenLaw} {q : Program} {loose : List Str} {XP : (Str → Option Value) → Heap → Prop} {YP : World → Heap → Prop} {d : DefRec} {K : Params → PySem.W.Frag} (hn : l.most = some 63) (hdf : d.params.defaults = [])
    (hY : ∀ (w : World) (h : Heap), YP w h → (K w.params).In h)
    (F : ∀ (w : World) (mg : Str → Option Value) (fa : Addr) (h : Heap), (K w.params).In h → h.Ns mainGlobals mg → mg d.name = some (.ref fa) →
      ∀ base : Heap, (K w.params).In base → base.Ns mainGlobals mg → GrdX.Says l.prog w (K w.params) mg base CX0 fa (spLaw (K w.params))) :
    PySem.W.WalkO q loose XP YP l.row.toRowW d [] (fun f vs => PySem.call f vs) :=
  GrdX.walk (n := 63) (sp := fun w => spLaw (K w.params)) hn (by decide) hdf hY F (fun _ _ a ns hl hS => ⟨a, ns, rfl, hS, fun _ => rfl⟩)
end EV
open PySem PySem.W PyProof.Rows in
set_option maxRecDepth 100000 in
set_option maxHeartbeats 0 in
theorem PySem.Challenge.cw_everyfire_k53_words_of_a_session_holds : PySem.Challenge.rw_everyfire_k53_words_of_a_session.Holds := by
  w_on; o_law; k_head; (case hw => w_witness2)
  k_fill
  refine EV.walk (l := PySem.Challenge.rw_everyfire_k53_words_of_a_session) rfl rfl (fun w h Y => PySem.W.kIn_of Y) ?F
  case F =>
    intro w mg fa h KX G hmg
    refine' EV.all_mk KX G hmg ?a_is_name ?l_is_name ?c_is_name ?k_is_name ?a_is_number ?l_is_number ?c_is_number ?k_is_number ?a_split_words ?l_split_words ?c_split_words ?k_split_words ?a_is_command ?l_is_command ?c_is_command ?k_is_command ?a_row_of ?l_row_of ?c_row_of ?k_row_of ?a_has_form ?l_has_form ?c_has_form ?k_has_form ?a__fits ?l__fits ?c__fits ?k__fits ?a__law_row ?l__law_row ?c__law_row ?k__law_row ?a__law_numbers ?l__law_numbers ?c__law_numbers ?k__law_numbers ?a__law_word ?l__law_word ?c__law_word ?k__law_word ?a__law_is_name ?l__law_is_name ?c__law_is_name ?k__law_is_name ?a__law_is_number ?l__law_is_number ?c__law_is_number ?k__law_is_number ?a__law_form ?l__law_form ?c__law_form ?k__law_form ?a__law_has_form ?l__law_has_form ?c__law_has_form ?k__law_has_form ?a__law_command ?l__law_command ?c__law_command ?k__law_command ?a__law_row_due ?l__law_row_due ?c__law_row_due ?k__law_row_due ?a__law_formed ?l__law_formed ?c__law_formed ?k__law_formed ?a_law ?l_law ?c_law ?k_law ?z_abs ?z_all ?z_any ?z_bool ?z_int ?z_isinstance ?z_len ?z_list ?z_max ?z_range ?z_repr ?z_zip ?z_sorted ?z_tuple ?z_set ?gq_COMMANDS ?lq_COMMANDS ?g_DIGITS ?g_LETTERS ?g_LONGEST_NAME ?g_MOST_DIGITS
    (case a_is_name => k_is)
    (case l_is_name => k_is)
    (case c_is_name => k_is)
    (case k_is_name => k_is)
    (case a_is_number => k_is)
    (case l_is_number => k_is)
    (case c_is_number => k_is)
    (case k_is_number => k_is)
    (case a_split_words => k_is)
    (case l_split_words => k_is)
    (case c_split_words => k_is)
    (case k_split_words => k_is)
    (case a_is_command => k_is)
    (case l_is_command => k_is)
    (case c_is_command => k_is)
    (case k_is_command => k_is)
    (case a_row_of => k_is)
    (case l_row_of => k_is)
    (case c_row_of => k_is)
    (case k_row_of => k_is)
    (case a_has_form => k_is)
    (case l_has_form => k_is)
    (case c_has_form => k_is)
    (case k_has_form => k_is)
    (case a__fits => k_is)
    (case l__fits => k_is)
    (case c__fits => k_is)
    (case k__fits => k_is)
    (case a__law_row => k_is)
    (case l__law_row => k_is)
    (case c__law_row => k_is)
    (case k__law_row => k_is)
    (case a__law_numbers => k_is)
    (case l__law_numbers => k_is)
    (case c__law_numbers => k_is)
    (case k__law_numbers => k_is)
    (case a__law_word => k_is)
    (case l__law_word => k_is)
    (case c__law_word => k_is)
    (case k__law_word => k_is)
    (case a__law_is_name => k_is)
    (case l__law_is_name => k_is)
    (case c__law_is_name => k_is)
    (case k__law_is_name => k_is)
    (case a__law_is_number => k_is)
    (case l__law_is_number => k_is)
    (case c__law_is_number => k_is)
    (case k__law_is_number => k_is)
    (case a__law_form => k_is)
    (case l__law_form => k_is)
    (case c__law_form => k_is)
    (case k__law_form => k_is)
    (case a__law_has_form => k_is)
    (case l__law_has_form => k_is)
    (case c__law_has_form => k_is)
    (case k__law_has_form => k_is)
    (case a__law_command => k_is)
    (case l__law_command => k_is)
    (case c__law_command => k_is)
    (case k__law_command => k_is)
    (case a__law_row_due => k_is)
    (case l__law_row_due => k_is)
    (case c__law_row_due => k_is)
    (case k__law_row_due => k_is)
    (case a__law_formed => k_is)
    (case l__law_formed => k_is)
    (case c__law_formed => k_is)
    (case k__law_formed => k_is)
    (case a_law => k_is)
    (case l_law => k_is)
    (case c_law => k_is)
    (case k_law => k_is)
    (case z_abs => k_is)
    (case z_all => k_is)
    (case z_any => k_is)
    (case z_bool => k_is)
    (case z_int => k_is)
    (case z_isinstance => k_is)
    (case z_len => k_is)
    (case z_list => k_is)
    (case z_max => k_is)
    (case z_range => k_is)
    (case z_repr => k_is)
    (case z_zip => k_is)
    (case z_sorted => k_is)
    (case z_tuple => k_is)
    (case z_set => k_is)
    (case gq_COMMANDS => k_is)
    (case lq_COMMANDS => k_is)
    (case g_DIGITS => k_is)
    (case g_LETTERS => k_is)
    (case g_LONGEST_NAME => k_is)
    (case g_MOST_DIGITS => k_is)

