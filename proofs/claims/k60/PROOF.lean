import PyProof.Rows.All
import Wide.All
import OpenK.AllK
import Wide.FinOn
import PyProof.EqAt
import PyProof.EqKinds
import PyProof.TupleCall
import HandS.Base
import HandS.Call
import HandS.List
import HandS.ForMost
import HandS.ForExc
import HandS.RaiseMore
import HandS.FStr
import HandS.MakeKwOnly
import HandS.Property
import HandS.IsInst
import HandS.Evl
import HandS.Deep
import HandS.TupSets
import HandS.SetFor
import HandS.Iter
import PyProof.EnumMake
import KE.GoesEnum
import HandS.Text
import HandS.StrMore
import HandS.Walk
import HandS.Star
import HandS.NoneIn
import PySem.Challenge.RW_everyfire_k60_paper_texts
set_option Elab.async false
set_option linter.all false
set_option maxRecDepth 100000
set_option maxHeartbeats 4000000
/-! len(set(xs)) of any number of texts -/
namespace EvS
open PySem PySem.Spec PyProof.Rows
/-- the different ones, each where it came first -/
def dd {α : Type} [DecidableEq α] : List α → List α → List α
  | acc, [] => acc
  | acc, x :: r => dd (if x ∈ acc then acc else acc ++ [x]) r
theorem dd_len_le {α : Type} [DecidableEq α] : ∀ (l acc : List α), (dd acc l).length ≤ acc.length + l.length
  | [], acc => Nat.le_refl _
  | x :: r, acc => by
    unfold dd
    by_cases h : x ∈ acc
    · rw [if_pos h]
      have := dd_len_le r acc
      simp only [List.length_cons]
      omega
    · rw [if_neg h]
      have := dd_len_le r (acc ++ [x])
      simp only [List.length_cons, List.length_append, List.length_nil] at this ⊢
      omega
theorem dd_len_eq {α : Type} [DecidableEq α] : ∀ (l acc : List α), acc.Nodup → ((dd acc l).length = acc.length + l.length ↔ (acc ++ l).Nodup)
  | [], acc, h => by simp [dd, h]
  | x :: r, acc, h => by
    unfold dd
    by_cases hx : x ∈ acc
    · rw [if_pos hx]
      have h1 := dd_len_le r acc
      constructor
      · intro e
        simp only [List.length_cons] at e
        omega
      · intro e
        have := (List.nodup_append.mp e).2.2 x hx x (List.mem_cons_self ..)
        exact absurd rfl this
    · rw [if_neg hx]
      have hn : (acc ++ [x]).Nodup := by
        rw [List.nodup_append]
        refine ⟨h, by simp, fun a ha b hb => ?_⟩
        rw [List.mem_singleton] at hb
        subst hb
        exact fun e => hx (e ▸ ha)
      have ih := dd_len_eq r (acc ++ [x]) hn
      simp only [List.length_cons, List.length_append, List.length_nil, List.append_assoc, List.singleton_append] at ih ⊢
      rw [← ih]
      omega
theorem dd_snoc {α : Type} [DecidableEq α] (x : α) : ∀ (l acc : List α), dd acc (l ++ [x]) = (if x ∈ dd acc l then dd acc l else dd acc l ++ [x])
  | [], acc => rfl
  | y :: r, acc => by
    show dd _ (r ++ [x]) = _
    rw [dd_snoc x r]
    rfl
section
variable {prog : Program} {w : World} {A : Around} {R : Result → Shared → Prop} {I : Addr} {fp wr : List Addr} {G : Array GenState → Array GenState → Prop} {n : Nat} {P : Nat → Value → Prop} {St : Nat → Shared → Prop}
variable {κ : Type} [DecidableEq κ] {kd : KeyKind prog w κ}
theorem turnK (W : WalksS prog w A.in1 I fp wr G n P St) (S : Addr) (hSf : S ∉ fp) (ks : List κ) (hlen : ks.length = n) (hmax : n < 4000)
    (hat : ∀ i v k, P i v → ks[i]? = some k → kd.is k v = true ∧ v.scannable = true) :
    ∀ (m i : Nat) (s : Shared), n - i = m → i ≤ n → St i s →
      Heap.SetOf kd s.heap S (fun k => decide (k ∈ dd [] (ks.take i))) (dd [] (ks.take i)).length →
      (∀ s', Moved (S :: wr) G s s' → Heap.SetOf kd s'.heap S (fun k => decide (k ∈ dd [] ks)) (dd [] ks).length → R (.ok (.ret .none)) s') →
      codeAny (model prog w) A (.builtin "set.update.loop" ⟨[.ref S, .ref I], []⟩) R s := by
  have nw : S ∉ wr := fun q => hSf (W.sub _ q)
  have up : ∀ c ∈ wr, c ∈ S :: wr := fun c hc => List.mem_cons_of_mem _ hc
  intro m
  induction m with
  | zero =>
    intro i s hm hi hst hS hR
    obtain rfl : i = n := by omega
    refine codeAny_builtin PyProof.Rows.F.entry_set_update_loop ?_
    rw [Around.under_plainId PyProof.Rows.F.plain_set_update_loop _]
    show wpAny _ A.in1 (pyNext (.ref I) >>= _) _ _ s
    refine wpAny_bind (W.done s _ _ hst fun s1 mv => ?_)
    refine wpAny_pure (hR s1 (mv.mono up) ?_)
    rw [← hlen, List.take_length] at hS
    obtain ⟨o, es, ep, t, ho, more⟩ := hS
    exact ⟨o, es, ep, t, mv.heap S _ nw ho, more⟩
  | succ m ih =>
    intro i s hm hi hst hS hR
    have lt : i < n := by omega
    obtain ⟨k0, hk0⟩ : ∃ k, ks[i]? = some k := ⟨ks[i]'(by omega), List.getElem?_eq_getElem (by omega)⟩
    refine codeAny_builtin PyProof.Rows.F.entry_set_update_loop ?_
    rw [Around.under_plainId PyProof.Rows.F.plain_set_update_loop _]
    show wpAny _ A.in1 (pyNext (.ref I) >>= _) _ _ s
    refine wpAny_bind (W.item i s _ _ lt hst fun v s1 hP hst1 mv => ?_)
    obtain ⟨hv, hsc⟩ := hat i v k0 hP hk0
    have hS1 : Heap.SetOf kd s1.heap S (fun k => decide (k ∈ dd [] (ks.take i))) (dd [] (ks.take i)).length := by
      obtain ⟨o, es, ep, t, ho, more⟩ := hS
      exact ⟨o, es, ep, t, mv.heap S _ nw ho, more⟩
    show wpAny _ A.in1 (holding [v] (setAdd S v) >>= _) _ _ s1
    refine wpAny_bind (wpAny_holding ?_)
    unfold setAdd
    refine wpAny_holding ?_
    refine wpAny_bind (kd.pyHash (k := k0) hv ?_)
    have small : (dd [] (ks.take i)).length + 1 < scanBound := by
      have q := dd_len_le (ks.take i) []
      rw [List.length_take, List.length_nil] at q
      unfold scanBound
      omega
    refine wpAny_setAddHashed_of (knd := kd) (s := { s1 with toks := s1.toks + 1 }) hv hsc hS1 small fun h2 sb hS2 => ?_
    have et : ks.take (i + 1) = ks.take i ++ [k0] := by
      rw [List.take_add_one, hk0] <;> rfl
    have hS3 : Heap.SetOf kd h2 S (fun k => decide (k ∈ dd [] (ks.take (i + 1)))) (dd [] (ks.take (i + 1))).length := by
      rw [et, dd_snoc]
      by_cases hin : k0 ∈ dd [] (ks.take i)
      · rw [if_pos hin]
        rw [if_pos (decide_eq_true hin)] at hS2
        have e : (fun k' => decide (k' ∈ dd [] (ks.take i)) || decide (k' = k0)) = fun k => decide (k ∈ dd [] (ks.take i)) := by
          funext k'
          by_cases q : k' = k0
          · subst q
            simp [hin]
          · simp [q]
        rw [e] at hS2
        exact hS2
      · rw [if_neg hin]
        rw [if_neg (by simpa using hin)] at hS2
        have e : (fun k' => decide (k' ∈ dd [] (ks.take i)) || decide (k' = k0)) = fun k => decide (k ∈ dd [] (ks.take i) ++ [k0]) := by
          funext k'
          simp [List.mem_append]
        rw [e] at hS2
        rw [List.length_append]
        exact hS2
    refine wpAny_pure ⟨plainId_quiet PyProof.Rows.F.plain_set_update_loop _, ih (i + 1) _ (by omega) lt (W.frame _ s1 _ _ hst1 (Nat.le_succ _) fun c hc o e => ?_) hS3 fun s3 mv3 hS4 => ?_⟩
    · rw [sb.2 c (fun z : c = S => hSf (by rw [← z]; exact hc))]
      exact e
    · refine hR s3 (Moved.trans W.gtrans ((mv.mono up).then_heap (Nat.le_succ _) fun c o hc e => ?_) mv3) hS4
      rw [sb.2 c (fun z : c = S => hc (by rw [z]; exact List.mem_cons_self))]
      exact e
end
section
variable {prog : Program} {w : World} {A : Around} {E : Value → Shared → Prop} {s : Shared} {κ : Type} [DecidableEq κ] {kd : KeyKind prog w κ}
def blankSet (led : Bool) : Obj := { cls := .type "set", dict := none, data := .set #[] 0 (.fresh 0 0 led) }
/-- set(l), l a list (isT false) or a tuple (isT true) -/
theorem call_setK {l : Addr} {its : Array Value} {ks : List κ} {Q : Value → Shared → Prop} (hA : A.handled = none) (hl : s.heap.IsList l its ∨ s.heap.IsTuple l its)
    (hlen : ks.length = its.size) (hmax : its.size < 4000) (hat : ∀ (i : Nat) (v : Value) (k : κ), its[i]? = some v → ks[i]? = some k → kd.is k v = true ∧ v.scannable = true)
    (h : ∀ (h' : Heap) (tk : Nat), Heap.SetOf kd h' s.heap.objs.size (fun k => decide (k ∈ dd [] ks)) (dd [] ks).length →
      (∀ c o, c < s.heap.objs.size → s.heap.get? c = some o → h'.get? c = some o) → Q (.ref s.heap.objs.size) { s with heap := h', toks := tk }) :
    wpAny (model prog w) A (call (.type "set") [.ref l]) Q E s := by
  obtain ⟨c, tl, hmro⟩ := PySem.F.called_set.mro
  have hmade := PySem.F.called_set.made
  have hsub := PySem.F.called_set.sub
  refine wpAny_call (codeAny_of_tree ?_)
  show wpAny _ _ (callAny (.type "set") _) _ _ _
  refine wpAny_pure ⟨Code.quiet_builtin _ (by decide +kernel), codeAny_builtin PySem.F.entry_type_call ?_⟩
  rw [Around.under_plain (weight_type_call_type "set" [.ref l] []) rfl]
  have h1 := PySem.F.called_set.notType
  have h2 := PySem.F.called_set.canCreate
  have hct := PySem.F.typeCall_set_1 (.ref l)
  repeat (any_goals (first | assumption | wp_step))
  refine codeAny_mono (code_set_new_1 (.ref l) (E := E) (Q₁ := fun b s₁ => ∃ led : Bool, b = .ref s.heap.objs.size ∧ s₁ = { s with heap := s.heap.push (blankSet led) }) fun led => ⟨led, rfl, rfl⟩) fun r s₁ hr => ?_
  cases r with
  | error e => exact hr
  | ok fl =>
    cases fl with
    | ret b =>
      obtain ⟨led, rfl, rfl⟩ := hr
      have hS : (s.heap.push (blankSet led)).get? s.heap.objs.size = some (blankSet led) := Heap.get?_push_size _ rfl
      have hT : Shared.TypeIs { s with heap := s.heap.push (blankSet led) } (.ref s.heap.objs.size) "set" := ⟨_, hS, rfl⟩
      have hli := PySem.F.called_set.init.lookup
      have hbi := PySem.F.called_set.init.bind (.ref s.heap.objs.size)
      repeat (any_goals (first | assumption | wp_step))
      refine codeAny_mono (codeAny_call_builtin (R := wants (fun r s₂ => r = .none ∧ ∃ h' tk, s₂ = { s with heap := h', toks := tk } ∧
          Heap.SetOf kd h' s.heap.objs.size (fun k => decide (k ∈ dd [] ks)) (dd [] ks).length ∧
          (∀ c o, c < s.heap.objs.size → s.heap.get? c = some o → h'.get? c = some o)) E) PySem.F.called_set.init.plain PySem.F.entry_set_init (check_set_init_1 hT ?_)) fun r₂ s₂ hr₂ => ?_
      · have fin : ∀ (s1 : Shared) (I : Addr), I ≠ s.heap.objs.size → s.heap.objs.size < I → Moved [s.heap.objs.size, I] (fun a b => a = b) { s with heap := (s.heap.push (blankSet led)) } s1 → True := fun _ _ _ _ _ => trivial
        clear fin
        rcases hl with hl | hl
        · obtain ⟨ol, hol, hcl, nl, hdl⟩ := hl
          obtain ⟨ocls, odict, odata, oslots⟩ := ol
          simp only at hcl hdl
          subst hcl; subst hdl
          have hol' : (s.heap.push (blankSet led)).get? l = some { cls := .type "list", dict := odict, data := .seq its nl, slots := oslots } := Heap.get?_push_of_some _ hol
          have hsls := PySem.F.sub_list_set
          have hslf := PySem.F.sub_list_frozenset
          have hne : (Value.type "list" == Value.type "dict") = false := by decide
          have hl1 : (s.heap.push (blankSet led)).IsList l its := ⟨_, hol', rfl, nl, rfl⟩
          unfold Builtin.«set.__init__» noKeywords Builtin.Frozenset.updateFrom
          generalize hPI : pyIter = PI
          wp_walk
          subst hPI
          refine wpAny_pyIter_list hl1 ?_
          refine wpAny_bind (wpAny_runValue ?_)
          have hlS : l < s.heap.objs.size := Heap.lt_size hol
          have h3 : A.in1.in1.in1.handled = none := by simp [hA]
          have nI : l ≠ (s.heap.push (blankSet led)).objs.size := by
            rw [Heap.size_push]; exact Nat.ne_of_lt (Nat.lt_succ_of_lt hlS)
          have nS : s.heap.objs.size ∉ [(s.heap.push (blankSet led)).objs.size, l] := by
            rw [Heap.size_push]; simp only [List.mem_cons, List.mem_singleton, List.not_mem_nil, or_false, not_or]
            exact ⟨Nat.ne_of_lt (Nat.lt_succ_self _), Nat.ne_of_gt hlS⟩
          refine turnK (kd := kd) ((Walks.list h3 _ l nI its).toS) s.heap.objs.size nS ks hlen hmax (fun i v k hv hk => hat i v k hv hk) (its.size - 0) 0 _ (by omega) (Nat.zero_le _) ⟨⟨_, Heap.get?_push_size _ rfl, rfl, rfl⟩, (hl1.push _)⟩ ?hS0 ?hR
          case hS0 =>
            have hget : ((s.heap.push (blankSet led)).push { cls := .type "list_iterator", data := .fields #[.ref l, .int 0 0] }).get? s.heap.objs.size = some (blankSet led) := Heap.get?_push_of_some _ hS
            exact PyProof.Rows.SetOf_congr ((PyProof.Rows.setObjOf_fresh (knd := kd) led).setOf hget (by unfold scanBound; omega)) (fun _ => rfl) rfl
          case hR =>
            intro s' mv hS'
            obtain ⟨h', g', d', tk', os'⟩ := s'
            obtain rfl : g' = s.gens := mv.gens
            obtain rfl : d' = s.drawn := mv.drawn
            obtain rfl : os' = s.os := mv.os
            show wpAny _ _ _ _ _ _
            refine wpAny_pure ?_
            show wpAny _ _ (ret Value.none) _ _ _
            refine wpAny_pure ⟨rfl, h', tk', rfl, hS', fun c o hc e => ?_⟩
            have n1 : c ≠ s.heap.objs.size := Nat.ne_of_lt hc
            have n2 : c ≠ (s.heap.push (blankSet led)).objs.size := by
              rw [Heap.size_push]; exact Nat.ne_of_lt (Nat.lt_succ_of_lt hc)
            exact mv.heap c o (by simp only [List.mem_cons, List.mem_singleton, List.not_mem_nil, or_false, not_or]; exact ⟨n1, n2⟩) (Heap.get?_push_of_some _ (Heap.get?_push_of_some _ e))
        · obtain ⟨ol, hol, hcl, nl, hdl⟩ := hl
          obtain ⟨ocls, odict, odata, oslots⟩ := ol
          simp only at hcl hdl
          subst hcl; subst hdl
          have hol' : (s.heap.push (blankSet led)).get? l = some { cls := .type "tuple", dict := odict, data := .seq its nl, slots := oslots } := Heap.get?_push_of_some _ hol
          have hsls := PySem.F.sub_tuple_set
          have hslf := PySem.F.sub_tuple_frozenset
          have hne : (Value.type "tuple" == Value.type "dict") = false := by decide
          have hl1 : (s.heap.push (blankSet led)).IsTuple l its := ⟨_, hol', rfl, nl, rfl⟩
          unfold Builtin.«set.__init__» noKeywords Builtin.Frozenset.updateFrom
          generalize hPI : pyIter = PI
          wp_walk
          subst hPI
          refine wpAny_pyIter_tuple hl1 ?_
          refine wpAny_bind (wpAny_runValue ?_)
          have hlS : l < s.heap.objs.size := Heap.lt_size hol
          have h3 : A.in1.in1.in1.handled = none := by simp [hA]
          have nI : l ≠ (s.heap.push (blankSet led)).objs.size := by
            rw [Heap.size_push]; exact Nat.ne_of_lt (Nat.lt_succ_of_lt hlS)
          have nS : s.heap.objs.size ∉ [(s.heap.push (blankSet led)).objs.size, l] := by
            rw [Heap.size_push]; simp only [List.mem_cons, List.mem_singleton, List.not_mem_nil, or_false, not_or]
            exact ⟨Nat.ne_of_lt (Nat.lt_succ_self _), Nat.ne_of_gt hlS⟩
          refine turnK (kd := kd) ((Walks.tuple h3 _ l nI its).toS) s.heap.objs.size nS ks hlen hmax (fun i v k hv hk => hat i v k hv hk) (its.size - 0) 0 _ (by omega) (Nat.zero_le _) ⟨⟨_, Heap.get?_push_size _ rfl, rfl, rfl⟩, (hl1.push _)⟩ ?hS0 ?hR
          case hS0 =>
            have hget : ((s.heap.push (blankSet led)).push { cls := .type "tuple_iterator", data := .fields #[.ref l, .int 0 0] }).get? s.heap.objs.size = some (blankSet led) := Heap.get?_push_of_some _ hS
            exact PyProof.Rows.SetOf_congr ((PyProof.Rows.setObjOf_fresh (knd := kd) led).setOf hget (by unfold scanBound; omega)) (fun _ => rfl) rfl
          case hR =>
            intro s' mv hS'
            obtain ⟨h', g', d', tk', os'⟩ := s'
            obtain rfl : g' = s.gens := mv.gens
            obtain rfl : d' = s.drawn := mv.drawn
            obtain rfl : os' = s.os := mv.os
            show wpAny _ _ _ _ _ _
            refine wpAny_pure ?_
            show wpAny _ _ (ret Value.none) _ _ _
            refine wpAny_pure ⟨rfl, h', tk', rfl, hS', fun c o hc e => ?_⟩
            have n1 : c ≠ s.heap.objs.size := Nat.ne_of_lt hc
            have n2 : c ≠ (s.heap.push (blankSet led)).objs.size := by
              rw [Heap.size_push]; exact Nat.ne_of_lt (Nat.lt_succ_of_lt hc)
            exact mv.heap c o (by simp only [List.mem_cons, List.mem_singleton, List.not_mem_nil, or_false, not_or]; exact ⟨n1, n2⟩) (Heap.get?_push_of_some _ (Heap.get?_push_of_some _ e))
      · cases r₂ with
        | error e => exact hr₂
        | ok fl₂ =>
          cases fl₂ with
          | ret r =>
            obtain ⟨rfl, h', tk, rfl, hS', hk'⟩ := hr₂
            repeat (any_goals (first | assumption | wp_step))
            exact h _ _ hS' hk'
          | _ => exact hr₂.elim
    | _ => exact hr.elim
end
end EvS
namespace L2
open PySem PySem.Spec PyProof.Rows EvS
section
variable {X : Cx}
/-- len(set(xs)), xs a list or a tuple of texts -/
def tLenSetS (K : PySem.W.Frag) (ta : TE) : TE := fun σ H Q => ta σ H fun x H1 => ∃ (l : Addr) (xs : List Str), x = .ref l ∧ (SqL K H1 l (xs.map V.str) ∨ SqT K H1 l (xs.map V.str)) ∧ xs.length < 4000 ∧ Q (.int ((dd [] xs).length : Nat)) H1
theorem texts_at : ∀ {xs : List Str} {us : List Value}, Vals (xs.map V.str) us → ∀ (i : Nat) (v : Value) (k : Str), us[i]? = some v → xs[i]? = some k → ∃ t, v = Value.str k t
  | [], _, _, i, v, k, _, h => by simp at h
  | x :: xs, _, .cons r t, 0, v, k, h1, h2 => by
    obtain ⟨tk, rfl⟩ := r
    simp only [List.getElem?_cons_zero, Option.some.injEq] at h1 h2
    subst h1 h2
    exact ⟨tk, rfl⟩
  | x :: xs, _, .cons r t, i + 1, v, k, h1, h2 => by
    simp only [List.getElem?_cons_succ] at h1 h2
    exact texts_at t i v k h1 h2
theorem pe_lenSetS {a : Expr} {ta : TE} {p p2 q pos : Pos} (hc : X.calm = true) (hg : Gl X "len") (hm : X.mg "len" = none) (hg2 : Gl X "set") (hm2 : X.mg "set" = none) (ha : PE X a ta)
    (na : starEach [a] X.env = (false, eval a X.env) :: starEach [] X.env := by rfl) : PE X (.Call (.Name "len" p) [.Call (.Name "set" p2) [a] [] q] [] pos) (tLenSetS X.K ta) := by
  refine ⟨fun pins s σ H Q I h => ?_⟩
  refine Call_ (ld_blt I hg hm boot_len ?_)
  refine PyProof.Rows.callWith_builtin1 (PyProof.Rows.args_cons ?_ rfl) rfl rfl
  refine Call_ (ld_blt I hg2 hm2 boot_set ?_)
  refine PyProof.Rows.callWith_type1 (PyProof.Rows.args_cons (thn (ha.run pins s σ H _ I h) fun v s1 ⟨x, H1, I1, r1, q1⟩ => PyProof.Rows.args_nil ?_) na) na rfl
  obtain ⟨l, xs, rfl, hq, hmax, q1⟩ := q1
  cases r1
  have go : ∀ (its : List Value), Vals (xs.map V.str) its → (s1.heap.IsList l its.toArray ∨ s1.heap.IsTuple l its.toArray) →
      wpAny (model X.prog X.w) X.A (call (.type "set") [.ref l]) (fun v s₂ => wpAny (model X.prog X.w) X.A (spliced (backTo pos (starEach [] X.env))) (fun vs s₃ => wpAny (model X.prog X.w) X.A (call (.builtin "len") (v :: vs)) (EP X pins σ Q) X.xe s₃) X.xe s₂) X.xe s1 := fun its r pl => by
    have hl : its.toArray.size = xs.length := by rw [List.size_toArray, ← r.length, List.length_map]
    refine call_setK (kd := PySem.strKind X.prog X.w) (ks := xs) (I1.ok.hd hc) pl hl.symm (by rw [hl]; exact hmax) (fun i v k hv hk => ?_) fun h' tk hS hk => ?_
    · obtain ⟨t, rfl⟩ := texts_at r i v k (by rw [List.getElem?_toArray] at hv; exact hv) hk
      exact ⟨strKind_is _ _ _ _, rfl⟩
    · refine PyProof.Rows.args_nil ?_
      obtain ⟨o, es, ep, t, ho, hex, hd, _, _, _, hf, hn⟩ := hS
      have I2 : Inv X pins σ H1 { s1 with heap := h', toks := tk } := I1.kept fun c o e => hk c o (Heap.lt_size e) e
      have sm := dd_len_le xs []
      rw [List.length_nil] at sm
      exact call_len_set ho hex hd hf (by rw [hn] <;> omega) ⟨.int ((dd [] xs).length : Nat), H1, I2.tok _, ⟨_, by rw [hn]⟩, q1⟩
  rcases hq with hq | hq
  · obtain ⟨its, r, pl, hz⟩ := I1.list hq
    exact go its r (.inl pl.isList)
  · obtain ⟨its, r, pl, hz⟩ := I1.tuple hq
    exact go its r (.inr pl)
end
end L2

set_option Elab.async false
set_option linter.all false
set_option maxRecDepth 100000
set_option maxHeartbeats 4000000
namespace EvS
open PySem PySem.Spec PyProof.Rows L2
section
variable {X : Cx}
def rTupK (K : PySem.W.Frag) : List V → Hp → VK → Prop := fun xs H Q => ∃ p ys, xs = [.ref p] ∧ ((SqL K H p ys ∧ ∀ l, H l = none → Q (.ref l) (upd H l (.tup ys))) ∨ (SqT K H p ys ∧ Q (.ref p) H))
theorem call_tupK : CallR X (.type "tuple") (rTupK X.K) := call_tuple_of
/-- tuple(xs), xs a list or a tuple -/
def rTupS (K : PySem.W.Frag) : List V → Hp → VK → Prop := fun xs H Q => ∃ p ys, xs = [.ref p] ∧ (SqL K H p ys ∨ SqT K H p ys) ∧ ∀ u H', Evl.Ex H H' → SqT K H' u ys → Q (.ref u) H'
theorem call_tupS : CallR X (.type "tuple") (rTupS X.K) := fun pins s σ H xs us Q I r h => by
  obtain ⟨p, ys, e, hs, q⟩ := h
  refine call_tuple_of pins s σ H xs us Q I r ⟨p, ys, e, ?_⟩
  rcases hs with hs | hs
  · exact .inl ⟨hs, fun l hl => q l _ (Evl.Ex.new hl) (Evl.st_of upd_same)⟩
  · exact .inr ⟨hs, q p H (Evl.Ex.refl H) hs⟩
def rLstK (K : PySem.W.Frag) : List V → Hp → VK → Prop := fun xs H Q => ∃ p ys, xs = [.ref p] ∧ (SqL K H p ys ∨ SqT K H p ys) ∧ ∀ l, H l = none → Q (.ref l) (upd H l (.lst ys))
theorem call_lstK : CallR X (.type "list") (rLstK X.K) := call_list_of
/-- what is never reached -/
theorem pss_any {b : List Stmt} : PSs X b (fun _ _ _ => False) := ⟨fun _ _ _ _ _ _ q => q.elim⟩
theorem ps_any {b : Stmt} : PS X b (fun _ _ _ => False) := ⟨fun _ _ _ _ _ _ q => q.elim⟩
theorem pe_any {e : Expr} : PE X e (fun _ _ _ => False) := ⟨fun _ _ _ _ _ _ q => q.elim⟩
theorem pt_any {e : Expr} : PT X e (fun _ _ _ => False) := ⟨fun _ _ _ _ _ _ q => q.elim⟩
/-- the one way or the other -/
theorem pi_or {tg it : Expr} {w1 w2 : TI} (a : PI X tg it w1) (b : PI X tg it w2) : PI X tg it (fun σ H R => w1 σ H R ∨ w2 σ H R) :=
  ⟨fun pins s σ H R I h => h.elim (fun q => a.run pins s σ H R I q) (fun q => b.run pins s σ H R I q)⟩
theorem pe_or2 {e : Expr} {t1 t2 : TE} (a : PE X e t1) (b : PE X e t2) : PE X e (fun σ H Q => t1 σ H Q ∨ t2 σ H Q) :=
  ⟨fun pins s σ H Q I h => h.elim (fun q => a.run pins s σ H Q I q) (fun q => b.run pins s σ H Q I q)⟩
end
section
variable {X : Cx}
theorem pe_gI {x : Str} {n : Int} {pos : Pos} (hg : Gl X x) (h : ∃ t, X.mg x = some (.int n t)) (hd : (x == ("__debug__" : Str)) = false := by decide) : PE X (.Name x pos) (tC (.int n)) := by
  obtain ⟨t, e⟩ := h
  exact pe_glob hg e ⟨t, rfl⟩ hd
theorem pe_gS {x : Str} {z : Str} {pos : Pos} (hg : Gl X x) (h : ∃ t, X.mg x = some (.str z t)) (hd : (x == ("__debug__" : Str)) = false := by decide) : PE X (.Name x pos) (tC (.str z)) := by
  obtain ⟨t, e⟩ := h
  exact pe_glob hg e ⟨t, rfl⟩ hd
end
/-- a op b op c op d, as a test -/
def tChain3 (r1 r2 r3 : R2) (ta tb tc td : TE) : TE := fun σ H Q => ta σ H fun x H1 => tb σ H1 fun y H2 => r1 x y H2 fun z H3 => ∃ k, z = .bl k ∧ (if k = true then tc σ H3 fun u H4 => r2 y u H4 fun z' H5 => ∃ k', z' = .bl k' ∧ (if k' = true then td σ H5 fun v H6 => r3 u v H6 Q else Q (.bl false) H5) else Q (.bl false) H3)
theorem pt_chain3 {X : Cx} {a b c d : Expr} {ta tb tc td : TE} {pos : Pos} {o1 o2 o3 : CmpOp} {r1 r2 r3 : R2} (h1 : OpR X (compareOp o1) r1) (h2 : OpR X (compareOp o2) r2) (h3 : OpR X (compareOp o3) r3) (ha : PE X a ta) (hb : PE X b tb) (hc : PE X c tc) (hd : PE X d td)
    (hm : lastMarks [o1, o2, o3] [b, c, d] = false := by with_unfolding_all rfl) : PT X (.Compare a [o1, o2, o3] [b, c, d] pos) (tTest (tChain3 r1 r2 r3 ta tb tc td)) := by
  refine ⟨fun pins s σ H Q I h => ?_⟩
  refine isTrue_chain (thn (ha.run pins s σ H _ I h) fun v1 s1 ⟨x, H1, I1, y1, q1⟩ => test_link (thn (hb.run pins s1 σ H1 _ I1 q1) fun v2 s2 ⟨y, H2, I2, y2, q2⟩ => thn (h1 pins s2 σ H2 x y v1 v2 _ I2 y1 y2 q2) fun v3 s3 ⟨z, H3, I3, y3, k, e, q3⟩ => ?_)) hm
  subst e
  cases y3
  refine wpAny_truthy_bool ?_
  cases k with
  | false =>
    obtain ⟨k', e', q'⟩ := q3
    cases e'
    exact ite_ff ⟨H3, I3, q'⟩
  | true =>
    refine ite_tt (test_link (thn (hc.run pins s3 σ H3 _ I3 q3) fun v4 s4 ⟨u, H4, I4, y4, q4⟩ => thn (h2 pins s4 σ H4 y u v2 v4 _ I4 y2 y4 q4) fun v5 s5 ⟨z', H5, I5, y5, k', e', q5⟩ => ?_))
    subst e'
    cases y5
    refine wpAny_truthy_bool ?_
    cases k' with
    | false =>
      obtain ⟨k2, e2, q2'⟩ := q5
      cases e2
      exact ite_ff ⟨H5, I5, q2'⟩
    | true =>
      refine ite_tt (test_last (thn (hd.run pins s5 σ H5 _ I5 q5) fun v6 s6 ⟨v, H6, I6, y6, q6⟩ => thn (h3 pins s6 σ H6 u v v4 v6 _ I6 y4 y6 q6) fun v7 s7 ⟨z2, H7, I7, y7, k2, e2, q7⟩ => ?_))
      subst e2
      cases y7
      exact wpAny_truthy_bool ⟨H7, I7, q7⟩
theorem for_sign {x : Str} {g : TG} {tb : TS} {D : Ends} {σ : L2.St} {H : Hp} (Pv : Nat → L2.St → Hp → Prop) (h0 : Pv 0 σ H)
    (hs : ∀ i c σ H, x.cps[i]? = some c → Pv i σ H → g (.str ⟨#[c]⟩) σ H fun σ2 H2 => tb { D with nx := Pv (i + 1), ct := Pv (i + 1), bk := D.nx } σ2 H2) (hd : ∀ σ H, Pv x.cps.size σ H → D.nx σ H) :
    ∃ W : Nat → Nat → L2.St → Hp → Prop, (∃ m, W 0 m σ H) ∧ ∀ i m σ H, W i m σ H → ((Its x).stop i H ∧ D.nx σ H) ∨
      ((Its x).go i H ∧ ∃ N : L2.St → Hp → Prop, (∀ σ' H', N σ' H' → ∃ m', m' < m ∧ W (i + 1) m' σ' H') ∧ ∀ v H', (Its x).yld i H v H' → g v σ H' fun σ2 H2 => tb { D with nx := N, ct := N, bk := D.nx } σ2 H2) := by
  refine ⟨fun i m σ H => m = x.cps.size - i ∧ i ≤ x.cps.size ∧ Pv i σ H, ⟨x.cps.size, rfl, Nat.zero_le _, h0⟩, ?_⟩
  rintro i m σ H ⟨rfl, hi, p⟩
  by_cases lt : i < x.cps.size
  · refine .inr ⟨lt, Pv (i + 1), fun σ' H' p' => ⟨x.cps.size - (i + 1), by omega, rfl, lt, p'⟩, fun v H' y => ?_⟩
    obtain ⟨rfl, c, hc, rfl⟩ := y
    exact hs i c σ _ hc p
  · obtain rfl : i = x.cps.size := by omega
    exact .inl ⟨Nat.le_refl _, hd σ H p⟩
theorem lc_sign {x : Str} {g : TG} {tt : TT} {te : TE} {vs : List Nat} {σ : L2.St} {H1 : Hp} {D : Addr} {Qd : Hp → Prop} (Pv : Nat → Hp → Prop) (h0 : Pv 0 (upd H1 D (.lst [])))
    (hs : ∀ i c H, x.cps[i]? = some c → Pv i H → g (.str ⟨#[c]⟩) (wipe σ vs) H fun σ2 H2 => wipe σ2 vs = wipe σ vs ∧ tt σ2 H2 fun b H3 =>
      if b = true then te σ2 H3 fun y H4 => ∃ acc, H4 D = some (.lst acc) ∧ acc.length < sizeLine ∧ Pv (i + 1) (upd H4 D (.lst (acc ++ [y]))) else Pv (i + 1) H3) (hd : ∀ H, Pv x.cps.size H → Qd H) :
    ∃ W : Nat → Nat → Hp → Prop, (∃ m, W 0 m (upd H1 D (.lst []))) ∧ ∀ i m H, W i m H → ((Its x).stop i H ∧ Qd H) ∨
      ((Its x).go i H ∧ ∃ Nx : Hp → Prop, (∀ H', Nx H' → ∃ m', m' < m ∧ W (i + 1) m' H') ∧ ∀ v H', (Its x).yld i H v H' → g v (wipe σ vs) H' fun σ2 H2 => wipe σ2 vs = wipe σ vs ∧ tt σ2 H2 fun b H3 =>
        if b = true then te σ2 H3 fun y H4 => ∃ acc, H4 D = some (.lst acc) ∧ acc.length < sizeLine ∧ Nx (upd H4 D (.lst (acc ++ [y]))) else Nx H3) := by
  refine ⟨fun i m H => m = x.cps.size - i ∧ i ≤ x.cps.size ∧ Pv i H, ⟨x.cps.size, rfl, Nat.zero_le _, h0⟩, ?_⟩
  rintro i m H ⟨rfl, hi, p⟩
  by_cases lt : i < x.cps.size
  · refine .inr ⟨lt, Pv (i + 1), fun H' p' => ⟨x.cps.size - (i + 1), by omega, rfl, lt, p'⟩, fun v H' y => ?_⟩
    obtain ⟨rfl, c, hc, rfl⟩ := y
    exact hs i c _ hc p
  · obtain rfl : i = x.cps.size := by omega
    exact .inl ⟨Nat.le_refl _, hd H p⟩
/-- the same of a comprehension without a test -/
theorem lcY_sign {x : Str} {g : TG} {te : TE} {vs : List Nat} {σ : L2.St} {H1 : Hp} {D : Addr} {Qd : Hp → Prop} (Pv : Nat → Hp → Prop) (h0 : Pv 0 (upd H1 D (.lst [])))
    (hs : ∀ i c H, x.cps[i]? = some c → Pv i H → g (.str ⟨#[c]⟩) (wipe σ vs) H fun σ2 H2 => wipe σ2 vs = wipe σ vs ∧ te σ2 H2 fun y H4 => ∃ acc, H4 D = some (.lst acc) ∧ acc.length < sizeLine ∧ Pv (i + 1) (upd H4 D (.lst (acc ++ [y])))) (hd : ∀ H, Pv x.cps.size H → Qd H) :
    ∃ W : Nat → Nat → Hp → Prop, (∃ m, W 0 m (upd H1 D (.lst []))) ∧ ∀ i m H, W i m H → ((Its x).stop i H ∧ Qd H) ∨
      ((Its x).go i H ∧ ∃ Nx : Hp → Prop, (∀ H', Nx H' → ∃ m', m' < m ∧ W (i + 1) m' H') ∧ ∀ v H', (Its x).yld i H v H' → g v (wipe σ vs) H' fun σ2 H2 => wipe σ2 vs = wipe σ vs ∧ tYes σ2 H2 fun b H3 =>
        if b = true then te σ2 H3 fun y H4 => ∃ acc, H4 D = some (.lst acc) ∧ acc.length < sizeLine ∧ Nx (upd H4 D (.lst (acc ++ [y]))) else Nx H3) :=
  lc_sign Pv h0 (fun i c H hc p => hs i c H hc p) hd
theorem lcY_list {K : PySem.W.Frag} {a : Addr} {xs : List V} {g : TG} {te : TE} {vs : List Nat} {σ : L2.St} {H1 : Hp} {D : Addr} {Qd : Hp → Prop} (Pv : Nat → Hp → Prop) (h0 : Pv 0 (upd H1 D (.lst []))) (hl : ∀ i H, i ≤ xs.length → Pv i H → SqL K H a xs)
    (hs : ∀ i x H, xs[i]? = some x → Pv i H → g x (wipe σ vs) H fun σ2 H2 => wipe σ2 vs = wipe σ vs ∧ te σ2 H2 fun y H4 => ∃ acc, H4 D = some (.lst acc) ∧ acc.length < sizeLine ∧ Pv (i + 1) (upd H4 D (.lst (acc ++ [y])))) (hd : ∀ H, Pv xs.length H → Qd H) :
    ∃ W : Nat → Nat → Hp → Prop, (∃ m, W 0 m (upd H1 D (.lst []))) ∧ ∀ i m H, W i m H → ((Itl K a).stop i H ∧ Qd H) ∨
      ((Itl K a).go i H ∧ ∃ Nx : Hp → Prop, (∀ H', Nx H' → ∃ m', m' < m ∧ W (i + 1) m' H') ∧ ∀ x H', (Itl K a).yld i H x H' → g x (wipe σ vs) H' fun σ2 H2 => wipe σ2 vs = wipe σ vs ∧ tYes σ2 H2 fun b H3 =>
        if b = true then te σ2 H3 fun y H4 => ∃ acc, H4 D = some (.lst acc) ∧ acc.length < sizeLine ∧ Nx (upd H4 D (.lst (acc ++ [y]))) else Nx H3) :=
  lc_list Pv h0 hl (fun i c H hc p => hs i c H hc p) hd
theorem lcY_tup {K : PySem.W.Frag} {a : Addr} {xs : List V} {g : TG} {te : TE} {vs : List Nat} {σ : L2.St} {H1 : Hp} {D : Addr} {Qd : Hp → Prop} (Pv : Nat → Hp → Prop) (h0 : Pv 0 (upd H1 D (.lst []))) (hl : ∀ i H, i ≤ xs.length → Pv i H → SqT K H a xs)
    (hs : ∀ i x H, xs[i]? = some x → Pv i H → g x (wipe σ vs) H fun σ2 H2 => wipe σ2 vs = wipe σ vs ∧ te σ2 H2 fun y H4 => ∃ acc, H4 D = some (.lst acc) ∧ acc.length < sizeLine ∧ Pv (i + 1) (upd H4 D (.lst (acc ++ [y])))) (hd : ∀ H, Pv xs.length H → Qd H) :
    ∃ W : Nat → Nat → Hp → Prop, (∃ m, W 0 m (upd H1 D (.lst []))) ∧ ∀ i m H, W i m H → ((Itt K a).stop i H ∧ Qd H) ∨
      ((Itt K a).go i H ∧ ∃ Nx : Hp → Prop, (∀ H', Nx H' → ∃ m', m' < m ∧ W (i + 1) m' H') ∧ ∀ x H', (Itt K a).yld i H x H' → g x (wipe σ vs) H' fun σ2 H2 => wipe σ2 vs = wipe σ vs ∧ tYes σ2 H2 fun b H3 =>
        if b = true then te σ2 H3 fun y H4 => ∃ acc, H4 D = some (.lst acc) ∧ acc.length < sizeLine ∧ Nx (upd H4 D (.lst (acc ++ [y]))) else Nx H3) :=
  lc_tup Pv h0 hl (fun i c H hc p => hs i c H hc p) hd
theorem exc_self {K : PySem.W.Frag} {S : Addr} (h1 : PySem.W.subIn K (.ref S) (.type "BaseException") = some true) (h2 : PySem.W.isClsIn K S = true) (h3 : PySem.W.typeIn K (.ref S) = some (.type "type")) (h4 : PySem.W.subIn K (.ref S) (.ref S) = some true) :
    PySem.W.exmOne K (.ref S) (.ref S) = some true := by
  have e1 : (PySem.W.subIn K (.ref S) (.type "BaseException") == some true) = true := by rw [h1] <;> rfl
  have e2 : ((PySem.W.clsIn K S).isSome && PySem.W.typeIn K (.ref S) == some (.type "type")) = true := by
    have h2' : (PySem.W.clsIn K S).isSome = true := h2
    rw [h2', h3] <;> rfl
  show (if (PySem.W.subIn K (.ref S) (.type "BaseException") == some true) = true then (if ((PySem.W.clsIn K S).isSome && PySem.W.typeIn K (.ref S) == some (.type "type")) = true then PySem.W.subIn K (.ref S) (.ref S) else none) else none) = some true
  rw [if_pos e1, if_pos e2]
  exact h4
end EvS
namespace EvS
open PySem PySem.Spec PyProof.Rows L2
theorem r65 {k : Nat} {A : Around} (r : Room k A) : A.units + 65 < cLine := by have := r.un; omega
theorem blkOk_nest {X : Cx} {s : Shared} {H : Hp} {scope inner : Scope} {C : Addr} {cl : List (Str × Addr)} {fp : List Addr} {own : List (Str × Nat)} {N : List Str} {sc : Scope} (hN : X.N = N) (hs : X.env.scope = sc) (h : blkC N (relS scope sc) inner own = true) :
    BlkOk (X.blk s H scope (compEnvC scope cl C X.env) fp).N (X.blk s H scope (compEnvC scope cl C X.env) fp).env.scope inner own := by
  subst hN hs
  exact blkOk_by h
end EvS

set_option Elab.async false
set_option linter.all false
set_option maxRecDepth 100000
set_option maxHeartbeats 4000000
/-! len(set(xs)), xs a list of different tuples of texts (fewer than 64) -/
namespace TxSet
open PySem PySem.Spec PyProof.Rows L2
section
variable {P : Program} {w : World} {A : Around} {E : Value → Shared → Prop} {s : Shared}
abbrev TwAt (P : Program) (w : World) (h : Heap) (k : List Str) (b : Addr) : Prop := IsTupleKey (PySem.strKind P w) h k b
abbrev hs (P : Program) (w : World) (k : List Str) : Int := tupleKeyHash (PySem.strKind P w) k
abbrev go0 (t : SetTable) (h : Int) : SetTable.Probe := runAt t.mask (SetTable.bits h % (t.mask + 1)) (SetTable.bits h)
theorem words_of {k : List Str} {vs : List Value} (h : ItemsAre (PySem.strKind P w) k vs) : ∀ v ∈ vs, ∃ z t, v = Value.str z t := by
  induction h with
  | nil => exact fun v hv => by cases hv
  | @cons k0 u ks us h1 _ ih =>
    intro v hv
    cases hv with
    | head =>
      obtain ⟨t, e⟩ := Value.isStrOf_shape h1
      exact ⟨k0, t, e⟩
    | tail _ q => exact ih v q
theorem noClass (n : Nat) (z : Str) (t : Tok) : ofAClassStatement n (.str z t) = pure false := by cases n <;> rfl
theorem byVal (n : Nat) (z : Str) (t : Tok) : hashByValue n (.str z t) = pure false := by cases n <;> rfl
theorem noClassT {k : List Str} {b : Addr} {Q : Bool → Shared → Prop} (hk : TwAt P w s.heap k b) (q : Q false s) : wpAny (model P w) A (ofAClassStatement 8 (.ref b)) Q E s := by
  have ty := hk.typeIs
  obtain ⟨o, its, n, ho, _, hd, hi⟩ := hk
  have all := words_of hi
  unfold ofAClassStatement
  refine wpAny_bind (wpAny_typeOf ty ?_)
  dsimp only
  simp only [show (("tuple" : String) == "tuple") = true by decide, if_true, Bool.not_true, Bool.false_eq_true, if_false]
  try refine wpAny_bind (wpAny_pure ?_)
  try simp only [Bool.not_true, Bool.false_eq_true, if_false]
  refine wpAny_bind (m := seqItems? (.ref b)) (wpAny_seqItems ho hd ?_)
  dsimp only
  refine wpAny_bind (m := forIn its _ _) ?_
  rw [← Array.forIn_toList]
  refine wpAny_forIn_list _ (fun l r s' => (∀ v ∈ l, ∃ z t, v = Value.str z t) ∧ r.1 = none ∧ s' = s) _ ?_ ?_ _ _ ⟨all, rfl, rfl⟩
  · rintro v l r s' ⟨hl, hr, rfl⟩
    obtain ⟨z, t, rfl⟩ := hl v List.mem_cons_self
    rw [noClass]
    refine wpAny_bind (wpAny_pure ?_)
    simp only [Bool.false_eq_true, if_false]
    exact wpAny_pure ⟨fun u hu => hl u (List.mem_cons_of_mem _ hu), rfl, rfl⟩
  · rintro ⟨r1, r2⟩ s' ⟨_, hr, rfl⟩
    simp only at hr
    subst hr
    exact wpAny_pure q
theorem byValT {k : List Str} {b : Addr} {Q : Bool → Shared → Prop} (hk : TwAt P w s.heap k b) (q : ∀ v, Q v s) : wpAny (model P w) A (hashByValue 8 (.ref b)) Q E s := by
  have ty := hk.typeIs
  obtain ⟨o, its, n, ho, _, hd, hi⟩ := hk
  have all := words_of hi
  unfold hashByValue
  refine wpAny_bind (wpAny_specialOf ty F.slot_tuple_hash.lookup ?_)
  refine wpAny_bind (m := seqItems? (.ref b)) (wpAny_seqItems ho hd ?_)
  refine wpAny_bind (m := forIn its _ _) ?_
  rw [← Array.forIn_toList]
  refine wpAny_forIn_list _ (fun l r s' => (∀ v ∈ l, ∃ z t, v = Value.str z t) ∧ r.1 = none ∧ s' = s) _ ?_ ?_ _ _ ⟨all, rfl, rfl⟩
  · rintro v l r s' ⟨hl, hr, rfl⟩
    obtain ⟨z, t, rfl⟩ := hl v List.mem_cons_self
    rw [byVal]
    refine wpAny_bind (wpAny_pure ?_)
    simp only [Bool.not_false, if_true]
    exact wpAny_pure (wpAny_pure (q false))
  · rintro ⟨r1, r2⟩ s' ⟨_, hr, rfl⟩
    simp only at hr
    subst hr
    exact wpAny_pure (q true)
/-- nothing of the table is shown -/
theorem hidden {k : List Str} {b : Addr} {Q : Bool → Shared → Prop} (hk : TwAt P w s.heap k b) {ys : List Value} (hy : ∀ y ∈ ys, ∃ c k2, y = Value.ref c ∧ TwAt P w s.heap k2 c) (q : Q false s) :
    wpAny (model P w) A (searchCouldBeSeen (.ref b) ys) Q E s := by
  unfold searchCouldBeSeen
  refine wpAny_bind (wpAny_forIn_list _ (fun l r s' => (∀ y ∈ l, ∃ c k2, y = Value.ref c ∧ TwAt P w s.heap k2 c) ∧ r.1 = none ∧ s' = s) _ ?_ ?_ _ _ ⟨hy, rfl, rfl⟩)
  · rintro v l r s' ⟨hl, hr, rfl⟩
    obtain ⟨c, k2, rfl, hc⟩ := hl v List.mem_cons_self
    have more := fun u hu => hl u (List.mem_cons_of_mem _ hu)
    dsimp only
    by_cases e : (b == c || (carriedByValue (.ref b) && carriedByValue (.ref c))) = true
    · exact wp_if_pos e (wpAny_pure ⟨more, rfl, rfl⟩)
    · refine wp_if_neg e (wpAny_bind (wpAny_eqIsQuiet_tuple hk ?_))
      simp only [Bool.not_true, Bool.false_eq_true, if_false]
      refine wpAny_bind (wpAny_eqIsQuiet_tuple hc ?_)
      simp only [Bool.not_true, Bool.false_eq_true, if_false]
      refine wpAny_bind (noClassT hk ?_)
      simp only [Bool.false_eq_true, if_false]
      refine wpAny_bind (noClassT hc ?_)
      simp only [Bool.false_eq_true, if_false]
      exact wpAny_pure ⟨more, rfl, rfl⟩
  · rintro ⟨r1, r2⟩ s' ⟨_, hr, rfl⟩
    simp only at hr
    subst hr
    exact wpAny_pure q
/-! ### the set as it grows -/
def cells (P : Program) (w : World) (L : List (Addr × List Str)) : List (Int × Value) := L.map fun p => (hs P w p.2, Value.ref p.1)
theorem cells_len (L : List (Addr × List Str)) : (cells P w L).length = L.length := List.length_map ..
structure Bag (P : Program) (w : World) (h : Heap) (a : Addr) (L : List (Addr × List Str)) (es : Array (Int × Value)) (ep : Nat) (t : SetTable) : Prop where
  obj : ∃ o, h.get? a = some o ∧ o.ExactSet ∧ o.data = .set es ep t
  cel : es.toList = cells P w L
  tab : TabOk t (L.map fun p => hs P w p.2)
  key : ∀ p ∈ L, TwAt P w h p.2 p.1
  lrn : w.params.followText "set-order" = true ∨ t.led = true
  rom : L.length * 5 < t.mask * 3
  sml : L.length < 64
variable {a : Addr} {L : List (Addr × List Str)} {es : Array (Int × Value)} {ep : Nat} {t : SetTable}
theorem Bag.size (B : Bag P w s.heap a L es ep t) : es.size = L.length := by
  rw [← Array.length_toList, B.cel, cells_len]
theorem Bag.places (B : Bag P w s.heap a L es ep t) : t.place.toList.length = L.length := by
  rw [Array.length_toList, B.tab.sz, List.length_map]
theorem Bag.fit (B : Bag P w s.heap a L es ep t) : t.fits es.size = true := by
  have q1 := B.places
  have q2 := B.size
  have q3 := B.rom
  rw [Array.length_toList] at q1
  unfold SetTable.fits SetTable.fill
  rw [B.tab.dm, Bool.and_eq_true, beq_iff_eq, decide_eq_true_eq]
  constructor
  · omega
  · show t.place.size + 0 ≤ t.mask
    omega
theorem Bag.cell (B : Bag P w s.heap a L es ep t) {i : Nat} {p : Addr × List Str} (h : L[i]? = some p) : es[i]? = some (hs P w p.2, Value.ref p.1) := by
  rw [← Array.getElem?_toList, B.cel]
  unfold cells
  rw [List.getElem?_map, h]
  rfl
theorem nth_plain (m : Nat) : ∀ (n : Nat) (p : SetTable.Probe), p.dummy = none → (nth m p n).dummy = none
  | 0, _, h => h
  | n + 1, p, h => by
    refine nth_plain m n (adv m p) ?_
    unfold adv
    split <;> exact h
/-- the search for what isn't there ends at the first empty slot of its way -/
theorem seek (B : Bag P w s.heap a L es ep t) {x : Addr} {k : List Str} (hx : TwAt P w s.heap k x) (hu : A.units < cLine) (away : ∀ p ∈ L, p.2 ≠ k) {K : Nat} (hK : K < 10 * SetTable.turns t.mask)
    (hfree : way t.mask (hs P w k) K ∉ t.place.toList) (hbusy : ∀ c, c < K → way t.mask (hs P w k) c ∈ t.place.toList) {Q : SetFound → Shared → Prop} (q : Q (.free (way t.mask (hs P w k) K) false) s) :
    ∀ (f c : Nat) (st : Option SetTable.Probe), st.getD (t.probeStart (hs P w k)) = nth t.mask (go0 t (hs P w k)) c → c ≤ K → K - c < f → wpAny (model P w) A (setSearchFrom a (.ref x) (hs P w k) true f st) Q E s := by
  intro f
  induction f with
  | zero => intro c st _ _ h; exact absurd h (Nat.not_lt_zero _)
  | succ f ih =>
    intro c st hst hc hf
    obtain ⟨o, ho, hex, hd⟩ := B.obj
    rw [setSearchFrom_succ]
    refine wpAny_bind (wpAny_setState_of ho hd B.fit ?_)
    dsimp only
    refine wp_if_neg (by unfold SetTable.gaveWay; rw [mask_odd B.tab.mok]; decide) ?_
    try refine wpAny_bind (wpAny_pure ?_)
    have shift : ∀ n, nth t.mask (nth t.mask (go0 t (hs P w k)) c) n = nth t.mask (go0 t (hs P w k)) (c + n) := fun n => (nth_add t.mask c _ n).symm
    have at_ : ∀ n, (nth t.mask (nth t.mask (go0 t (hs P w k)) c) n).j = way t.mask (hs P w k) (c + n) := fun n => congrArg SetTable.Probe.j (shift n)
    have back : c + (K - c) = K := by omega
    rcases go_spec t B.tab.ris B.tab.dm (fun i => (es[i]?.map (·.1)).getD 0) (hs P w k) (10 * SetTable.turns t.mask) (K - c) _ (nth_plain t.mask c _ rfl) (by omega) (fun n hn => by rw [at_]; exact hbusy _ (by omega)) (by rw [at_, back]; exact hfree) with ⟨n, i, hn, hi, _, _, e⟩ | ⟨_, e⟩
    · have e' : t.probe (fun i => (es[i]?.map (·.1)).getD 0) (hs P w k) (st.getD (t.probeStart (hs P w k))) = some (.candidate (way t.mask (hs P w k) (c + n)) i (nth t.mask (go0 t (hs P w k)) (c + (n + 1)))) := by
        rw [hst, ← at_, ← shift]
        exact e
      rw [e']
      dsimp only
      rw [at_] at hi
      have il : i < L.length := by
        rw [← B.places]
        exact (List.getElem?_eq_some_iff.mp hi).1
      obtain ⟨p, hp⟩ : ∃ p, L[i]? = some p := ⟨_, List.getElem?_eq_getElem il⟩
      have pin := List.mem_of_getElem? hp
      have other := away p pin
      have go : wpAny (model P w) A (searchRest a (.ref x) (hs P w k) true f es t (way t.mask (hs P w k) (c + n)) i (nth t.mask (go0 t (hs P w k)) (c + (n + 1)))) Q E s := by
        unfold searchRest
        rw [B.cell hp]
        dsimp only
        refine wpAny_bind (wpAny_holding (wpAny_eqBool_tuple hu (B.key p pin) hx ?_))
        refine wpAny_bind (wpAny_setState_of ho hd B.fit ?_)
        dsimp only
        refine wp_if_neg (by simp [other]) ?_
        try refine wpAny_bind (wpAny_pure ?_)
        rw [sameMem]
        dsimp only
        simp only [if_true, slot_live B.tab.ris hi, B.cell hp]
        refine wpAny_bind (wpAny_isSame_ref_self (wpAny_bind (wpAny_pure ?_)))
        simp only [if_true]
        refine wp_if_neg (by simp [other]) ?_
        exact ih (c + (n + 1)) _ rfl (by omega) (by omega)
      by_cases hl : t.led = true
      · refine wp_if_neg (by simp [hl]) ?_
        try refine wpAny_bind (wpAny_pure ?_)
        exact go
      · refine wp_if_pos (by simp [hl]) (wpAny_bind (hidden hx (fun y hy => ?_) ?_))
        · obtain ⟨d, hd1, hd2⟩ := List.mem_map.mp hy
          have m1 : d ∈ es.toList := by
            have : d ∈ es ∧ d.1 = hs P w k := by simpa using hd1
            simpa using this.1
          rw [B.cel] at m1
          obtain ⟨p2, m2, e2⟩ := List.mem_map.mp m1
          exact ⟨p2.1, p2.2, by rw [← hd2, ← e2], B.key p2 m2⟩
        · refine wp_if_neg (by decide) ?_
          try refine wpAny_bind (wpAny_pure ?_)
          exact go
    · have e' : t.probe (fun i => (es[i]?.map (·.1)).getD 0) (hs P w k) (st.getD (t.probeStart (hs P w k))) = some (.empty (way t.mask (hs P w k) K) none) := by
        have z := at_ (K - c)
        rw [back] at z
        rw [hst, ← z]
        exact e
      rw [e']
      dsimp only
      exact wpAny_pure q
/-! ### the set grows by one -/
theorem still {h h' : Heap} {k : List Str} {c : Addr} {o : Obj} (hk : TwAt P w h k c) (ho : h.get? a = some o) (hd : o.data = .set es ep t) (sb : Heap.SameBut a h h') : TwAt P w h' k c := by
  obtain ⟨u, its, n, hu, hc, hi, hw⟩ := hk
  refine ⟨u, its, n, ?_, hc, hi, hw⟩
  rw [sb.2 c fun z => ?_]
  · exact hu
  · rw [z, ho] at hu
    rw [← Option.some.inj hu, hd] at hi
    cases hi
theorem range_get {α : Type} (L : List α) : ∀ n, n ≤ L.length → (List.range n).filterMap (fun i => L[i]?) = L.take n
  | 0, _ => rfl
  | n + 1, h => by
    have lt : n < L.length := h
    rw [List.range_succ, List.filterMap_append, range_get L n (Nat.le_of_lt lt), List.take_add_one, List.getElem?_eq_getElem lt]
    simp [List.getElem?_eq_getElem lt]
theorem chosen (hc : es.toList = cells P w L) : ∀ l : List Nat, (∀ i ∈ l, i < L.length) → l.filterMap (fun i => es[i]?) = cells P w (l.filterMap fun i => L[i]?) ∧ (l.filterMap fun i => L[i]?).map (fun p => hs P w p.2) = l.map fun i => (es.map (·.1)).getD i 0
  | [], _ => ⟨rfl, rfl⟩
  | i :: l, h => by
    obtain ⟨e1, e2⟩ := chosen hc l fun j hj => h j (List.mem_cons_of_mem _ hj)
    have il := h i List.mem_cons_self
    have gL : L[i]? = some L[i] := List.getElem?_eq_getElem il
    have gE : es[i]? = some (hs P w (L[i]).2, Value.ref (L[i]).1) := by
      rw [← Array.getElem?_toList, hc]
      unfold cells
      rw [List.getElem?_map, gL]
      rfl
    have gD : (es.map (·.1)).getD i 0 = hs P w (L[i]).2 := by
      have z : (es.map (·.1))[i]? = some (hs P w (L[i]).2) := by
        rw [Array.getElem?_map, gE]
        rfl
      rw [Array.getD_eq_getD_getElem?, z]
      rfl
    rw [List.filterMap_cons_some gE, List.filterMap_cons_some gL, e1, List.map_cons, List.map_cons, e2, gD]
    exact ⟨rfl, rfl⟩
/-- the table is laid anew, larger -/
theorem relaid_new {o : Obj} (ho : s.heap.get? a = some o) (hex : o.ExactSet) (hd : o.data = .set es ep t) (hc : es.toList = cells P w L) (hp : t.place.size = es.size) (hdm : t.dummies = #[]) (hfl : es.size ≤ t.mask)
    (key : ∀ p ∈ L, TwAt P w s.heap p.2 p.1) (ld : w.params.followText "set-order" = true ∨ t.led = true) (few : L.length < 64) {wanted M : Nat} (hw : SetTable.sizeAbove wanted - 1 = M) (hM : MaskOk M) (hw2 : SetTable.sizeAbove wanted ≤ 128)
    (hn : L.length * 5 < M * 3) {Q : Unit → Shared → Prop} (q : ∀ h' L' es' ep' t', Heap.SameBut a s.heap h' → Bag P w h' a L' es' ep' t' → L'.Perm L → Q () { s with heap := h' }) : wpAny (model P w) A (setRelay a wanted) Q E s := by
  have hl : es.size = L.length := by rw [← Array.length_toList, hc, cells_len]
  have hfit : t.fits es.size = true := by
    unfold SetTable.fits SetTable.fill
    rw [hdm, Bool.and_eq_true, beq_iff_eq, decide_eq_true_eq]
    exact ⟨hp, by show t.place.size + 0 ≤ t.mask; omega⟩
  have hsz : (es.map (·.1)).size = L.length := by rw [Array.size_map, hl]
  obtain ⟨t', ord, e, pm, T, em, el, _, _⟩ := relaid_ok t (hs := es.map (·.1)) (wanted := wanted) hw hM (by rw [hsz]; omega)
  rw [hsz] at pm
  obtain ⟨c1, c2⟩ := chosen (P := P) (w := w) (L := L) hc ord.toList fun i hi => List.mem_range.mp (pm.mem_iff.mp hi)
  have pL : (ord.toList.filterMap fun i => L[i]?).Perm L := by
    have z := pm.filterMap fun i => L[i]?
    rw [range_get L L.length (Nat.le_refl _), List.take_length] at z
    exact z
  generalize ord.toList.filterMap (fun i => L[i]?) = L2 at c1 c2 pL
  rw [← c2] at T
  have cl : (ord.filterMap (es[·]?)).toList = cells P w L2 := by first | (rw [Array.toList_filterMap]; exact c1) | simpa using c1
  have sz2 : (ord.filterMap (es[·]?)).size = es.size := by rw [← Array.length_toList, cl, cells_len, pL.length_eq, hl]
  rw [setRelay_eq]
  refine wpAny_bind (wpAny_setState_of ho hd hfit ?_)
  dsimp only
  refine wp_if_neg (by rw [sizeLine_eq]; omega) ?_
  try refine wpAny_bind (wpAny_pure ?_)
  rw [e]
  dsimp only
  refine wpAny_bind ?_
  refine wp_if_neg (by rw [sz2]; simp) ?_
  try refine wpAny_bind (wpAny_pure ?_)
  refine wpAny_pure ?_
  dsimp only
  refine wpAny_storeSet_of ho hd ?_ (by rw [sz2, hl, sizeLine_eq]; omega)
  have sb : Heap.SameBut a s.heap (s.heap.update a (Obj.putSet (ord.filterMap (es[·]?)) t')) := Heap.SameBut.update ..
  refine q _ L2 (ord.filterMap (es[·]?)) (ep + 1) t' sb ⟨⟨_, store_at ho hd, ⟨hex.1, hex.2.1, hex.2.2⟩, rfl⟩, cl, T, fun p hp => still (key p (pL.mem_iff.mp hp)) ho hd sb, by rw [el]; exact ld, by rw [pL.length_eq, em]; exact hn, by rw [pL.length_eq]; exact few⟩ pL
theorem add_new (B : Bag P w s.heap a L es ep t) {x : Addr} {k : List Str} (hx : TwAt P w s.heap k x) (hu : A.units < cLine) (away : ∀ p ∈ L, p.2 ≠ k) (few : L.length + 1 < 64) {Q : Bool → Shared → Prop}
    (q : ∀ h' L' es' ep' t', Heap.SameBut a s.heap h' → Bag P w h' a L' es' ep' t' → L'.Perm ((x, k) :: L) → Q true { s with heap := h' }) : wpAny (model P w) A (setAddHashed a (.ref x) (hs P w k)) Q E s := by
  obtain ⟨o, ho, hex, hd⟩ := B.obj
  have hl := B.size
  have rom := B.rom
  have lenT : (L.map fun p => hs P w p.2).length = L.length := List.length_map ..
  obtain ⟨K, hK, hfree, hbusy⟩ := B.tab.first (by rw [lenT]; omega) (hs P w k)
  have big : K < 100000 := by
    have z : 10 * SetTable.turns t.mask ≤ 1420 := by
      unfold SetTable.turns
      rcases B.tab.mok with e | e | e <;> omega
    omega
  unfold setAddHashed
  refine wpAny_holding ?_
  rw [show (100000 : Nat) = 99999 + 1 from rfl, setAddHashedIn_succ]
  refine wpAny_bind (wpAny_setState_of ho hd B.fit ?_)
  dsimp only
  refine wp_if_neg (by simp [byScan, Value.scannable]) ?_
  try refine wpAny_bind (wpAny_pure ?_)
  refine wpAny_bind (m := setSearch a (.ref x) (hs P w k) true) ?_
  unfold setSearch
  refine seek B hx hu away hK hfree hbusy ?_ 100000 0 none rfl (Nat.zero_le _) (by omega)
  dsimp only
  refine wpAny_bind (wpAny_setState_of ho hd B.fit ?_)
  dsimp only
  obtain ⟨g1, g2, g3, g4, g5, _, _, _, g9⟩ := B.tab.put hfree hbusy
  generalize hpt : t.put (way t.mask (hs P w k) K) = pt at g1 g3 g4 g5 g9 ⊢
  obtain ⟨t1, p⟩ := pt
  dsimp only at g1 g3 g4 g5 g9 ⊢
  subst g1
  generalize SetTable.below t.place (way t.mask (hs P w k) K) = p at g2 g3 ⊢
  have pm : (L.take p ++ (x, k) :: L.drop p).Perm ((x, k) :: L) := put_perm L p (x, k)
  have cl : (SetTable.insertAt es p (hs P w k, Value.ref x)).toList = cells P w (L.take p ++ (x, k) :: L.drop p) := by
    rw [SetTable.toList_insertAt, B.cel]
    unfold cells
    rw [List.map_append, List.map_cons, List.map_take, List.map_drop]
  have ht : (L.take p ++ (x, k) :: L.drop p).map (fun p => hs P w p.2) = (L.map fun p => hs P w p.2).take p ++ hs P w k :: (L.map fun p => hs P w p.2).drop p := by
    rw [List.map_append, List.map_cons, List.map_take, List.map_drop]
  rw [← ht] at g3
  rw [lenT] at g9
  generalize L.take p ++ (x, k) :: L.drop p = L1 at pm cl g3
  have len1 : L1.length = L.length + 1 := pm.length_eq
  have sz1 : (SetTable.insertAt es p (hs P w k, Value.ref x)).size = L.length + 1 := by rw [← Array.length_toList, cl, cells_len, len1]
  generalize SetTable.insertAt es p (hs P w k, Value.ref x) = es1 at cl sz1 ⊢
  -- behind the question whether its hash goes by value
  have rest : ∀ t2 : SetTable, TabOk t2 (L1.map fun p => hs P w p.2) → t2.mask = t.mask → t2.led = t.led → t2.fill = L.length + 1 → wpAny (model P w) A (do
      storeSet a es1 t2
      if !false && t2.tooFull then setRelay a (SetTable.grown (es.size + 1))
      return true) Q E s := fun t2 T2 m2 l2 f2 => by
    refine wpAny_bind (wpAny_storeSet_of ho hd ?_ (by rw [sz1, sizeLine_eq]; omega))
    have sb : Heap.SameBut a s.heap (s.heap.update a (Obj.putSet es1 t2)) := Heap.SameBut.update ..
    have ho1 := store_at (es' := es1) (t' := t2) ho hd
    generalize s.heap.update a (Obj.putSet es1 t2) = h1 at sb ho1 ⊢
    have key1 : ∀ p ∈ L1, TwAt P w h1 p.2 p.1 := fun p hp => by
      rcases List.mem_cons.mp (pm.mem_iff.mp hp) with e | hp
      · rw [e]
        exact still hx ho hd sb
      · exact still (B.key p hp) ho hd sb
    have ld1 : w.params.followText "set-order" = true ∨ t2.led = true := by rw [l2]; exact B.lrn
    by_cases hf : t2.tooFull = true
    · have full : (L.length + 1) * 5 ≥ t2.mask * 3 := by
        have z := hf
        unfold SetTable.tooFull at z
        rw [decide_eq_true_eq, f2] at z
        exact z
      have places : t2.place.size = es1.size := by
        have z := T2.sz
        rw [List.length_map, len1] at z
        rw [z, sz1]
      have two : (t.mask = 7 ∧ L.length = 4) ∨ (t.mask = 31 ∧ L.length = 18) := by
        rw [m2] at full
        rcases B.tab.mok with e | e | e <;> rw [e] at full rom
        · exact .inl ⟨e, by omega⟩
        · exact .inr ⟨e, by omega⟩
        · omega
      have laid : ∀ M, SetTable.sizeAbove (SetTable.grown (es.size + 1)) - 1 = M → MaskOk M → SetTable.sizeAbove (SetTable.grown (es.size + 1)) ≤ 128 → (L.length + 1) * 5 < M * 3 →
          wpAny (model P w) A (setRelay a (SetTable.grown (es.size + 1))) (fun _ s' => wpAny (model P w) A (pure true) Q E s') E { s with heap := h1 } := fun M z1 z2 z3 z4 => by
        refine relaid_new (s := { s with heap := h1 }) ho1 ⟨hex.1, hex.2.1, hex.2.2⟩ rfl cl places T2.dm (by rw [sz1, m2]; rcases two with ⟨y1, y2⟩ | ⟨y1, y2⟩ <;> omega) key1 ld1 (by rw [len1]; exact few) z1 z2 z3 (by rw [len1]; exact z4) ?_
        exact fun h2 L2 es2 ep2 t3 sb2 B2 pm2 => wpAny_pure (q h2 L2 es2 ep2 t3 (sb.trans sb2) B2 (pm2.trans pm))
      have fin : wpAny (model P w) A (setRelay a (SetTable.grown (es.size + 1))) (fun _ s' => wpAny (model P w) A (pure true) Q E s') E { s with heap := h1 } := by
        rcases two with ⟨_, y⟩ | ⟨_, y⟩
        · exact laid 31 (by rw [hl, y, size_20]) (.inr (.inl rfl)) (by rw [hl, y, size_20]; decide) (by omega)
        · exact laid 127 (by rw [hl, y, size_76]) (.inr (.inr rfl)) (by rw [hl, y, size_76]; decide) (by omega)
      first
        | (refine wpAny_bind ?_; refine wp_if_pos (by simp [hf]) ?_; exact fin)
        | (refine wp_if_pos (by simp [hf]) ?_; refine wpAny_bind ?_; exact fin)
    · have done := q h1 L1 es1 (ep + 1) t2 sb ⟨⟨_, ho1, ⟨hex.1, hex.2.1, hex.2.2⟩, rfl⟩, cl, T2, key1, ld1, (by
          have z := hf
          unfold SetTable.tooFull at z
          rw [decide_eq_true_eq, f2] at z
          rw [len1]
          omega), by rw [len1]; exact few⟩ pm
      first
        | (refine wp_if_neg (by simp [hf]) ?_; exact wpAny_pure done)
        | (refine wpAny_bind ?_; refine wp_if_neg (by simp [hf]) ?_; refine wpAny_pure ?_; exact wpAny_pure done)
  have both : ∀ v : Bool, wpAny (model P w) A (do
      storeSet a es1 (if v then t1 else { t1 with plain := false })
      if !false && (if v then t1 else { t1 with plain := false }).tooFull then setRelay a (SetTable.grown (es.size + 1))
      return true) Q E s := fun v => by
    cases v with
    | true => exact rest t1 g3 g4 g5 g9
    | false => exact rest { t1 with plain := false } ⟨g3.ris, g3.dm, g3.sz, g3.mok, g3.bd, g3.reach⟩ g4 g5 g9
  by_cases hpl : t1.plain = true
  · first
      | (refine wpAny_bind ?_; refine wp_if_pos hpl ?_; exact byValT hx both)
      | exact wp_if_pos hpl (wpAny_bind (byValT hx both))
  · first
      | (refine wpAny_bind ?_; refine wp_if_neg hpl ?_; exact wpAny_pure (both true))
      | exact wp_if_neg hpl (wpAny_bind (wpAny_pure (both true)))
/-! ### set(xs) -/
def fresh0 (w : World) : Obj := { cls := .type "set", dict := none, data := .set #[] 0 (.fresh 0 0 (!w.params.followText "set-order")) }
theorem bag0 {h : Heap} (ho : h.get? a = some (fresh0 w)) : Bag P w h a [] #[] 0 (.fresh 0 0 (!w.params.followText "set-order")) where
  obj := ⟨_, ho, ⟨rfl, rfl, rfl⟩, rfl⟩
  cel := rfl
  tab := ⟨List.Pairwise.nil, rfl, rfl, .inl rfl, fun x hx => (by cases hx), fun i h j hi => (by simp at hi)⟩
  key := fun p hp => (by cases hp)
  lrn := by
    show _ ∨ (!w.params.followText "set-order") = true
    cases w.params.followText "set-order"
    · exact .inr rfl
    · exact .inl rfl
  rom := by
    show 0 * 5 < 7 * 3
    decide
  sml := by
    show 0 < 64
    decide
theorem there {h h' : Heap} {k : List Str} {c : Addr} (hk : TwAt P w h k c) (kp : ∀ b o, h.get? b = some o → h'.get? b = some o) : TwAt P w h' k c := by
  obtain ⟨u, its, n, hu, more⟩ := hk
  exact ⟨u, its, n, kp c u hu, more⟩
theorem grow {I : Addr} {fp wr : List Addr} {G : Array GenState → Array GenState → Prop} {n : Nat} {Pv : Nat → Value → Prop} {St : Nat → Shared → Prop} {R : Result → Shared → Prop}
    (W : WalksS P w A.in1 I fp wr G n Pv St) (S : Addr) (nf : S ∉ fp) (ks : List (Addr × List Str)) (hn : ks.length = n) (few : n < 64) (diff : (ks.map (·.2)).Nodup) (hat : ∀ i v, Pv i v → ∃ p, ks[i]? = some p ∧ v = .ref p.1)
    (g : Heap) (hk : ∀ p ∈ ks, TwAt P w g p.2 p.1) (gS : g.get? S = none) (gw : ∀ b ∈ wr, g.get? b = none) (hu : A.in1.units < cLine) :
    ∀ (m i : Nat) (s : Shared), n - i = m → i ≤ n → St i s → (∀ b o, g.get? b = some o → s.heap.get? b = some o) → (∃ L es ep t, Bag P w s.heap S L es ep t ∧ L.Perm (ks.take i)) →
      (∀ s' L es ep t, Moved (S :: wr) G s s' → Bag P w s'.heap S L es ep t → L.Perm ks → R (.ok (.ret .none)) s') → codeAny (model P w) A (.builtin "set.update.loop" ⟨[.ref S, .ref I], []⟩) R s := by
  have nw : S ∉ wr := fun q => nf (W.sub _ q)
  have up : ∀ c ∈ wr, c ∈ S :: wr := fun c hc => List.mem_cons_of_mem _ hc
  have onward : ∀ {s s' : Shared}, Moved wr G s s' → (∀ b o, g.get? b = some o → s.heap.get? b = some o) → ∀ b o, g.get? b = some o → s'.heap.get? b = some o := fun mv kp b o e => by
    refine mv.heap b o (fun hb => ?_) (kp b o e)
    rw [gw b hb] at e
    cases e
  have hold : ∀ {s s' : Shared} {L : List (Addr × List Str)} {es : Array (Int × Value)} {ep : Nat} {t : SetTable} {i : Nat}, Moved wr G s s' → (∀ b o, g.get? b = some o → s'.heap.get? b = some o) → L.Perm (ks.take i) → Bag P w s.heap S L es ep t → Bag P w s'.heap S L es ep t := fun {s s' L es ep t i} mv kp pm B => by
    obtain ⟨o, ho, more⟩ := B.obj
    exact ⟨⟨o, mv.heap S o nw ho, more⟩, B.cel, B.tab, fun p hp => there (hk p (List.mem_of_mem_take (pm.mem_iff.mp hp))) kp, B.lrn, B.rom, B.sml⟩
  intro m
  induction m with
  | zero =>
    intro i s hm hi hst kp ⟨L, es, ep, t, B, pm⟩ hR
    obtain rfl : i = n := by omega
    refine codeAny_builtin F.entry_set_update_loop ?_
    rw [Around.under_plainId F.plain_set_update_loop _]
    refine wpAny_bind (m := pyNext (.ref I)) (W.done s _ _ hst fun s1 mv => ?_)
    have B1 := hold mv (onward mv kp) pm B
    rw [← hn, List.take_length] at pm
    exact wpAny_pure (hR s1 L es ep t (mv.mono up) B1 pm)
  | succ m ih =>
    intro i s hm hi hst kp ⟨L, es, ep, t, B, pm⟩ hR
    have lt : i < n := by omega
    refine codeAny_builtin F.entry_set_update_loop ?_
    rw [Around.under_plainId F.plain_set_update_loop _]
    refine wpAny_bind (m := pyNext (.ref I)) (W.item i s _ _ lt hst fun v s1 hP hst1 mv => ?_)
    obtain ⟨p, hp, rfl⟩ := hat i v hP
    have kp1 := onward mv kp
    have B1 := hold mv kp1 pm B
    have hx : TwAt P w s1.heap p.2 p.1 := there (hk p (List.mem_of_getElem? hp)) kp1
    have nxt : ks.take (i + 1) = ks.take i ++ [p] := by
      rw [List.take_add_one, hp]
      rfl
    have away : ∀ q ∈ L, q.2 ≠ p.2 := fun q hq e => by
      have d := diff.sublist (((List.take_sublist (i + 1) ks).map (·.2)))
      rw [nxt, List.map_append, List.nodup_append] at d
      exact d.2.2 q.2 (List.mem_map.mpr ⟨q, pm.mem_iff.mp hq, rfl⟩) p.2 (by simp) e
    have ll : L.length ≤ i := by
      rw [pm.length_eq, List.length_take]
      omega
    show wpAny _ A.in1 (holding [Value.ref p.1] (setAdd S (.ref p.1)) >>= _) _ _ s1
    refine wpAny_bind (wpAny_holding ?_)
    unfold setAdd
    refine wpAny_holding (wpAny_bind (wpAny_pyHash_tuple hu hx ?_))
    refine add_new (s := { s1 with toks := s1.toks + (p.2.length + 1) }) B1 hx hu away (by omega) fun h2 L2 es2 ep2 t2 sb B2 pm2 => ?_
    have pm3 : L2.Perm (ks.take (i + 1)) := by
      rw [nxt]
      exact pm2.trans ((pm.cons p).trans (List.perm_append_singleton p (ks.take i)).symm)
    have kp2 : ∀ b o, g.get? b = some o → h2.get? b = some o := fun b o e => by
      refine (sb.2 b fun z => ?_).trans (kp1 b o e)
      rw [z, gS] at e
      cases e
    refine wpAny_pure ⟨plainId_quiet F.plain_set_update_loop _, ih (i + 1) _ (by omega) lt (W.frame _ s1 _ _ hst1 (Nat.le_add_right _ _) fun c hc o e => ?_) kp2 ⟨L2, es2, ep2, t2, B2, pm3⟩ fun s3 L3 es3 ep3 t3 mv3 B3 pm4 => ?_⟩
    · rw [sb.2 c (fun z : c = S => nf (by rw [← z]; exact hc))]
      exact e
    · refine hR s3 L3 es3 ep3 t3 (Moved.trans W.gtrans ((mv.mono up).then_heap (Nat.le_add_right _ _) fun c o hc e => ?_) mv3) B3 pm4
      rw [sb.2 c (fun z : c = S => hc (by rw [z]; exact List.mem_cons_self))]
      exact e
theorem call_setT {l : Addr} {its : Array Value} (ks : List (Addr × List Str)) {Q : Value → Shared → Prop} (hA : A.handled = none) (hl : s.heap.IsList l its) (hit : its.toList = ks.map fun p => Value.ref p.1) (hk : ∀ p ∈ ks, TwAt P w s.heap p.2 p.1)
    (few : ks.length < 64) (diff : (ks.map (·.2)).Nodup) (hu : A.units + 3 < cLine)
    (q : ∀ (h' : Heap) (tk : Nat) L es ep t, Bag P w h' s.heap.objs.size L es ep t → L.Perm ks → (∀ c o, c < s.heap.objs.size → s.heap.get? c = some o → h'.get? c = some o) → Q (.ref s.heap.objs.size) { s with heap := h', toks := tk }) :
    wpAny (model P w) A (call (.type "set") [.ref l]) Q E s := by
  have hlen : ks.length = its.size := by
    have z := congrArg List.length hit
    rw [Array.length_toList, List.length_map] at z
    exact z.symm
  obtain ⟨c, tl, hmro⟩ := PySem.F.called_set.mro
  have hmade := PySem.F.called_set.made
  have hsub := PySem.F.called_set.sub
  refine wpAny_call (codeAny_of_tree ?_)
  show wpAny _ _ (callAny (.type "set") _) _ _ _
  refine wpAny_pure ⟨Code.quiet_builtin _ (by decide +kernel), codeAny_builtin PySem.F.entry_type_call ?_⟩
  rw [Around.under_plain (weight_type_call_type "set" [.ref l] []) rfl]
  have h1 := PySem.F.called_set.notType
  have h2 := PySem.F.called_set.canCreate
  have hct := PySem.F.typeCall_set_1 (.ref l)
  repeat (any_goals (first | assumption | wp_step))
  refine codeAny_mono (code_set_led1 (.ref l) (E := E) (Q₁ := fun b s₁ => b = .ref s.heap.objs.size ∧ s₁ = { s with heap := s.heap.push (fresh0 w) }) ⟨rfl, rfl⟩) fun r s₁ hr => ?_
  cases r with
  | error e => exact hr
  | ok fl =>
    cases fl with
    | ret b =>
      obtain ⟨rfl, rfl⟩ := hr
      have hS : (s.heap.push (fresh0 w)).get? s.heap.objs.size = some (fresh0 w) := Heap.get?_push_size _ rfl
      have hT : Shared.TypeIs { s with heap := s.heap.push (fresh0 w) } (.ref s.heap.objs.size) "set" := ⟨_, hS, rfl⟩
      have hli := PySem.F.called_set.init.lookup
      have hbi := PySem.F.called_set.init.bind (.ref s.heap.objs.size)
      repeat (any_goals (first | assumption | wp_step))
      refine codeAny_mono (codeAny_call_builtin (R := wants (fun r s₂ => r = .none ∧ ∃ h' tk L es ep t, s₂ = { s with heap := h', toks := tk } ∧ Bag P w h' s.heap.objs.size L es ep t ∧ L.Perm ks ∧
          (∀ c o, c < s.heap.objs.size → s.heap.get? c = some o → h'.get? c = some o)) E) PySem.F.called_set.init.plain PySem.F.entry_set_init (check_set_init_1 hT ?_)) fun r₂ s₂ hr₂ => ?_
      · obtain ⟨ol, hol, hcl, nl, hdl⟩ := hl
        obtain ⟨ocls, odict, odata, oslots⟩ := ol
        simp only at hcl hdl
        subst hcl; subst hdl
        have hol' : (s.heap.push (fresh0 w)).get? l = some { cls := .type "list", dict := odict, data := .seq its nl, slots := oslots } := Heap.get?_push_of_some _ hol
        have hsls := PySem.F.sub_list_set
        have hslf := PySem.F.sub_list_frozenset
        have hne : (Value.type "list" == Value.type "dict") = false := by decide
        have hl1 : (s.heap.push (fresh0 w)).IsList l its := ⟨_, hol', rfl, nl, rfl⟩
        unfold Builtin.«set.__init__» noKeywords Builtin.Frozenset.updateFrom
        generalize hPI : pyIter = PI
        wp_walk
        subst hPI
        refine wpAny_pyIter_list hl1 ?_
        refine wpAny_bind (wpAny_runValue ?_)
        have hlS : l < s.heap.objs.size := Heap.lt_size hol
        have h3 : A.in1.in1.in1.handled = none := by simp [hA]
        have nI : l ≠ (s.heap.push (fresh0 w)).objs.size := by
          rw [Heap.size_push]; exact Nat.ne_of_lt (Nat.lt_succ_of_lt hlS)
        have nS : s.heap.objs.size ∉ [(s.heap.push (fresh0 w)).objs.size, l] := by
          rw [Heap.size_push]; simp only [List.mem_cons, List.mem_singleton, List.not_mem_nil, or_false, not_or]
          exact ⟨Nat.ne_of_lt (Nat.lt_succ_self _), Nat.ne_of_gt hlS⟩
        have none_of : ∀ b, s.heap.objs.size ≤ b → s.heap.get? b = none := fun b hb => by
          cases z : s.heap.get? b with
          | none => rfl
          | some o => exact absurd (Nat.lt_of_lt_of_le (Heap.lt_size z) hb) (Nat.lt_irrefl _)
        have hat : ∀ (i : Nat) (v : Value), its[i]? = some v → ∃ p, ks[i]? = some p ∧ v = .ref p.1 := fun i v hv => by
          have z : its.toList[i]? = some v := by rw [Array.getElem?_toList]; exact hv
          rw [hit, List.getElem?_map] at z
          cases y : ks[i]? with
          | none =>
            rw [y] at z
            cases z
          | some p =>
            rw [y] at z
            exact ⟨p, rfl, (Option.some.inj z).symm⟩
        refine grow ((Walks.list h3 _ l nI its).toS) s.heap.objs.size nS ks hlen (by rw [← hlen]; exact few) diff hat s.heap hk (none_of _ (Nat.le_refl _)) (fun b hb => none_of b (by
            rw [List.mem_singleton.mp hb, Heap.size_push]
            exact Nat.le_succ _)) hu (its.size - 0) 0 _ (by omega) (Nat.zero_le _) ⟨⟨_, Heap.get?_push_size _ rfl, rfl, rfl⟩, (hl1.push _)⟩ (fun b o e => Heap.get?_push_of_some _ (Heap.get?_push_of_some _ e)) ?hS0 ?hR
        case hS0 =>
          have hget : ((s.heap.push (fresh0 w)).push { cls := .type "list_iterator", data := .fields #[.ref l, .int 0 0] }).get? s.heap.objs.size = some (fresh0 w) := Heap.get?_push_of_some _ hS
          exact ⟨[], #[], 0, _, bag0 hget, by rw [List.take_zero]⟩
        case hR =>
          intro s' L es ep t mv B pm
          obtain ⟨h', g', d', tk', os'⟩ := s'
          obtain rfl : g' = s.gens := mv.gens
          obtain rfl : d' = s.drawn := mv.drawn
          obtain rfl : os' = s.os := mv.os
          show wpAny _ _ _ _ _ _
          refine wpAny_pure ?_
          show wpAny _ _ (ret Value.none) _ _ _
          refine wpAny_pure ⟨rfl, h', tk', L, es, ep, t, rfl, B, pm, fun c o hc e => ?_⟩
          have n1 : c ≠ s.heap.objs.size := Nat.ne_of_lt hc
          have n2 : c ≠ (s.heap.push (fresh0 w)).objs.size := by
            rw [Heap.size_push]; exact Nat.ne_of_lt (Nat.lt_succ_of_lt hc)
          exact mv.heap c o (by simp only [List.mem_cons, List.mem_singleton, List.not_mem_nil, or_false, not_or]; exact ⟨n1, n2⟩) (Heap.get?_push_of_some _ (Heap.get?_push_of_some _ e))
      · cases r₂ with
        | error e => exact hr₂
        | ok fl₂ =>
          cases fl₂ with
          | ret r =>
            obtain ⟨rfl, h', tk, L, es, ep, t, rfl, B, pm, hk'⟩ := hr₂
            repeat (any_goals (first | assumption | wp_step))
            exact q _ _ _ _ _ _ B pm hk'
          | _ => exact hr₂.elim
    | _ => exact hr.elim
end
section
variable {X : Cx}
/-- len(set(xs)), xs a list of different tuples of texts -/
def tLenSetT (K : PySem.W.Frag) (ta : TE) : TE := fun σ H Q => ta σ H fun x H1 => ∃ (l : Addr) (ks : List (Addr × List Str)), x = .ref l ∧ SqL K H1 l (ks.map fun p => V.ref p.1) ∧ (∀ p ∈ ks, SqT K H1 p.1 (p.2.map V.str)) ∧ ks.length < 64 ∧ (ks.map (·.2)).Nodup ∧ Q (.int (ks.length : Nat)) H1
theorem words_is {P : Program} {w : World} : ∀ {k : List Str} {us : List Value}, Vals (k.map V.str) us → ItemsAre (PySem.strKind P w) k us
  | [], _, .nil => .nil
  | z :: k, _, .cons r t => by
    obtain ⟨tk, rfl⟩ := r
    exact .cons (strKind_is _ _ _ _) (words_is t)
theorem refs_is : ∀ {ks : List (Addr × List Str)} {us : List Value}, Vals (ks.map fun p => V.ref p.1) us → us = ks.map fun p => Value.ref p.1
  | [], _, .nil => rfl
  | p :: ks, _, .cons r t => by
    cases r
    rw [List.map_cons, ← refs_is t]
theorem pe_lenSetT {a : Expr} {ta : TE} {p p2 q pos : Pos} {k : Nat} (hr : Room k X.A) (hc : X.calm = true) (hg : Gl X "len") (hm : X.mg "len" = none) (hg2 : Gl X "set") (hm2 : X.mg "set" = none) (ha : PE X a ta)
    (na : starEach [a] X.env = (false, eval a X.env) :: starEach [] X.env := by rfl) : PE X (.Call (.Name "len" p) [.Call (.Name "set" p2) [a] [] q] [] pos) (tLenSetT X.K ta) := by
  refine ⟨fun pins s σ H Q I h => ?_⟩
  refine Call_ (ld_blt I hg hm boot_len ?_)
  refine PyProof.Rows.callWith_builtin1 (PyProof.Rows.args_cons ?_ rfl) rfl rfl
  refine Call_ (ld_blt I hg2 hm2 boot_set ?_)
  refine PyProof.Rows.callWith_type1 (PyProof.Rows.args_cons (thn (ha.run pins s σ H _ I h) fun v s1 ⟨x, H1, I1, r1, q1⟩ => PyProof.Rows.args_nil ?_) na) na rfl
  obtain ⟨l, ks, rfl, hq, ht, few, diff, q1⟩ := q1
  cases r1
  obtain ⟨its, r, pl, hz⟩ := I1.list hq
  have hu := hr.units
  refine call_setT (P := X.prog) (w := X.w) ks (I1.ok.hd hc) pl.isList (by simpa using refs_is r) (fun p hp => ?_) few diff (by omega) fun h' tk L es ep t B pm hk => ?_
  · obtain ⟨ts, rt, pt, _⟩ := I1.tuple (ht p hp)
    obtain ⟨o, ho, hcl, n, hd⟩ := pt
    exact ⟨o, ts.toArray, n, ho, hcl, hd, words_is rt⟩
  · refine PyProof.Rows.args_nil ?_
    obtain ⟨o, ho, hex, hd⟩ := B.obj
    have I2 : Inv X pins σ H1 { s1 with heap := h', toks := tk } := I1.kept fun c o e => hk c o (Heap.lt_size e) e
    have hn : es.size = ks.length := by
      have z : es.size = L.length := by rw [← Array.length_toList, B.cel, cells_len]
      rw [z, pm.length_eq]
    refine call_len_set ho hex hd (B.fit (s := { s1 with heap := h', toks := tk })) (by rw [hn] <;> omega) ⟨.int (ks.length : Nat), H1, I2.tok _, ⟨_, by rw [hn]⟩, q1⟩
end
end TxSet

set_option Elab.async false
set_option linter.all false
set_option maxRecDepth 100000
set_option maxHeartbeats 4000000
namespace EvE2
open PySem
open Sem (wp)
open AutoSeq1 (wpAny_loadPart')
abbrev kw3 (tk : Tok) : List (Str × Value) := [("start", .int 2 tk)]
theorem enum_new3 (l : Addr) (its : Array Value) (n : Nat) (dd : Option Addr) (ss : Array (Option Value)) (tk : Tok) :
    Meets (Builtin.«enumerate.__new__» ⟨[.type "enumerate", .ref l], kw3 tk⟩) (fun _ R s => s.heap.get? l = some ⟨.type "list", dd, .seq its n, ss⟩ ∧
      R (.ok (.ret (.ref (s.heap.push ⟨.type "list_iterator", none, .fields #[.ref l, .int 0 0], #[]⟩).objs.size)))
        { s with heap := (s.heap.push ⟨.type "list_iterator", none, .fields #[.ref l, .int 0 0], #[]⟩).push ⟨.type "enumerate", none, .fields #[.none, .bool false, .ref s.heap.objs.size, rawInt 2, .none, .none], #[]⟩ }) := by
  refine .of_wp fun prog w A R s h => ?_
  obtain ⟨hp, g, d, t, os⟩ := s
  obtain ⟨h0, hR⟩ := h
  have hsub := sub_enumerate
  have h1 : Heap.IsList (Shared.heap ⟨hp, g, d, t, os⟩) l its := ⟨_, h0, rfl, n, rfl⟩
  wp_walk using wpAny_loadPart' h0
  refine wpAny_stack_any fun st => ?_
  refine wpAny_pure ?_
  split
  · rename_i c _ _ _ _ _
    cases (c == Value.type "enumerate") <;> (wp_walk using wpAny_loadPart' h0, wpAny_pyIter_list h1; exact ⟨_, rfl, hR⟩)
  · wp_walk using wpAny_loadPart' h0, wpAny_pyIter_list h1
    exact ⟨_, rfl, hR⟩
theorem tc3 (a : Value) (tk : Tok) : checkTypeCall "enumerate" ⟨[a], kw3 tk⟩ = pure () := by kernel_rfl
theorem nc3 (a : Value) (tk : Tok) : checkBuiltinCall "enumerate.__new__" ⟨[.type "enumerate", a], kw3 tk⟩ = pure () := by kernel_rfl
theorem oi3 (o a : Value) (tk : Tok) : argsOk "object.__init__" ⟨[o, a], kw3 tk⟩ := by unfold argsOk; kernel_rfl
end EvE2
namespace EvE2
open PySem
open Sem (wp)
section
variable {prog : Program} {w : World} {A : Around} {E : Value → Shared → Prop} {s : Shared}
theorem obj_init_kw {T nid : String} {o a : Value} {kw : List (Str × Value)} (hl : typeLookup (.type T) "__init__" = pure (some (.builtin "object.__init__")))
    (hm : Bind.madeBy (.type T) = pure (some nid)) (hn : (some nid != some "object.__new__") = true) :
    Meets (Builtin.«object.__init__» ⟨[o, a], kw⟩) (fun _ R s => s.TypeIs o T ∧ R (.ok (.ret .none)) s) := by
  refine Meets.of_wp fun prog w A R s ⟨hT, hq⟩ => ?_
  repeat (any_goals (first | assumption | wp_step))
  exact ⟨_, rfl, hq⟩
theorem call_kw {T nid : String} {Bn : Builtin} {a : Value} {kw : List (Str × Value)} {S : Spec} {Q : Value → Shared → Prop} (ft : TypeCalled T nid "object.__init__") (hn : (some nid != some "object.__new__") = true)
    (c1 : checkTypeCall T ⟨[a], kw⟩ = pure ()) (c2 : checkBuiltinCall nid ⟨[.type T, a], kw⟩ = pure ()) (c3 : ∀ o, argsOk "object.__init__" ⟨[o, a], kw⟩) (en : entryFor table nid = some Bn) (g : Meets (Bn ⟨[.type T, a], kw⟩) S)
    (h : S A.in1 (wants (fun o s1 => s1.TypeIs o T ∧ Q o s1) E) s) : wpAny (model prog w) A (call (.type T) [a] kw) Q E s := by
  obtain ⟨mc, mt, hmro⟩ := ft.mro
  have hmade := ft.made
  have hsub := ft.sub
  have k1 := ft.notType
  have k2 := ft.canCreate
  refine wpAny_call (codeAny_of_tree ?_)
  show wpAny _ _ (callAny (.type T) _) _ _ _
  refine wpAny_pure ⟨Code.quiet_builtin _ (by decide +kernel), ?_⟩
  refine codeAny_builtin F.entry_type_call ?_
  rw [Around.under_plain (show (Code.builtin "type.__call__" ⟨[.type T, a], kw⟩).weight = 0 from rfl) (show (Code.builtin "type.__call__" ⟨[.type T, a], kw⟩).cUnits = 1 from rfl)]
  repeat (any_goals (first | assumption | wp_step))
  refine codeAny_mono (codeAny_call_builtin ft.plain en (wpAny_of_eq c2 (g prog w A.in1 _ s h))) ?_
  intro r1 s1 p1
  cases r1 with
  | error e => exact p1
  | ok f1 =>
    cases f1 with
    | ret o =>
      obtain ⟨hT, hq⟩ := p1
      have q1 := ft.init.lookup
      have q2 := ft.init.bind o
      have gi := obj_init_kw (o := o) (a := a) (kw := kw) ft.init.lookup ft.made hn
      repeat (any_goals (first | assumption | wp_step))
      refine codeAny_mono (codeAny_call_builtin ft.init.plain F.entry_object_init (ft.init.check _ _ _ _ _ _ _ _ hT (c3 o) (gi prog w A.in1 (wants (fun r s2 => r = .none ∧ Q o s2) E) s1 ⟨hT, rfl, hq⟩))) ?_
      intro r2 s2 p2
      cases r2 with
      | error e => exact p2
      | ok f2 =>
        cases f2 with
        | ret r =>
          obtain ⟨rfl, hq2⟩ := p2
          repeat (any_goals (first | assumption | wp_step))
        | _ => exact p2.elim
    | _ => exact p1.elim
theorem call_enum3 {l : Addr} {its : Array Value} {tk : Tok} {Q : Value → Shared → Prop} (hL : s.heap.IsList l its)
    (h : ∀ h', IsEnum h' (s.heap.objs.size + 1) s.heap.objs.size 2 .none → h'.IsListIter s.heap.objs.size l 0 → h'.objs.size = s.heap.objs.size + 2 →
      (∀ b o, s.heap.get? b = some o → h'.get? b = some o) → Q (.ref (s.heap.objs.size + 1)) { s with heap := h' }) :
    wpAny (model prog w) A (call (.type "enumerate") [.ref l] (kw3 tk)) Q E s := by
  obtain ⟨⟨c, dct, dt, sl⟩, hl, hc, n, hd⟩ := hL
  dsimp only at hc hd
  subst hc
  subst hd
  refine call_kw F.called_enumerate (by decide) (tc3 _ _) (nc3 _ _) (fun o => oi3 o _ _) F.entry_enumerate_new (enum_new3 l its n dct sl tk) ⟨hl, ?_⟩
  have hz : (s.heap.push ⟨.type "list_iterator", none, .fields #[.ref l, .int 0 0], #[]⟩).objs.size = s.heap.objs.size + 1 := Heap.size_push ..
  have he : IsEnum ((s.heap.push ⟨.type "list_iterator", none, .fields #[.ref l, .int 0 0], #[]⟩).push ⟨.type "enumerate", none, .fields #[.none, .bool false, .ref s.heap.objs.size, rawInt 2, .none, .none], #[]⟩) (s.heap.objs.size + 1) s.heap.objs.size 2 .none := by
    have z := Heap.get?_push_size (s.heap.push ⟨.type "list_iterator", none, .fields #[.ref l, .int 0 0], #[]⟩) (o := ⟨.type "enumerate", none, .fields #[.none, .bool false, .ref s.heap.objs.size, rawInt 2, .none, .none], #[]⟩) rfl
    rw [hz] at z
    exact z
  show _ ∧ _
  rw [hz]
  exact ⟨⟨_, he, rfl⟩, h _ he ⟨_, Heap.get?_push_of_some _ (Heap.get?_push_size _ rfl), rfl, rfl⟩ (by rw [Heap.size_push, hz]) (fun b o x => Heap.get?_push_of_some _ (Heap.get?_push_of_some _ x))⟩
end
end EvE2

set_option Elab.async false
set_option linter.all false
set_option maxRecDepth 100000
set_option maxHeartbeats 4000000
namespace EvE2
open PySem PySem.Spec PyProof.Rows L2 EvS
open Sem (wp)
/-- the items of the list at a, each in a new pair behind its number, from 3 -/
def It3 (K : PySem.W.Frag) (a : Addr) : It where
  go := fun i H => ∃ (zs : List V) (z : V), SqL K H a zs ∧ zs[i]? = some z
  yld := fun i H v H' => ∃ (p : Addr) (z : V), v = .ref p ∧ H p = none ∧ H' = upd H p (.tup [.int (2 + (i : Int)), z]) ∧ ∀ zs, SqL K H a zs → zs[i]? = some z
  stop := fun i H => ∃ zs : List V, SqL K H a zs ∧ zs.length = i
def St3 (a e it : Addr) (i : Nat) (h : Heap) : Prop := (∃ old, IsEnum h e it (2 + (i : Int)) old) ∧ h.IsListIter it a i ∧ e ≠ it
theorem two_of {e it b : Addr} (h : b ∈ [e, it]) : b = e ∨ b = it := by simpa using h
theorem turn3 {P : Program} {w : World} {K : PySem.W.Frag} {elts : List Expr} {kk : Nat} {tp : Pos} (a e it : Addr) : Turn P w K (.Tuple elts kk tp) (It3 K a) [e, it] e (St3 a e it) where
  mem := List.mem_cons_self
  obj := by
    rintro i h ⟨⟨old, he⟩, ⟨o, ho, hc, hd⟩, _⟩ b hb
    rcases two_of hb with rfl | rfl
    · exact ⟨_, he, fun v q => nomatch q⟩
    · exact ⟨o, ho, fun v q => by rw [hd] at q; cases q⟩
  keep := by
    rintro i h h2 ⟨⟨old, he⟩, hi, hne⟩ k
    exact ⟨⟨old, k e List.mem_cons_self _ he⟩, hi.at fun o q => k it (List.mem_cons_of_mem _ List.mem_cons_self) o q, hne⟩
  item := by
    intro X hP hw hK hc i pins s σ H E I hf st hg
    subst hP hw hK
    obtain ⟨⟨old, he⟩, hit, hne⟩ := st
    obtain ⟨zs, z, hq, hz⟩ := hg
    obtain ⟨its, rv, pl, _⟩ := I.list hq
    obtain ⟨u, hu, ru⟩ := rv.get hz
    have s1 : e < s.heap.objs.size := Heap.lt_size he
    have s2 : it < s.heap.objs.size := by
      obtain ⟨_, q, _⟩ := hit
      exact Heap.lt_size q
    have lis := pl.isList
    have ea : a ≠ e := fun z => by
      obtain ⟨o, ho, hcl, _⟩ := lis
      rw [z, he] at ho
      cases ho
      injection hcl with q
      exact absurd q (by decide)
    have ia : a ≠ it := fun z => by
      obtain ⟨o, ho, hcl, _⟩ := lis
      obtain ⟨o2, ho2, hcl2, _⟩ := hit
      rw [z, ho2] at ho
      cases ho
      rw [hcl2] at hcl
      injection hcl with q
      exact absurd q (by decide)
    have hu' : its.toArray[i]? = some u := by simpa using hu
    have hi : i < its.toArray.size := by
      rcases Nat.lt_or_ge i its.toArray.size with q | q
      · exact q
      · rw [Array.getElem?_eq_none q] at hu'
        cases hu'
    refine wpAny_pyNext_enum_itemC (Draws.list (A := X.A.in1) (show X.A.in1.handled = none from I.ok.hd hc) it a ia its.toArray) he ⟨hit, lis⟩ hi hne (by simp [hne, ea.symm]) fun x h2 tk px ho st2 hT hsz hk => ?_
    obtain rfl : x = u := Option.some.inj (px.symm.trans hu')
    refine ⟨_, rfl, wpAny_letOwnedTupleGo_enum (s := { s with heap := h2, toks := tk + 1 }) ho fun h3 he3 sb => ?_⟩
    have hT3 : h3.get? s.heap.objs.size = some ⟨.type "tuple", none, .seq #[.int (2 + (i : Int)) tk, x] 0, #[]⟩ := (sb.2 _ (Nat.ne_of_gt s1)).trans hT
    have new : ObjOk X.prog X.w (upd H s.heap.objs.size (.tup [.int (2 + (i : Int)), z])) h3 s.heap.objs.size (.tup [.int (2 + (i : Int)), z]) :=
      ⟨by show 2 ≤ sizeLine; decide, [.int (2 + (i : Int)) tk, x], .cons ⟨_, rfl⟩ (.cons ru .nil), ⟨_, hT3, rfl, _, rfl⟩⟩
    have I2 : Inv X pins σ (upd H s.heap.objs.size (.tup [.int (2 + (i : Int)), z])) { s with heap := h3, toks := tk + 1 } :=
      I.turnedNew (ch := [e, it]) (fun b ob hb q => (sb.2 b (fun y => hb (by rw [y]; exact List.mem_cons_self))).trans (hk b ob (fun y => hb (by rw [y]; exact List.mem_cons_self)) (fun y => hb (by rw [y]; exact List.mem_cons_of_mem _ List.mem_cons_self)) q)) hf (Nat.le_refl _) new
    have fr : H s.heap.objs.size = none := I.hok.fresh (Nat.le_refl _)
    refine ⟨.ref s.heap.objs.size, _, I2, rfl, ⟨_, z, rfl, fr, rfl, fun ys hy => by rw [I.list_inj hy hq]; exact hz⟩, ⟨⟨x, ?_⟩, st2.1.at fun o q => (sb.2 it (Ne.symm hne)).trans q, hne⟩, fun b hb => ?_⟩
    · rw [show (2 + ((i + 1 : Nat) : Int)) = 2 + (i : Int) + 1 by omega]
      exact he3
    · have lt : b < s.heap.objs.size := by
        rcases two_of hb with rfl | rfl
        · exact s1
        · exact s2
      rw [upd_ne (Nat.ne_of_lt lt)]
      exact (hf b hb).1
  done := by
    intro X hP hw hK hc i pins s σ H E I hf st hg
    subst hP hw hK
    obtain ⟨⟨old, he⟩, hit, hne⟩ := st
    obtain ⟨zs, hq, hz⟩ := hg
    obtain ⟨its, rv, pl, _⟩ := I.list hq
    have lis := pl.isList
    have hl := rv.length
    have ia : a ≠ it := fun z => by
      obtain ⟨o, ho, hcl, _⟩ := lis
      obtain ⟨o2, ho2, hcl2, _⟩ := hit
      rw [z, ho2] at ho
      cases ho
      rw [hcl2] at hcl
      injection hcl with q
      exact absurd q (by decide)
    obtain ⟨f0, f1, f2, f3, f4, f5⟩ := hf it (List.mem_cons_of_mem _ List.mem_cons_self)
    have ei : i = its.toArray.size := by
      rw [List.size_toArray]
      omega
    rw [ei] at hit
    exact wpAny_pyNext_enum_endD (Draws.list (A := X.A.in1) (show X.A.in1.handled = none from I.ok.hd hc) it a ia its.toArray) he ⟨hit, lis⟩ fun h2 eb => ⟨rfl, I.turned (t' := s.toks) (fun b o hb q => eb b o hb q) f0 f1 f3 f4 f5⟩
  self := fun A i s Q E st h => by
    obtain ⟨⟨_, he⟩, _⟩ := st
    exact wpAny_pyIter_enum he h
section
variable {M : Model} {A : Around} {E : Value → Shared → Prop} {s : Shared} {env : Env}
theorem cw_kw {pos : Pos} {T : String} {e : Expr} {kws : List Keyword} {Q : Value → Shared → Prop}
    (h : wpAny M A (spliced (backTo pos (starEach [e] env))) (fun vs s1 => wpAny M A (evalAll ((backToKw pos (keywordEach kws env)).map (·.2)))
      (fun us s2 => wpAny M A (call (.type T) vs (((backToKw pos (keywordEach kws env)).filterMap (·.1)).zip us)) Q E s2) E s1) E s)
    (he : backTo pos (starEach [e] env) = (false, eval e env) :: backTo pos (starEach [] env) := by rfl) (hall : (backToKw pos (keywordEach kws env)).all (·.1.isSome) = true := by rfl)
    (hp : (backTo pos (starEach [e] env)).any (·.1) = false := by rfl) (hk : (backToKw pos (keywordEach kws env)).any (·.1.isNone) = false := by rfl) :
    wpAny M A (callWith pos (.type T) [] (backTo pos (starEach [e] env)) (backToKw pos (keywordEach kws env))) Q E s := by
  rw [he] at h hp ⊢
  have z := evalArgs_kwB (f := .type T) (Q := fun a s2 => wpAny M A (call (.type T) ([] ++ a.pos) a.kw) Q E s2) hall h
  unfold callWith
  refine wpAny_bind (wpAny_holding (wpAny_mono z ?_ fun _ _ x => x))
  intro b s3 h3
  refine wpAny_bind (wpAny_standAt ?_)
  simp only [hp, hk, Bool.or_false]
  refine wpAny_bind ?_
  refine wpAny_pure ?_
  refine wpAny_bind (wpAny_mono h3 ?_ fun _ _ x => x)
  exact fun r s4 hr => wpAny_bind (wpAny_holding (wpAny_point (wpAny_pure hr)))
end
section
variable {X : Cx} {e : Expr} {ta : TA} {p pos tp cp kp : Pos} {elts : List Expr} {kk : Nat} {ck : Option Str}
def iEnum3 (K : PySem.W.Frag) (ta : TA) : TI := fun σ H R => ta σ H fun vs H1 => ∃ a zs, vs = [.ref a] ∧ SqL K H1 a zs ∧ R (It3 K a) H1
theorem pi_enum3 {c : Expr} (hg : Gl X "enumerate") (hm : X.mg "enumerate" = none) (ha : PA X [e] ta) (hc : PE X c (tC (.int 2)))
    (he : backTo pos (starEach [e] X.env) = (false, eval e X.env) :: backTo pos (starEach [] X.env) := by rfl) (hn : (backToKw pos (keywordEach [⟨some "start", c, kp⟩] X.env)).filterMap (·.1) = [("start" : Str)] := by rfl)
    (hall : (backToKw pos (keywordEach [⟨some "start", c, kp⟩] X.env)).all (·.1.isSome) = true := by rfl)
    (hp : (backTo pos (starEach [e] X.env)).any (·.1) = false := by rfl) (hk : (backToKw pos (keywordEach [⟨some "start", c, kp⟩] X.env)).any (·.1.isNone) = false := by rfl) :
    PI X (.Tuple elts kk tp) (.Call (.Name "enumerate" p) [e] [⟨some "start", c, kp⟩] pos) (iEnum3 X.K ta) := by
  refine ⟨fun pins s σ H R I h => ?_⟩
  refine wpAny_Call_Name_kw (ld_blt I hg hm boot_enumerate (cw_kw ?_ he hall hp hk))
  refine thn (ha.run pos pins s σ H _ I h) fun us s1 ⟨vs, H1, I1, r1, q1⟩ => ?_
  obtain ⟨a, zs, ex, hq, q⟩ := q1
  subst ex
  have kq := (pk_cons (nm := some "start") (kpos := kp) hc pk_nil).run pos pins s1 σ H1 (fun ws H2 => ws = [.int 2] ∧ H2 = H1) I1 ⟨rfl, rfl⟩
  refine thn kq fun ws s2 ⟨vs2, H2, I2, r2, e2, eH⟩ => ?_
  subst e2
  subst eH
  rw [hn]
  obtain ⟨u, rfl, hu⟩ := vals1 r2
  obtain ⟨tk, rfl⟩ := hu
  cases r1 with
  | cons r rr =>
    cases rr
    cases r
    obtain ⟨its, rv, pl, hz⟩ := I2.list hq
    refine call_enum3 pl.isList fun h2 hE hI hsz hk2 => wpAny_pyIter_enum hE ?_
    have I3 : Inv X pins σ H2 { s2 with heap := h2 } := I2.kept (t' := s2.toks) hk2
    refine ⟨s2.heap.objs.size + 1, [s2.heap.objs.size + 1, s2.heap.objs.size], _, _, H2, rfl, I3, turn3 a (s2.heap.objs.size + 1) s2.heap.objs.size, ⟨⟨.none, hE⟩, hI, Nat.succ_ne_self _⟩, fun b hb => ?_, q⟩
    have lb : s2.heap.objs.size ≤ b := by
      rcases two_of hb with z | z
      · rw [z]
        exact Nat.le_add_right _ _
      · rw [z]
        exact Nat.le_refl _
    exact I2.fpOk lb (I2.hok.fresh lb)
end
/-- over an enumerated list that the body leaves as it is -/
theorem for_enum3 {K : PySem.W.Frag} {a : Addr} {xs : List V} {g : TG} {tb : TS} {D : Ends} {σ : L2.St} {H : Hp} (Pv : Nat → L2.St → Hp → Prop) (h0 : Pv 0 σ H) (hl : ∀ i σ H, i ≤ xs.length → Pv i σ H → SqL K H a xs)
    (hs : ∀ i x p σ H, xs[i]? = some x → Pv i σ H → H p = none → g (.ref p) σ (upd H p (.tup [.int (2 + (i : Int)), x])) fun σ2 H2 => tb { D with nx := Pv (i + 1), ct := Pv (i + 1), bk := D.nx } σ2 H2) (hd : ∀ σ H, Pv xs.length σ H → D.nx σ H) :
    ∃ W : Nat → Nat → L2.St → Hp → Prop, (∃ m, W 0 m σ H) ∧ ∀ i m σ H, W i m σ H → ((It3 K a).stop i H ∧ D.nx σ H) ∨
      ((It3 K a).go i H ∧ ∃ N : L2.St → Hp → Prop, (∀ σ' H', N σ' H' → ∃ m', m' < m ∧ W (i + 1) m' σ' H') ∧ ∀ v H', (It3 K a).yld i H v H' → g v σ H' fun σ2 H2 => tb { D with nx := N, ct := N, bk := D.nx } σ2 H2) := by
  refine ⟨fun i m σ H => m = xs.length - i ∧ i ≤ xs.length ∧ Pv i σ H, ⟨xs.length, rfl, Nat.zero_le _, h0⟩, ?_⟩
  rintro i m σ H ⟨rfl, hi, p⟩
  have q := hl i σ H hi p
  by_cases lt : i < xs.length
  · refine .inr ⟨⟨xs, xs[i], q, List.getElem?_eq_getElem lt⟩, Pv (i + 1), fun σ' H' p' => ⟨xs.length - (i + 1), by omega, rfl, lt, p'⟩, fun v H' y => ?_⟩
    obtain ⟨t, z, rfl, ht, rfl, hz⟩ := y
    exact hs i z t σ H (hz xs q) p ht
  · obtain rfl : i = xs.length := by omega
    exact .inl ⟨⟨xs, q, rfl⟩, hd σ H p⟩
end EvE2

set_option Elab.async false
set_option linter.all false
set_option maxRecDepth 100000
set_option maxHeartbeats 4000000
namespace TX
open PySem PySem.Spec PyProof.Rows L2 EvS Evl
mutual
theorem dp_ex {K : PySem.W.Frag} {H H' : Hp} (e : Ex H H') : ∀ {v : V} {d : PyData}, Dp K H v d → Dp K H' v d
  | _, _, .non => .non
  | _, _, .bl b => .bl b
  | _, _, .int i => .int i
  | _, _, .str x => .str x
  | _, _, .lst h r => .lst (ex_l e h) (dps_ex e r)
  | _, _, .tup h r => .tup (ex_t e h) (dps_ex e r)
theorem dps_ex {K : PySem.W.Frag} {H H' : Hp} (e : Ex H H') : ∀ {vs : List V} {ds : List PyData}, DpAll K H vs ds → DpAll K H' vs ds
  | _, _, .nil => .nil
  | _, _, .cons h r => .cons (dp_ex e h) (dps_ex e r)
end
theorem dps_len {K : PySem.W.Frag} {H : Hp} : ∀ {vs : List V} {ds : List PyData}, DpAll K H vs ds → vs.length = ds.length
  | _, _, .nil => rfl
  | _, _, .cons _ r => congrArg Nat.succ (dps_len r)
theorem dps_at {K : PySem.W.Frag} {H : Hp} : ∀ {vs : List V} {ds : List PyData} {i : Nat} {v : V}, DpAll K H vs ds → vs[i]? = some v → ∃ d, ds[i]? = some d ∧ Dp K H v d
  | _, _, _, _, .nil, h => by simp at h
  | _, _, 0, _, .cons h _, e => by
    simp only [List.getElem?_cons_zero, Option.some.injEq] at e
    subst e
    exact ⟨_, rfl, h⟩
  | _, _, i + 1, _, .cons _ r, e => by
    simp only [List.getElem?_cons_succ] at e
    exact dps_at (i := i) r e
theorem dps_app {K : PySem.W.Frag} {H : Hp} : ∀ {vs us : List V} {ds es : List PyData}, DpAll K H vs ds → DpAll K H us es → DpAll K H (vs ++ us) (ds ++ es)
  | _, _, _, _, .nil, b => b
  | _, _, _, _, .cons h r, b => .cons h (dps_app r b)
theorem dps_one {K : PySem.W.Frag} {H : Hp} {v : V} {d : PyData} (h : Dp K H v d) : DpAll K H [v] [d] := .cons h .nil
theorem dps_str {K : PySem.W.Frag} {H : Hp} : ∀ ns : List Str, DpAll K H (ns.map V.str) (ns.map PyData.str)
  | [] => .nil
  | n :: r => .cons (.str n) (dps_str r)
theorem dps_strs {K : PySem.W.Frag} {H : Hp} : ∀ {ns : List Str} {vs : List V}, DpAll K H vs (ns.map PyData.str) → vs = ns.map V.str
  | [], _, .nil => rfl
  | n :: r, _, .cons h t => by
    cases h
    rw [dps_strs t]
    rfl
def Seq2 (K : PySem.W.Frag) (H : Hp) (p : Addr) (xs : List V) : Prop := SqL K H p xs ∨ SqT K H p xs
theorem Seq2.ex {K : PySem.W.Frag} {H H' : Hp} {p : Addr} {xs : List V} (e : Ex H H') (h : Seq2 K H p xs) : Seq2 K H' p xs := h.elim (fun q => .inl (ex_l e q)) (fun q => .inr (ex_t e q))
mutual
def frozen : PyData → Bool
  | .none => true
  | .bool _ => true
  | .int _ => true
  | .str _ => true
  | .tuple ds => frozenAll ds
  | .list _ => false
  | .dict _ => false
def frozenAll : List PyData → Bool
  | [] => true
  | d :: ds => frozen d && frozenAll ds
end
theorem frozenAll_of : ∀ {ds : List PyData}, (∀ d ∈ ds, frozen d = true) → frozenAll ds = true
  | [], _ => by simp [frozenAll]
  | d :: ds, h => by
    rw [frozenAll, h d List.mem_cons_self, frozenAll_of fun x hx => h x (List.mem_cons_of_mem _ hx)]
    rfl
theorem frozen_strs (ls : List Str) : frozenAll (ls.map PyData.str) = true := frozenAll_of fun d hd => by
  obtain ⟨b, _, rfl⟩ := List.mem_map.mp hd
  simp [frozen]
def ExT (H H' : Hp) : Prop := ∀ a xs, Rd H a (.tup xs) → Rd H' a (.tup xs)
theorem exT_of {H H' : Hp} (e : Ex H H') : ExT H H' := fun _ _ h => ex_rd e h
theorem ExT.trans {H H1 H2 : Hp} (a : ExT H H1) (b : ExT H1 H2) : ExT H H2 := fun x y h => b x y (a x y h)
theorem exT_mut {H : Hp} {l : Addr} {xs ys : List V} (h : H l = some (.lst xs)) : ExT H (upd H l (.lst ys)) := fun a zs r => by
  rcases r with r | ⟨o, r⟩
  · exact .inl (by rw [upd_ne (ne_of r h (by intro z; cases z))]; exact r)
  · exact .inr ⟨o, by rw [upd_ne (ne_of r h (by intro z; cases z))]; exact r⟩
theorem exT_t {K : PySem.W.Frag} {H H' : Hp} {p : Addr} {xs : List V} (e : ExT H H') (h : SqT K H p xs) : SqT K H' p xs := h.elim (fun r => .inl (e _ _ r)) .inr
mutual
theorem dp_exT {K : PySem.W.Frag} {H H' : Hp} (e : ExT H H') : ∀ {v : V} {d : PyData}, Dp K H v d → frozen d = true → Dp K H' v d
  | _, _, .non, _ => .non
  | _, _, .bl b, _ => .bl b
  | _, _, .int i, _ => .int i
  | _, _, .str x, _ => .str x
  | _, _, .lst _ _, f => by simp [frozen] at f
  | _, _, .tup h r, f => .tup (exT_t e h) (dps_exT e r (by simpa [frozen] using f))
theorem dps_exT {K : PySem.W.Frag} {H H' : Hp} (e : ExT H H') : ∀ {vs : List V} {ds : List PyData}, DpAll K H vs ds → frozenAll ds = true → DpAll K H' vs ds
  | _, _, .nil, _ => .nil
  | _, _, .cons h r, f => by
    simp only [frozenAll, Bool.and_eq_true] at f
    exact .cons (dp_exT e h f.1) (dps_exT e r f.2)
end
inductive All2 {α β : Type} (R : α → β → Prop) : List α → List β → Prop
  | nil : All2 R [] []
  | cons {a : α} {b : β} {as : List α} {bs : List β} : R a b → All2 R as bs → All2 R (a :: as) (b :: bs)
theorem All2.len {α β : Type} {R : α → β → Prop} : ∀ {as : List α} {bs : List β}, All2 R as bs → as.length = bs.length
  | _, _, .nil => rfl
  | _, _, .cons _ r => congrArg Nat.succ r.len
def del (H : Hp) (D : Addr) : Hp := fun a => if a = D then none else H a
theorem del_upd {H : Hp} {D : Addr} {o : HO} : del (upd H D o) D = del H D := by
  funext a
  unfold del
  by_cases h : a = D
  · rw [if_pos h, if_pos h]
  · rw [if_neg h, if_neg h, upd_ne h]
theorem del_ex {H : Hp} {D : Addr} : Ex (del H D) H := fun a o h => by
  unfold del at h
  split at h
  · cases h
  · exact h
theorem ex_del {H H' : Hp} {D : Addr} (e : Ex H H') : Ex (del H D) (del H' D) := fun a o h => by
  unfold del at h ⊢
  split at h
  · cases h
  · rename_i n
    rw [if_neg n]
    exact e _ _ h
theorem ex_to_del {H H' : Hp} {D : Addr} (e : Ex H H') (h : H D = none) : Ex H (del H' D) := fun a o q => by
  unfold del
  rw [if_neg (ne_of_none q h)]
  exact e _ _ q
theorem del_at {H : Hp} {D a : Addr} {o : HO} (n : a ≠ D) (h : H a = some o) : del H D a = some o := by
  unfold del
  rw [if_neg n]
  exact h
theorem dps_drop {K : PySem.W.Frag} {H : Hp} : ∀ {vs : List V} {ds : List PyData} (n : Nat), DpAll K H vs ds → DpAll K H (vs.drop n) (ds.drop n)
  | _, _, 0, h => h
  | _, _, _ + 1, .nil => .nil
  | _, _, n + 1, .cons _ r => dps_drop n r
theorem dps_take {K : PySem.W.Frag} {H : Hp} : ∀ {vs : List V} {ds : List PyData} (n : Nat), DpAll K H vs ds → DpAll K H (vs.take n) (ds.take n)
  | _, _, 0, _ => .nil
  | _, _, _ + 1, .nil => .nil
  | _, _, n + 1, .cons h r => .cons h (dps_take n r)
theorem cut_from (xs : List V) (n : Nat) : cutV xs (some (n : Int)) none = xs.drop n := by
  unfold cutV
  rw [HT.sIx_nat, HT.sIx_none]
  rcases Nat.le_total n xs.length with h | h
  · rw [Nat.min_eq_left h, List.take_of_length_le (by rw [List.length_drop]; exact Nat.le_refl _)]
  · rw [Nat.min_eq_right h, List.drop_length, List.drop_eq_nil_of_le h, List.take_nil]
theorem cut_to (xs : List V) (n : Nat) : cutV xs none (some (n : Int)) = xs.take n := by
  unfold cutV
  rw [HT.sIx_nat, HT.sIx_none, List.drop_zero, Nat.sub_zero]
  rcases Nat.le_total n xs.length with h | h
  · rw [Nat.min_eq_left h]
  · rw [Nat.min_eq_right h, List.take_length, List.take_of_length_le h]
theorem lay_of : ∀ {ds : List PyData}, (∀ d ∈ ds, PyData.canLay0 d = true) → PyData.canLayAll0 ds = true
  | [], _ => by simp [PyData.canLayAll0]
  | d :: ds, h => by
    rw [PyData.canLayAll0, h d List.mem_cons_self, lay_of fun x hx => h x (List.mem_cons_of_mem _ hx)]
    rfl
theorem deep_of {n : Nat} : ∀ {ds : List PyData}, (∀ d ∈ ds, PyData.depth d ≤ n) → PyData.depthAll ds ≤ n
  | [], _ => by simp [PyData.depthAll]
  | d :: ds, h => by
    have h1 := h d List.mem_cons_self
    have h2 := deep_of (n := n) (ds := ds) fun x hx => h x (List.mem_cons_of_mem _ hx)
    simp only [PyData.depthAll]
    omega
def Sh (n : Nat) (d : PyData) : Prop := PyData.canLay0 d = true ∧ PyData.depth d ≤ n
theorem sh_tup {n : Nat} {ds : List PyData} (h : ∀ d ∈ ds, Sh n d) : Sh (n + 1) (.tuple ds) := by
  have := deep_of (n := n) fun d hd => (h d hd).2
  exact ⟨by simp only [PyData.canLay0]; exact lay_of fun d hd => (h d hd).1, by simp only [PyData.depth]; omega⟩
theorem sh_lst {n : Nat} {ds : List PyData} (h : ∀ d ∈ ds, Sh n d) : Sh (n + 1) (.list ds) := by
  have := deep_of (n := n) fun d hd => (h d hd).2
  exact ⟨by simp only [PyData.canLay0]; exact lay_of fun d hd => (h d hd).1, by simp only [PyData.depth]; omega⟩
theorem sh_int (i : Int) (n : Nat) : Sh (n + 1) (.int i) := ⟨by simp only [PyData.canLay0], by simp only [PyData.depth]; omega⟩
theorem sh_up {n m : Nat} {d : PyData} (h : n ≤ m) (q : Sh n d) : Sh m d := ⟨q.1, Nat.le_trans q.2 h⟩
theorem sh_shaped {n : Nat} {d : PyData} (h : Sh n d) (hn : n ≤ 64) : SeqAt.shaped d = true := by
  show (PyData.canLay0 d && decide (PyData.depth d ≤ 64)) = true
  rw [Bool.and_eq_true]
  exact ⟨h.1, decide_eq_true (Nat.le_trans h.2 hn)⟩
theorem mem4 {α : Type} {x a b c d : α} (h : x ∈ [a, b, c, d]) : x = a ∨ x = b ∨ x = c ∨ x = d := by simpa using h
theorem eqv_self {d : PyData} (h : SeqAt.shaped d = true) : PyData.eqv d d = true := SeqAt.eqv_refl _ (SeqAt.canLay_of_shaped h)
theorem dps_set {K : PySem.W.Frag} {H : Hp} : ∀ {vs : List V} {ds : List PyData} {v : V} {d : PyData} (i : Nat), DpAll K H vs ds → Dp K H v d → DpAll K H (vs.set i v) (ds.set i d)
  | _, _, _, _, _, .nil, _ => .nil
  | _, _, _, _, 0, .cons _ r, h => .cons h r
  | _, _, _, _, i + 1, .cons a r, h => .cons a (dps_set i r h)
theorem sh_st {z : Str} {n : Nat} (h : PyData.strOk z = true) : Sh (n + 1) (.str z) := ⟨by simp only [PyData.canLay0]; exact h, by simp only [PyData.depth]; omega⟩
theorem sh_none {n : Nat} : Sh (n + 1) .none := ⟨by simp only [PyData.canLay0], by simp only [PyData.depth]; omega⟩
theorem iteNF {A B : Prop} (h : A) : if (!false) = true then A else B := by
  rw [Bool.not_false, if_pos rfl]
  exact h
theorem take_one {α : Type} {l : List α} {i : Nat} {x : α} (h : l[i]? = some x) : l.take (i + 1) = l.take i ++ [x] := by
  rw [List.take_add_one, h]
  rfl
theorem iteNT {A B : Prop} (h : B) : if (!true) = true then A else B := by
  rw [if_neg (by decide)]
  exact h
theorem exT_del {H : Hp} {A : Addr} {xs : List V} (h : H A = some (.lst xs)) : ExT H (del H A) := fun x zs r => by
  have nx : x ≠ A := fun q => by
    rcases r with r | ⟨o, r⟩
    · rw [q, h] at r; cases r
    · rw [q, h] at r; cases r
  rcases r with r | ⟨o, r⟩
  · exact .inl (del_at nx r)
  · exact .inr ⟨o, del_at nx r⟩
theorem at_in {α : Type} {xs : List α} {i : Int} (h0 : 0 ≤ i) (h : i < xs.length) : ∃ v, atI xs i = some v ∧ xs[i.toNat]? = some v ∧ v ∈ xs := by
  have hl : i.toNat < xs.length := by omega
  have e : xs[i.toNat]? = some xs[i.toNat] := List.getElem?_eq_getElem hl
  have z : atI xs ((i.toNat : Nat) : Int) = some xs[i.toNat] := atI_nat e
  rw [show ((i.toNat : Nat) : Int) = i by omega] at z
  exact ⟨xs[i.toNat], z, e, List.getElem_mem hl⟩
/-- the numbers that a law draws -/
structure Nm (K : PySem.W.Frag) (H : Hp) (p : Addr) (ks : List Int) : Prop where
  at_ : SqL K H p (ks.map V.int)
  sm : ∀ n ∈ ks, 0 ≤ n ∧ n < 1009
theorem Nm.ex {K : PySem.W.Frag} {H H' : Hp} {p : Addr} {ks : List Int} (e : Ex H H') (h : Nm K H p ks) : Nm K H' p ks := ⟨ex_l e h.at_, h.sm⟩
theorem Nm.get {K : PySem.W.Frag} {H : Hp} {p : Addr} {ks : List Int} (h : Nm K H p ks) {i : Int} (h0 : 0 ≤ i) (h1 : i < ks.length) : ∃ n, 0 ≤ n ∧ n < 1009 ∧ atI (ks.map V.int) i = some (.int n) := by
  obtain ⟨v, hv, _, hm⟩ := at_in (xs := ks.map V.int) h0 (by rw [List.length_map]; exact h1)
  obtain ⟨n, hn, rfl⟩ := List.mem_map.mp hm
  exact ⟨n, (h.sm n hn).1, (h.sm n hn).2, hv⟩
/-- an f-string as one reading -/
def tJd (ts : List TE) : TE := fun σ H Q => tJs ts Str.empty σ H fun out H1 => Q (.str out) H1
theorem pe_jd {X : Cx} {v1 v2 : Expr} {rest : List Expr} {pos : Pos} {ts : List TE} (h : PJ X (v1 :: v2 :: rest) ts) : PE X (.JoinedStr (v1 :: v2 :: rest) pos) (tJd ts) := pe_joined h
end TX

set_option Elab.async false
set_option linter.all false
set_option maxRecDepth 100000
set_option maxHeartbeats 4000000
namespace EV
open PySem PySem.Spec PyProof.Rows L2 EvS
def top (i : Nat) : Stmt := PySem.Challenge.pw_everyfire_k60_paper_texts.main.body.getD i (.Pass ⟨0, 0, 0, 0⟩)
abbrev s_is_name : Stmt := top 7
abbrev s_is_number : Stmt := top 10
abbrev s_has_form : Stmt := top 12
abbrev s__fits : Stmt := top 13
abbrev s_Paper_init : Stmt := inClass (top 18) 0
abbrev s_paper_text : Stmt := top 22
abbrev s_parse_paper : Stmt := top 23
abbrev s__wrong_line : Stmt := top 24
abbrev s__rows_of : Stmt := top 25
abbrev s__link_word : Stmt := top 26
abbrev s__read_link : Stmt := top 27
abbrev s__law_row : Stmt := top 29
abbrev s__law_numbers : Stmt := top 30
abbrev s_law : Stmt := top 31
theorem sc_is_name : FnScope ["text", "sign"] ["text"] (defScope s_is_name) := ⟨rfl, rfl, rfl, by decide +kernel, rfl, by decide +kernel, by decide +kernel⟩
theorem sc_is_number : FnScope ["word", "sign"] ["word"] (defScope s_is_number) := ⟨rfl, rfl, rfl, by decide +kernel, rfl, by decide +kernel, by decide +kernel⟩
theorem sc_has_form : FnScope ["words", "form", "slots", "word", "slot"] ["words", "form"] (defScope s_has_form) := ⟨rfl, rfl, rfl, by decide +kernel, rfl, by decide +kernel, by decide +kernel⟩
theorem sc__fits : FnScope ["word", "slot"] ["word", "slot"] (defScope s__fits) := ⟨rfl, rfl, rfl, by decide +kernel, rfl, by decide +kernel, by decide +kernel⟩
theorem sc_Paper_init : FnScope ["self", "word", "labels", "chain", "label", "row"] ["self", "word", "labels", "chain"] (defScope s_Paper_init) := ⟨rfl, rfl, rfl, by decide +kernel, rfl, by decide +kernel, by decide +kernel⟩
theorem sc_paper_text : FnScope ["told", "lines", "place", "minute", "link"] ["told"] (defScope s_paper_text) := ⟨rfl, rfl, rfl, by decide +kernel, rfl, by decide +kernel, by decide +kernel⟩
theorem sc_parse_paper : FnScope ["text", "lines", "wrong", "rows", "labels", "chain", "line", "place", "minute", "word"] ["text"] (defScope s_parse_paper) := ⟨rfl, rfl, rfl, by decide +kernel, rfl, by decide +kernel, by decide +kernel⟩
theorem sc__wrong_line : FnScope ["lines", "firsts", "forms", "sorts", "reached", "number", "line", "words", "form"] ["lines", "firsts", "forms"] (defScope s__wrong_line) := ⟨rfl, rfl, rfl, by decide +kernel, rfl, by decide +kernel, by decide +kernel⟩
theorem sc__rows_of : FnScope ["sort", "rows", "row"] ["sort", "rows"] (defScope s__rows_of) := ⟨rfl, rfl, rfl, by decide +kernel, rfl, by decide +kernel, by decide +kernel⟩
theorem sc__link_word : FnScope ["link"] ["link"] (defScope s__link_word) := ⟨rfl, rfl, rfl, by decide +kernel, rfl, by decide +kernel, by decide +kernel⟩
theorem sc__read_link : FnScope ["word"] ["word"] (defScope s__read_link) := ⟨rfl, rfl, rfl, by decide +kernel, rfl, by decide +kernel, by decide +kernel⟩
theorem sc__law_row : FnScope ["cell", "many", "row", "rest", "mixed", "k"] ["cell", "many"] (defScope s__law_row) := ⟨rfl, rfl, rfl, by decide +kernel, rfl, by decide +kernel, by decide +kernel⟩
theorem sc__law_numbers : FnScope ["script", "many", "cells", "each", "numbers", "cell", "number"] ["script", "many"] (defScope s__law_numbers) := ⟨rfl, rfl, rfl, by decide +kernel, rfl, by decide +kernel, by decide +kernel⟩
theorem sc_law : FnScope ["script", "numbers", "names", "word", "labels", "k", "chain", "link", "lines", "place", "minute", "middle", "text", "told", "actual", "read", "small", "row"] ["script"] (defScope s_law) := ⟨rfl, rfl, rfl, by decide +kernel, rfl, by decide +kernel, by decide +kernel⟩
/-- where the top has put things -/
structure Ad where
  C_Paper : Addr
  q_PAPER_LINES : Addr
  f_is_name : Addr
  d_is_name : FuncData
  f_is_number : Addr
  d_is_number : FuncData
  f_has_form : Addr
  d_has_form : FuncData
  f__fits : Addr
  d__fits : FuncData
  f_Paper_init : Addr
  d_Paper_init : FuncData
  f_paper_text : Addr
  d_paper_text : FuncData
  f_parse_paper : Addr
  d_parse_paper : FuncData
  f__wrong_line : Addr
  d__wrong_line : FuncData
  f__rows_of : Addr
  d__rows_of : FuncData
  f__link_word : Addr
  d__link_word : FuncData
  f__read_link : Addr
  d__read_link : FuncData
  f__law_row : Addr
  d__law_row : FuncData
  f__law_numbers : Addr
  d__law_numbers : FuncData
  f_law : Addr
  d_law : FuncData
structure Txt (K : PySem.W.Frag) (mg : Str → Option Value) (a : Ad) : Prop where
  F_is_name : Fun K "is_name" "is_name" s_is_name a.f_is_name a.d_is_name
  B_is_name : Binds K a.d_is_name ["text"] []
  k_is_name : PySem.W.keepIn K (.ref a.f_is_name) = true
  g_is_name : mg "is_name" = some (.ref a.f_is_name)
  F_is_number : Fun K "is_number" "is_number" s_is_number a.f_is_number a.d_is_number
  B_is_number : Binds K a.d_is_number ["word"] []
  k_is_number : PySem.W.keepIn K (.ref a.f_is_number) = true
  g_is_number : mg "is_number" = some (.ref a.f_is_number)
  F_has_form : Fun K "has_form" "has_form" s_has_form a.f_has_form a.d_has_form
  B_has_form : Binds K a.d_has_form ["words", "form"] []
  k_has_form : PySem.W.keepIn K (.ref a.f_has_form) = true
  g_has_form : mg "has_form" = some (.ref a.f_has_form)
  F__fits : Fun K "_fits" "_fits" s__fits a.f__fits a.d__fits
  B__fits : Binds K a.d__fits ["word", "slot"] []
  k__fits : PySem.W.keepIn K (.ref a.f__fits) = true
  g__fits : mg "_fits" = some (.ref a.f__fits)
  F_Paper_init : Fun K "__init__" "Paper.__init__" s_Paper_init a.f_Paper_init a.d_Paper_init
  B_Paper_init : Binds K a.d_Paper_init ["self", "word", "labels", "chain"] []
  k_Paper_init : PySem.W.keepIn K (.ref a.f_Paper_init) = true
  mk_Paper : Mk K a.C_Paper a.f_Paper_init
  F_paper_text : Fun K "paper_text" "paper_text" s_paper_text a.f_paper_text a.d_paper_text
  B_paper_text : Binds K a.d_paper_text ["told"] []
  k_paper_text : PySem.W.keepIn K (.ref a.f_paper_text) = true
  g_paper_text : mg "paper_text" = some (.ref a.f_paper_text)
  F_parse_paper : Fun K "parse_paper" "parse_paper" s_parse_paper a.f_parse_paper a.d_parse_paper
  B_parse_paper : Binds K a.d_parse_paper ["text"] []
  k_parse_paper : PySem.W.keepIn K (.ref a.f_parse_paper) = true
  g_parse_paper : mg "parse_paper" = some (.ref a.f_parse_paper)
  F__wrong_line : Fun K "_wrong_line" "_wrong_line" s__wrong_line a.f__wrong_line a.d__wrong_line
  B__wrong_line : Binds K a.d__wrong_line ["lines", "firsts", "forms"] []
  k__wrong_line : PySem.W.keepIn K (.ref a.f__wrong_line) = true
  g__wrong_line : mg "_wrong_line" = some (.ref a.f__wrong_line)
  F__rows_of : Fun K "_rows_of" "_rows_of" s__rows_of a.f__rows_of a.d__rows_of
  B__rows_of : Binds K a.d__rows_of ["sort", "rows"] []
  k__rows_of : PySem.W.keepIn K (.ref a.f__rows_of) = true
  g__rows_of : mg "_rows_of" = some (.ref a.f__rows_of)
  F__link_word : Fun K "_link_word" "_link_word" s__link_word a.f__link_word a.d__link_word
  B__link_word : Binds K a.d__link_word ["link"] []
  k__link_word : PySem.W.keepIn K (.ref a.f__link_word) = true
  g__link_word : mg "_link_word" = some (.ref a.f__link_word)
  F__read_link : Fun K "_read_link" "_read_link" s__read_link a.f__read_link a.d__read_link
  B__read_link : Binds K a.d__read_link ["word"] []
  k__read_link : PySem.W.keepIn K (.ref a.f__read_link) = true
  g__read_link : mg "_read_link" = some (.ref a.f__read_link)
  F__law_row : Fun K "_law_row" "_law_row" s__law_row a.f__law_row a.d__law_row
  B__law_row : Binds K a.d__law_row ["cell", "many"] []
  k__law_row : PySem.W.keepIn K (.ref a.f__law_row) = true
  g__law_row : mg "_law_row" = some (.ref a.f__law_row)
  F__law_numbers : Fun K "_law_numbers" "_law_numbers" s__law_numbers a.f__law_numbers a.d__law_numbers
  B__law_numbers : Binds K a.d__law_numbers ["script", "many"] []
  k__law_numbers : PySem.W.keepIn K (.ref a.f__law_numbers) = true
  g__law_numbers : mg "_law_numbers" = some (.ref a.f__law_numbers)
  F_law : Fun K "law" "law" s_law a.f_law a.d_law
  B_law : Binds K a.d_law ["script"] []
  k_law : PySem.W.keepIn K (.ref a.f_law) = true
  g_law : mg "law" = some (.ref a.f_law)
  z_abs : mg "abs" = none
  z_all : mg "all" = none
  z_any : mg "any" = none
  z_enumerate : mg "enumerate" = none
  z_int : mg "int" = none
  z_isinstance : mg "isinstance" = none
  z_len : mg "len" = none
  z_max : mg "max" = none
  z_range : mg "range" = none
  z_str : mg "str" = none
  z_tuple : mg "tuple" = none
  z_zip : mg "zip" = none
  z_sorted : mg "sorted" = none
  z_set : mg "set" = none
  c_DIGITS : ∃ t, mg "DIGITS" = some (.str "0123456789" t)
  c_LETTERS : ∃ t, mg "LETTERS" = some (.str "abcdefghijklmnopqrstuvwxyz" t)
  c_LONGEST_NAME : ∃ t, mg "LONGEST_NAME" = some (.int 12 t)
  c_MAYBE : ∃ t, mg "MAYBE" = some (.str "maybe" t)
  c_MOST_DIGITS : ∃ t, mg "MOST_DIGITS" = some (.int 6 t)
  c_NEVER : ∃ t, mg "NEVER" = some (.str "never" t)
  c_NO_LINK : ∃ t, mg "NO_LINK" = some (.str "-" t)
  g_PAPER_LINES : mg "PAPER_LINES" = some (.ref a.q_PAPER_LINES)
  t_PAPER_LINES : ∀ H : Hp, SqT K H a.q_PAPER_LINES [.str "label PLACE MINUTE", .str "catch PLACE LINK MINUTE", .str "catch PLACE - MINUTE"]
  c_SURELY : ∃ t, mg "SURELY" = some (.str "surely" t)
  cl_Paper : Cls K a.C_Paper
  g_Paper : mg "Paper" = some (.ref a.C_Paper)
  ha_C_Paper : PySem.W.findIn K (.ref a.C_Paper) "__class__" = some (some (.builtin "object.__class__"))
  hm_C_Paper : PySem.W.mroIn K a.C_Paper (.type "object") = some true
  hn_C_Paper : PySem.W.specialIn K (.builtin "object.__class__") "__get__" = some (some (.builtin "getset_descriptor.__get__"))
  ht_C_Paper : PySem.W.takesIn K (.builtin "object.__class__") = some true
  ki_C_Paper : PySem.W.kitOne K (.ref a.C_Paper) (.ref a.C_Paper) = some true
  na_Paper_word : NoAttr K a.C_Paper "word"
  na_Paper_labels : NoAttr K a.C_Paper "labels"
  na_Paper_chain : NoAttr K a.C_Paper "chain"
end EV

set_option Elab.async false
set_option linter.all false
set_option maxRecDepth 100000
set_option maxHeartbeats 4000000
namespace EV
open PySem PySem.Spec PyProof.Rows L2 EvS Evl
def LETS : List Nat := ("abcdefghijklmnopqrstuvwxyz" : Str).cps.toList
def DIGS : List Nat := ("0123456789" : Str).cps.toList
def okSign (c : Nat) : Bool := decide (c ∈ LETS) || decide (c ∈ DIGS)
/-- point 2 -/
def isName (z : Str) : Bool := decide (1 ≤ z.length ∧ z.length ≤ 12) && (z.cps.toList.head?.any fun c => decide (c ∈ LETS)) && z.cps.toList.all okSign
def sp_is_name : Sp := fun vs H Q _ => ∃ z : Str, vs = [.str z] ∧ z.length ≤ 10000 ∧ ∀ H', Ex H H' → Q (.bl (isName z)) H'
section
variable {P : Program} {w : World} {K : PySem.W.Frag} {mg : Str → Option Value} {base : Heap} {a : Ad}
theorem G_is_name (T : Txt K mg a) : FnOk P w K mg base CX0 1 a.f_is_name a.d_is_name ["text"] sp_is_name := by
  refine T.F_is_name.ok sc_is_name (fun vs H Q E h => ?_) (fun cdv A outer s H vs Q E hr h => ?_)
  · obtain ⟨z, rfl, _⟩ := h
    rfl
  · obtain ⟨z, rfl, hz, k⟩ := h
    have hzs : z.length ≤ sizeLine := sz_of (by omega)
    refine ⟨_, (pss_cons (ps_if (pt_not (pt_chain op_le op_le pe_int (pe_callB call_len_str (by rfl) T.z_len PySem.boot_len (pa_cons (pv 0) pa_nil)) (pe_gI rfl T.c_LONGEST_NAME))) (pss_one (ps_ret pe_bl)) pss_nil)
      (pss_one (ps_ret (pe_and (pe_cmpR op_in_sign (pe_ix ix_str (pv 0) pe_int (fun _ _ => rfl)) (pe_gS rfl T.c_LETTERS) rfl) (pe_one (pe_callB (cr_all rfl) (by rfl) T.z_all (by decide +kernel) (pa_cons (pe_lc (own := [("sign", 1)]) (g := gName 1) (tt := tYes) rfl sc_is_name.nd (pi_str (pv 0)) (blkOk_by (N := ["text", "sign"]) (sc := defScope s_is_name) (by decide +kernel)) (fun _ _ _ _ _ => pg_name (i := 1) sc_is_name.nd rfl (Or.inl rfl)) (fun _ _ _ _ _ => pts_nil) (fun _ _ _ _ _ => (pe_or (pe_cmpR op_in_sign (pv 1) (pe_gS rfl T.c_LETTERS) rfl) (pe_one (pe_cmpR op_in_sign (pv 1) (pe_gS rfl T.c_DIGITS) rfl))))) pa_nil))))))), ?_⟩
    have no : ¬ (1 ≤ z.length ∧ z.length ≤ 12) → Q (.bl false) H := fun n => by
      have e : isName z = false := by
        unfold isName
        rw [decide_eq_false n]
        rfl
      have q := k H (Ex.refl H)
      rw [e] at q
      exact q
    refine ⟨_, rfl, _, rfl, hzs, _, _, rfl, rfl, _, rfl, ?_⟩
    refine ite2 (fun h1 => ?_) (fun h1 => ?_)
    · refine ⟨_, _, rfl, rfl, _, rfl, ?_⟩
      have h1' : 1 ≤ z.length := by
        have := of_decide_eq_true h1
        omega
      refine ite2 (fun h2 => ?_) (fun h2 => ?_)
      · exact no (fun n => by simp at h2; omega)
      · have h2' : z.length ≤ 12 := by
          simp at h2
          omega
        have hsz : z.cps.size = z.length := rfl
        obtain ⟨c0, hc0⟩ : ∃ c, z.cps[0]? = some c := ⟨_, Array.getElem?_eq_getElem (by omega)⟩
        have hl0 : z.cps.toList[0]? = some c0 := by rw [Array.getElem?_toList]; exact hc0
        have hh : z.cps.toList.head? = some c0 := by rw [List.head?_eq_getElem?]; exact hl0
        refine ⟨_, rfl, z, 0, c0, rfl, rfl, hzs, ?_, ?_⟩
        · have := atI_nat (j := 0) hl0
          simpa using this
        · refine ⟨c0, _, rfl, rfl, _, rfl, ?_⟩
          have rest : ∀ H', Ex H H' → Q (.bl (decide (c0 ∈ LETS) && z.cps.toList.all okSign)) H' := fun H' e => by
            have q := k H' e
            have ei : isName z = (decide (c0 ∈ LETS) && z.cps.toList.all okSign) := by
              unfold isName
              rw [decide_eq_true (show 1 ≤ z.length ∧ z.length ≤ 12 from ⟨h1', h2'⟩), hh]
              rfl
            rw [ei] at q
            exact q
          refine ite2 (fun h3 => ?_) (fun h3 => ?_)
          · have h3' : decide (c0 ∈ LETS) = true := h3
            rw [h3', Bool.true_and] at rest
            have hlen : z.cps.toList.length = z.cps.size := Array.length_toList
            refine ⟨_, rfl, z, rfl, fun D hD => lcY_sign (fun i H' => H D = none ∧ Ex H H' ∧ H' D = some (.lst ((z.cps.toList.take i).map fun c => V.bl (okSign c)))) ⟨hD, Ex.new hD, upd_same⟩ (fun i c H' hc p => ?_) (fun H' p => ?_)⟩
            · obtain ⟨p1, p2, p3⟩ := p
              have hil : i < z.cps.size := (Array.getElem?_eq_some_iff.mp hc).1
              have hlc : z.cps.toList[i]? = some c := by rw [Array.getElem?_toList]; exact hc
              have stp : (z.cps.toList.take (i + 1)).map (fun c => V.bl (okSign c)) = (z.cps.toList.take i).map (fun c => V.bl (okSign c)) ++ [V.bl (okSign c)] := by
                rw [List.take_add_one, hlc, List.map_append]
                rfl
              have fin : ∃ acc, H' D = some (.lst acc) ∧ acc.length < sizeLine ∧ H D = none ∧ Ex H (upd H' D (.lst (acc ++ [V.bl (okSign c)]))) ∧ (upd H' D (.lst (acc ++ [V.bl (okSign c)]))) D = some (.lst ((z.cps.toList.take (i + 1)).map fun c => V.bl (okSign c))) := by
                refine ⟨_, p3, sz_lt ?_, p1, Ex.mut p2 p1, ?_⟩
                · rw [List.length_map, List.length_take]
                  omega
                · rw [stp]
                  exact upd_same
              refine ⟨rfl, ?_⟩
              refine ⟨_, rfl, c, _, rfl, rfl, _, rfl, ?_⟩
              refine ite2 (fun h5 => ?_) (fun h5 => ?_)
              · have e : okSign c = true := by
                  unfold okSign
                  rw [show decide (c ∈ LETS) = true from h5]
                  rfl
                rw [e] at fin
                exact fin
              · refine ⟨_, rfl, c, _, rfl, rfl, ?_⟩
                have e : okSign c = decide (c ∈ DIGS) := by
                  unfold okSign
                  rw [show decide (c ∈ LETS) = false from Bool.eq_false_iff.mpr h5]
                  rfl
                rw [e] at fin
                exact fin
            · obtain ⟨p1, p2, p3⟩ := p
              rw [← hlen, List.take_length] at p3
              refine ⟨D, z.cps.toList.map okSign, rfl, ?_, ?_⟩
              · rw [List.map_map]
                exact SqL.of p3
              · have q := rest H' p2
                have e : (z.cps.toList.map okSign).all id = z.cps.toList.all okSign := by
                  rw [List.all_map]
                  rfl
                rw [e]
                exact q
          · have h3' : decide (c0 ∈ LETS) = false := Bool.eq_false_iff.mpr h3
            rw [h3', Bool.false_and] at rest
            exact rest H (Ex.refl H)
    · exact ⟨_, rfl, no (fun n => by simp at h1; omega)⟩
end
end EV

set_option Elab.async false
set_option linter.all false
set_option maxRecDepth 100000
set_option maxHeartbeats 4000000
namespace EV
open PySem PySem.Spec PyProof.Rows L2 EvS Evl
def Small (l : List Int) : Prop := ∀ n ∈ l, 0 ≤ n ∧ n < 1009
theorem small_snoc {l : List Int} {n : Int} (h : Small l) (a : 0 ≤ n) (b : n < 1009) : Small (l ++ [n]) := fun x hx => by
  rcases List.mem_append.mp hx with q | q
  · exact h x q
  · rw [List.mem_singleton] at q
    subst q
    exact ⟨a, b⟩
/-- a new list of m small numbers -/
def NewNums (m : Int) (H : Hp) (Q : VK) : Prop := ∀ H' p (ns : List Int), Ex H H' → H p = none → H' p = some (.lst (ns.map V.int)) → (ns.length : Int) = m → Small ns → Q (.ref p) H'
def sp__law_row : Sp := fun vs H Q _ => ∃ (c m : Int), vs = [.int c, .int m] ∧ 0 ≤ m ∧ m ≤ 10000 ∧ NewNums m H Q
def sp__law_numbers (K : PySem.W.Frag) : Sp := fun vs H Q _ => ∃ (p : Addr) (ns : List Int) (m : Int), vs = [.ref p, .int m] ∧ SqL K H p (ns.map V.int) ∧ 0 ≤ m ∧ m ≤ 1000 ∧ NewNums m H Q
theorem cutV_to (xs : List V) (k : Nat) : cutV xs none (some (k : Int)) = xs.take k := by
  unfold cutV
  rw [HT.sIx_nat, HT.sIx_none, List.drop_zero, Nat.sub_zero]
  rcases Nat.le_total k xs.length with h | h
  · rw [Nat.min_eq_left h]
  · rw [Nat.min_eq_right h, List.take_length, List.take_of_length_le h]
section
variable {P : Program} {w : World} {K : PySem.W.Frag} {mg : Str → Option Value} {base : Heap} {a : Ad}
theorem G__law_row (T : Txt K mg a) : FnOk P w K mg base CX0 1 a.f__law_row a.d__law_row ["cell", "many"] sp__law_row := by
  refine T.F__law_row.ok sc__law_row (fun vs H Q E h => ?_) (fun cdv A outer s H vs Q E hr h => ?_)
  · obtain ⟨c, m, rfl, _⟩ := h
    rfl
  · obtain ⟨c, m, rfl, m0, m1, k⟩ := h
    refine ⟨_, (pss_cons (ps_set (i := 2) sc__law_row.nd rfl (Or.inl rfl) (pe_lst pa_nil))
      (pss_cons (ps_set (i := 3) sc__law_row.nd rfl (Or.inl rfl) (pe_callB call_abs (by rfl) T.z_abs (by decide +kernel) (pa_cons (pv 0) pa_nil)))
      (pss_cons (ps_set (i := 4) sc__law_row.nd rfl (Or.inl rfl) (pe_op op_mod (pe_callTy call_int1 (by rfl) T.z_int (by decide +kernel) (pa_cons (pe_op op_add (pe_op op_mul (pv 3) pe_int) pe_int) pa_nil)) pe_int))
      (pss_cons (ps_for PassesOwn.never rfl (pi_range1 (by rfl) T.z_range (pa_cons (pv 1) pa_nil)) (pg_name (i := 5) sc__law_row.nd rfl (Or.inl rfl)) (pss_cons (ps_set (i := 4) sc__law_row.nd rfl (Or.inl rfl) (pe_op op_mod (pe_callTy call_int1 (by rfl) T.z_int (by decide +kernel) (pa_cons (pe_op op_add (pe_op op_mul (pv 4) pe_int) (pe_op op_mul pe_int (pe_op op_add (pv 5) pe_int))) pa_nil)) pe_int))
        (pss_one (ps_if (pt_cmpR op_ge (pe_callB call_abs (by rfl) T.z_abs (by decide +kernel) (pa_cons (pv 0) pa_nil)) (pe_op op_pow pe_int pe_int) (nomark _)) (pss_cons (ps_expr (pe_bm PySem.F.plainAttrs_list PySem.F.slot_list_append PySem.F.type_list_append mt_append (pv 2) (pa_cons (pe_op op_mod (pe_callTy call_int1 (by rfl) T.z_int (by decide +kernel) (pa_cons (pv 3) pa_nil)) pe_int) pa_nil)))
          (pss_one (ps_set (i := 3) sc__law_row.nd rfl (Or.inl rfl) (pe_op op_fdiv (pv 3) pe_int)))) (pss_one (ps_expr (pe_bm PySem.F.plainAttrs_list PySem.F.slot_list_append PySem.F.type_list_append mt_append (pv 2) (pa_cons (pe_op op_mod (pe_callTy call_int1 (by rfl) T.z_int (by decide +kernel) (pa_cons (pe_op op_fdiv (pv 4) pe_int) pa_nil)) pe_int) pa_nil))))))))
      (pss_one (ps_ret (pv 2))))))), ?_⟩
    refine ⟨Nat.zero_le _, fun l hl => ?_⟩
    refine ⟨_, rfl, _, rfl, ?_⟩
    refine ⟨_, rfl, _, _, rfl, rfl, .inr ⟨by decide, by decide⟩, _, _, rfl, rfl, .inl ⟨_, rfl, _, _, rfl, rfl, (by show (0 : Int) < 2147483647; decide), ?_⟩⟩
    refine ⟨_, rfl, _, rfl, by omega, by omega, for_range (n := m.toNat) (fun i σ H' => ∃ (r x : Int) (ns : List Int) (v : Option V), σ = [some (.int c), some (.int m), some (.ref l), some (.int r), some (.int x), v] ∧ Ex H H' ∧ H' l = some (.lst (ns.map V.int)) ∧ ns.length = i ∧ Small ns) ?_ ?_ ?_⟩
    · exact ⟨_, _, [], none, rfl, Ex.new hl, upd_same, rfl, fun n hn => by cases hn⟩
    · rintro i σ H' hi ⟨r, x, ns, v, rfl, e, hL, hlen, hs⟩
      have room : (ns.map V.int).length < sizeLine := sz_lt (by rw [List.length_map]; omega)
      have nx : ∀ (r' x' y : Int), 0 ≤ y → y < 1009 → ∃ (r x : Int) (ns' : List Int) (v' : Option V), [some (V.int c), some (V.int m), some (V.ref l), some (V.int r'), some (V.int x'), some (V.int (0 + (i : Int)))] = [some (V.int c), some (V.int m), some (V.ref l), some (V.int r), some (V.int x), v'] ∧
          Ex H (upd H' l (.lst (ns.map V.int ++ [V.int y]))) ∧ (upd H' l (.lst (ns.map V.int ++ [V.int y]))) l = some (.lst (ns'.map V.int)) ∧ ns'.length = i + 1 ∧ Small ns' := fun r' x' y h0 h1 =>
        ⟨_, _, ns ++ [y], _, rfl, Ex.mut e hl, by rw [upd_same, List.map_append] <;> rfl, by rw [List.length_append, hlen] <;> rfl, small_snoc hs h0 h1⟩
      refine ⟨_, rfl, _, _, rfl, rfl, .inr ⟨by decide, by decide⟩, _, rfl, _, _, rfl, rfl, _, _, rfl, rfl, .inl ⟨by decide, by decide⟩, _, _, rfl, rfl, .inl ⟨_, rfl, _, _, rfl, rfl, (by show (0 : Int) < 2147483629; decide), ?_⟩⟩
      refine ⟨_, rfl, _, rfl, _, _, rfl, rfl, ⟨by decide, by decide, by decide⟩, _, _, rfl, rfl, _, rfl, ?_⟩
      refine ite2 (fun _ => ?_) (fun _ => ?_)
      · refine ⟨_, rfl, .inl ⟨rfl, _, SqL.of hL⟩, _, rfl, .inl ⟨_, rfl, _, _, rfl, rfl, (by show (0 : Int) < 1009; decide), l, _, _, rfl, rfl, hL, room, ?_⟩⟩
        refine ⟨_, rfl, _, _, rfl, rfl, ⟨by decide, by decide⟩, ?_⟩
        exact nx _ _ _ (Int.emod_nonneg _ (by decide)) (Int.emod_lt_of_pos _ (by decide))
      · refine ⟨_, rfl, .inl ⟨rfl, _, SqL.of hL⟩, _, rfl, _, _, rfl, rfl, ⟨by decide, by decide⟩, .inl ⟨_, rfl, _, _, rfl, rfl, (by show (0 : Int) < 1009; decide), l, _, _, rfl, rfl, hL, room, ?_⟩⟩
        exact nx _ _ _ (Int.emod_nonneg _ (by decide)) (Int.emod_lt_of_pos _ (by decide))
    · rintro σ H' ⟨r, x, ns, v, rfl, e, hL, hlen, hs⟩
      exact ⟨_, rfl, k H' l ns e hl hL (by omega) hs⟩
theorem G__law_numbers (T : Txt K mg a) : FnOk P w K mg base CX0 2 a.f__law_numbers a.d__law_numbers ["script", "many"] (sp__law_numbers K) := by
  refine T.F__law_numbers.ok sc__law_numbers (fun vs H Q E h => ?_) (fun cdv A outer s H vs Q E hr h => ?_)
  · obtain ⟨p, ns, m, rfl, _⟩ := h
    rfl
  · obtain ⟨p, ns, m, rfl, hS, m0, m1, k⟩ := h
    refine ⟨_, (pss_cons (ps_set (i := 2) sc__law_numbers.nd rfl (Or.inl rfl) (pe_slice sl_list (pv 0) po_none (po_some pe_int)))
      (pss_cons (ps_set (i := 3) sc__law_numbers.nd rfl (Or.inl rfl) (pe_op op_add pe_int (pe_op op_fdivN (pv 1) (pe_callB (call_max2 rfl) (by rfl) T.z_max (by decide +kernel) (pa_cons pe_int (pa_cons (pe_callB call_len_seq (by rfl) T.z_len PySem.boot_len (pa_cons (pv 2) pa_nil)) pa_nil))))))
      (pss_cons (ps_set (i := 4) sc__law_numbers.nd rfl (Or.inl rfl) (pe_lst pa_nil))
      (pss_cons (ps_for PassesOwn.never rfl (pi_list (pv 2)) (pg_name (i := 5) sc__law_numbers.nd rfl (Or.inl rfl)) (pss_one (ps_for PassesOwn.never rfl (pi_list (pe_call (G__law_row T) (hr.mono (by decide)) (by rfl) T.g__law_row T.k__law_row T.B__law_row .nil pass0 (pa_cons (pv 5) (pa_cons (pv 3) pa_nil)))) (pg_name (i := 6) sc__law_numbers.nd rfl (Or.inl rfl)) (pss_one (ps_expr (pe_bm PySem.F.plainAttrs_list PySem.F.slot_list_append PySem.F.type_list_append mt_append (pv 4) (pa_cons (pv 6) pa_nil)))))))
      (pss_cons (ps_while PassesOwn.never (pt_cmpR op_lt (pe_callB call_len_seq (by rfl) T.z_len PySem.boot_len (pa_cons (pv 4) pa_nil)) (pv 1) (nomark _)) (pss_one (ps_expr (pe_bm PySem.F.plainAttrs_list PySem.F.slot_list_append PySem.F.type_list_append mt_append (pv 4) (pa_cons pe_int pa_nil)))))
      (pss_one (ps_ret (pe_slice sl_list (pv 4) po_none (po_some (pv 1)))))))))), ?_⟩
    -- cells = script[:63]
    refine ⟨_, rfl, _, rfl, p, _, rfl, hS, fun q hq => ?_⟩
    have hcs : cutV (ns.map V.int) none (some ((63 : Nat) : Int)) = (ns.take 63).map V.int := by
      rw [cutV_to, List.map_take]
    show tSeq _ _ _ _ (upd H q (.lst (cutV (ns.map V.int) none (some ((63 : Nat) : Int)))))
    rw [hcs]
    generalize hcd : ns.take 63 = cs
    have hcl : cs.length ≤ 63 := by
      rw [← hcd, List.length_take]
      omega
    have hlc : (cs.map V.int).length = cs.length := List.length_map ..
    have e1 : Ex H (upd H q (.lst (cs.map V.int))) := Ex.new hq
    -- each = 1 + many // max(1, len(cells))
    refine ⟨_, rfl, _, rfl, q, _, rfl, .inl (SqL.of upd_same), _, _, rfl, _, _, rfl, rfl, ⟨?_, ?_⟩, _, _, rfl, rfl, ?_⟩
    · split <;> omega
    · rw [hlc]
      split <;> omega
    generalize hd : (if ((cs.map V.int).length : Int) > 1 then ((cs.map V.int).length : Int) else 1) = d
    have d1 : 1 ≤ d := by
      rw [← hd]
      split <;> omega
    have f0 : 0 ≤ m.fdiv d := by
      rw [Int.fdiv_eq_ediv_of_nonneg _ (by omega)]
      exact Int.ediv_nonneg m0 (by omega)
    have f1 : m.fdiv d ≤ 1000 := by
      rw [Int.fdiv_eq_ediv_of_nonneg _ (by omega)]
      exact Int.le_trans (Int.ediv_le_self _ m0) m1
    generalize m.fdiv d = f at f0 f1
    -- numbers = []
    refine ⟨Nat.zero_le _, fun l hl => ?_⟩
    have hlH : H l = none := fresh_back e1 hl
    have nql : q ≠ l := ne_of_none upd_same hl
    have nlq : l ≠ q := Ne.symm nql
    refine ⟨_, rfl, q, rfl, ⟨_, SqL.of (by rw [upd_ne nql]; exact upd_same)⟩, for_list (K := K) (a := q) (xs := cs.map V.int) (fun i σ H' => ∃ (ks : List Int) (v5 v6 : Option V), σ = [some (.ref p), some (.int m), some (.ref q), some (.int (1 + f)), some (.ref l), v5, v6] ∧
      Ex H H' ∧ H' q = some (.lst (cs.map V.int)) ∧ H' l = some (.lst (ks.map V.int)) ∧ ks.length ≤ i * 1001 ∧ Small ks) ?_ ?_ ?_ ?_⟩
    · exact ⟨[], none, none, rfl, e1.trans (Ex.new hl), by rw [upd_ne nql]; exact upd_same, upd_same, by simp, fun n hn => by cases hn⟩
    · rintro i σ H' _ ⟨ks, v5, v6, rfl, e, hQ, hL, _⟩
      exact SqL.of hQ
    · rintro i y σ H' hi ⟨ks, v5, v6, rfl, e, hQ, hL, hn, hs⟩
      have hi63 : i < cs.length := by
        have z := (List.getElem?_eq_some_iff.mp hi).1
        rw [hlc] at z
        exact z
      obtain ⟨c, rfl⟩ : ∃ c, y = V.int c := by
        rw [List.getElem?_map] at hi
        cases z : cs[i]? with
        | none =>
          rw [z] at hi
          cases hi
        | some c =>
          rw [z] at hi
          exact ⟨c, (Option.some.inj hi).symm⟩
      -- for number in _law_row(cell, each)
      refine ⟨_, rfl, _, rfl, c, 1 + f, rfl, by omega, by omega, fun H2 r rs e2 hr hR hrl hrs => ⟨r, rfl, ⟨_, SqL.of hR⟩, ?_⟩⟩
      have nrl : r ≠ l := Ne.symm (ne_of_none hL hr)
      have nrq : q ≠ r := ne_of_none hQ hr
      have nlr : l ≠ r := Ne.symm nrl
      refine for_list (K := K) (a := r) (xs := rs.map V.int) (fun j σ H' => ∃ (ks' : List Int) (v6 : Option V), σ = [some (.ref p), some (.int m), some (.ref q), some (.int (1 + f)), some (.ref l), some (.int c), v6] ∧
        Ex H H' ∧ H' q = some (.lst (cs.map V.int)) ∧ H' r = some (.lst (rs.map V.int)) ∧ H' l = some (.lst (ks'.map V.int)) ∧ ks'.length = ks.length + j ∧ Small ks') ?_ ?_ ?_ ?_
      · exact ⟨ks, v6, rfl, e.trans e2, e2 _ _ hQ, hR, e2 _ _ hL, rfl, hs⟩
      · rintro j σ H' _ ⟨ks', v6, rfl, _, _, h3, _⟩
        exact SqL.of h3
      · rintro j y σ H' hj ⟨ks', v6, rfl, e3, hQ3, hR3, hL3, hn3, hs3⟩
        have hjr : j < rs.length := by
          have z := (List.getElem?_eq_some_iff.mp hj).1
          rw [List.length_map] at z
          exact z
        obtain ⟨n, hnm, rfl⟩ : ∃ n, n ∈ rs ∧ y = V.int n := by
          rw [List.getElem?_map] at hj
          cases z : rs[j]? with
          | none =>
            rw [z] at hj
            cases hj
          | some n =>
            rw [z] at hj
            exact ⟨n, List.mem_of_getElem? z, (Option.some.inj hj).symm⟩
        refine ⟨_, rfl, .inl ⟨rfl, _, SqL.of hL3⟩, _, rfl, l, _, _, rfl, rfl, hL3, sz_lt (by rw [List.length_map]; omega), ?_⟩
        exact ⟨ks' ++ [n], _, rfl, Ex.mut e3 hlH, by rw [upd_ne nql]; exact hQ3, by rw [upd_ne nrl]; exact hR3, by rw [upd_same, List.map_append] <;> rfl, by rw [List.length_append, hn3] <;> rfl, small_snoc hs3 (hrs n hnm).1 (hrs n hnm).2⟩
      · rintro σ H' ⟨ks', v6, rfl, e3, hQ3, hR3, hL3, hn3, hs3⟩
        rw [List.length_map] at hn3
        exact ⟨ks', _, _, rfl, e3, hQ3, hL3, by omega, hs3⟩
    · rintro σ H' ⟨ks, v5, v6, rfl, e, hQ, hL, hn, hs⟩
      rw [hlc] at hn
      -- while len(numbers) < many
      refine ⟨fun j σ H' => ∃ ks' : List Int, j = (m.toNat - ks'.length) ∧ σ = [some (.ref p), some (.int m), some (.ref q), some (.int (1 + f)), some (.ref l), v5, v6] ∧ Ex H H' ∧ H' l = some (.lst (ks'.map V.int)) ∧ ks'.length ≤ 70000 ∧ Small ks',
        ⟨_, ks, rfl, rfl, e, hL, by omega, hs⟩, ?_⟩
      rintro j σ H' ⟨ks', rfl, rfl, e3, hL3, hn3, hs3⟩
      have hlk : (ks'.map V.int).length = ks'.length := List.length_map ..
      refine ⟨_, rfl, l, _, rfl, .inl (SqL.of hL3), _, rfl, _, _, rfl, rfl, _, rfl, ?_⟩
      refine ite2 (fun lt => ?_) (fun ge => ?_)
      · have lt' : (ks'.length : Int) < m := by
          have z := of_decide_eq_true lt
          rw [hlk] at z
          exact z
        refine ⟨_, fun σ' H' z => z, ?_⟩
        refine ⟨_, rfl, .inl ⟨rfl, _, SqL.of hL3⟩, l, _, _, rfl, rfl, hL3, sz_lt (by rw [hlk]; omega), ?_⟩
        exact ⟨_, by show m.toNat - (ks' ++ [0]).length < _; rw [List.length_append, List.length_singleton]; omega, ks' ++ [0], rfl, rfl, Ex.mut e3 hlH, by rw [upd_same, List.map_append] <;> rfl, by rw [List.length_append, List.length_singleton]; omega, small_snoc hs3 (by decide) (by decide)⟩
      · have ge' : m ≤ (ks'.length : Int) := by
          have z : ¬ ((ks'.map V.int).length : Int) < m := fun z => ge (decide_eq_true z)
          rw [hlk] at z
          omega
        -- return numbers[:many]
        refine ⟨_, rfl, _, rfl, _, rfl, l, _, rfl, SqL.of hL3, fun u hu => ?_⟩
        have em : m = ((m.toNat : Nat) : Int) := by omega
        have hcu : cutV (ks'.map V.int) none (some m) = (ks'.take m.toNat).map V.int := by
          rw [em, cutV_to, List.map_take]
          rfl
        show Q (.ref u) (upd H' u (.lst (cutV (ks'.map V.int) none (some m))))
        rw [hcu]
        refine k _ u (ks'.take m.toNat) (e3.trans (Ex.new hu)) (fresh_back e3 hu) upd_same ?_ (fun x hx => hs3 x (List.mem_of_mem_take hx))
        rw [List.length_take]
        omega
end
end EV

set_option Elab.async false
set_option linter.all false
set_option maxRecDepth 100000
set_option maxHeartbeats 4000000
namespace TX
open PySem PySem.Spec PyProof.Rows L2 EvS Evl EV TL
/-! ### texts: joins, numbers, words (point 8, 9) -/
def numS (i : Int) : Str := Str.ofString (toString i)
theorem len_nl : ("\n" : Str).length = 1 := by decide +kernel
theorem len_sp : (" " : Str).length = 1 := by decide +kernel
theorem sum_le {B : Nat} : ∀ {ys : List Str}, (∀ y ∈ ys, y.length ≤ B) → (ys.map (·.length)).sum ≤ B * ys.length
  | [], _ => Nat.zero_le _
  | y :: r, h => by
    have h1 := h y List.mem_cons_self
    have h2 := sum_le (B := B) (ys := r) fun x hx => h x (List.mem_cons_of_mem _ hx)
    rw [List.map_cons, List.sum_cons, List.length_cons, Nat.mul_succ]
    omega
theorem tj (sep : Str) (l : List Str) : Txt.join sep l = Str.join sep l := StrLaws.glued_eq_join sep l
theorem sjoin_len {sep : Str} {B : Nat} : ∀ {ys : List Str}, (∀ y ∈ ys, y.length ≤ B) → (Str.join sep ys).length ≤ (B + sep.length) * ys.length
  | [], _ => by
    show (0 : Nat) ≤ _
    exact Nat.zero_le _
  | [y], h => by
    have h1 := h y List.mem_cons_self
    show y.length ≤ (B + sep.length) * 1
    omega
  | y :: z :: r, h => by
    have h1 := h y List.mem_cons_self
    have h2 := sjoin_len (sep := sep) (B := B) (ys := z :: r) fun x hx => h x (List.mem_cons_of_mem _ hx)
    show (y ++ sep ++ Str.join sep (z :: r)).length ≤ (B + sep.length) * ((z :: r).length + 1)
    rw [Str.length_append, Str.length_append, Nat.mul_succ]
    omega
theorem join_len {sep : Str} {B : Nat} {ys : List Str} (h : ∀ y ∈ ys, y.length ≤ B) : (Txt.join sep ys).length ≤ (B + sep.length) * ys.length := by
  rw [tj]
  exact sjoin_len h
theorem join_fits {sep : Str} {B n : Nat} {ys : List Str} (h : ∀ y ∈ ys, y.length ≤ B) (hl : ys.length ≤ n) (hs : sep.length = 1) (q : (B + 1) * n ≤ 16777216) : (ys.map (·.length)).sum + ys.length * sep.length ≤ 16777216 := by
  have z := sum_le h
  have y : (B + 1) * ys.length ≤ (B + 1) * n := Nat.mul_le_mul_left _ hl
  have e : (B + 1) * ys.length = B * ys.length + ys.length := by rw [Nat.add_mul, Nat.one_mul]
  rw [hs, Nat.mul_one]
  omega
theorem join_two (sep a b : Str) (r : List Str) : Txt.join sep (a :: b :: r) = a ++ sep ++ Txt.join sep (b :: r) := by
  rw [tj, tj]
  rfl
theorem join_one (sep a : Str) : Txt.join sep [a] = a := by
  rw [tj]
  rfl
theorem log_ok {i : Int} (h1 : 0 ≤ i) (h2 : i ≤ 999999) : i.natAbs.log2 < 1920 := by
  by_cases q : i.natAbs = 0
  · rw [q]; decide
  · have : i.natAbs < 2 ^ 20 := by omega
    have z := (Nat.log2_lt (n := i.natAbs) (k := 20) q).mpr this
    omega
theorem num_tl {i : Int} (h : 0 ≤ i) : (numS i).cps.toList = numL i.toNat := by
  have z := tl_num i.toNat
  rw [Int.toNat_of_nonneg h] at z
  exact z
theorem num_len {i : Int} (h1 : 0 ≤ i) (h2 : i ≤ 999999) : 1 ≤ (numS i).length ∧ (numS i).length ≤ 6 := by
  have e : (numS i).length = (numL i.toNat).length := by
    show (numS i).cps.size = _
    rw [← Array.length_toList, num_tl h1]
  have z := numL_len (n := i.toNat) (k := 6) (by decide) (by omega)
  have y := numL_ne i.toNat
  rw [e]
  refine ⟨?_, z⟩
  rcases Nat.eq_zero_or_pos (numL i.toNat).length with q | q
  · exact absurd (List.length_eq_zero_iff.mp q) y
  · exact q
theorem num_dig {i : Int} (h : 0 ≤ i) : ∀ c ∈ (numS i).cps.toList, 48 ≤ c ∧ c ≤ 57 := by
  rw [num_tl h]
  exact fun c hc => numL_digits _ c hc
theorem digs_of : ∀ c, c < 58 → 48 ≤ c → decide (c ∈ DIGS) = true := by decide +kernel
theorem num_head (n : Nat) (h : 1 ≤ n) : ∃ c, (numL n).head? = some c ∧ c ≠ 48 := by
  induction n using Nat.strongRecOn with
  | _ n ih =>
    by_cases q : n < 10
    · rw [numL_lt q]
      exact ⟨48 + n, rfl, by omega⟩
    · rw [numL_step (by omega)]
      obtain ⟨c, hc, hn⟩ := ih (n / 10) (by omega) (by omega)
      refine ⟨c, ?_, hn⟩
      rw [List.head?_append, hc]
      rfl
theorem num_int {i : Int} (h1 : 0 ≤ i) (h2 : i ≤ 999999) : PySem.intText? (numS i) = some i := by
  have z := int_num (n := i.toNat) (by
    have l := numL_len (n := i.toNat) (k := 6) (by decide) (by omega)
    omega)
  rw [Int.toNat_of_nonneg h1] at z
  exact z
def isNumber (z : Str) : Bool := decide (1 ≤ z.length ∧ z.length ≤ 6) && (if z.cps.toList.head? = some 48 then decide (V.str z = V.str "0") else z.cps.toList.all fun c => decide (c ∈ DIGS))
theorem num_is {i : Int} (h1 : 0 ≤ i) (h2 : i ≤ 999999) : isNumber (numS i) = true := by
  unfold isNumber
  rw [decide_eq_true (num_len h1 h2), Bool.true_and]
  by_cases q : i = 0
  · subst q
    decide +kernel
  · obtain ⟨c, hc, hn⟩ := num_head i.toNat (by omega)
    rw [num_tl h1, hc, if_neg (fun e => hn (Option.some.inj e))]
    rw [List.all_eq_true]
    intro c hc
    rw [← num_tl h1] at hc
    have := num_dig h1 c hc
    exact digs_of c (by omega) (by omega)
def fits (w s : Str) : Bool := if decide (V.str s = V.str "MINUTE") = true then isNumber w else if Txt.isupper s = true then isName w else decide (V.str w = V.str s)
def fitsAll (ws ss : List Str) : List Bool := List.zipWith fits ws ss
def hasForm (ws ss : List Str) : Bool := decide (V.int (ws.length : Int) = V.int (ss.length : Int)) && (fitsAll ws ss).all id
/-! ### words without separators -/
def Clean (z : Str) : Prop := 10 ∉ z.cps.toList ∧ 32 ∉ z.cps.toList
theorem clean_of {z : Str} (h : ∀ c ∈ z.cps.toList, c ≠ 10 ∧ c ≠ 32) : Clean z := ⟨fun q => (h _ q).1 rfl, fun q => (h _ q).2 rfl⟩
theorem sign_clean : ∀ c ∈ LETS ++ DIGS, c ≠ 10 ∧ c ≠ 32 := by decide +kernel
theorem name_clean {z : Str} (h : isName z = true) : Clean z := clean_of fun c hc => by
  unfold isName at h
  rw [Bool.and_eq_true] at h
  have q := List.all_eq_true.mp h.2 c hc
  unfold okSign at q
  rw [Bool.or_eq_true] at q
  refine sign_clean c ?_
  rcases q with q | q
  · exact List.mem_append_left _ (of_decide_eq_true q)
  · exact List.mem_append_right _ (of_decide_eq_true q)
theorem name_len {z : Str} (h : isName z = true) : 1 ≤ z.length ∧ z.length ≤ 12 := by
  unfold isName at h
  rw [Bool.and_eq_true, Bool.and_eq_true] at h
  exact of_decide_eq_true h.1.1
theorem num_clean {i : Int} (h : 0 ≤ i) : Clean (numS i) := clean_of fun c hc => by
  have := num_dig h c hc
  omega
theorem app_list (a b : Str) : (a ++ b).cps.toList = a.cps.toList ++ b.cps.toList := by
  rw [Str.cps_append, Array.toList_append]
theorem join_mem (sep : Str) (c : Nat) : ∀ {ys : List Str}, c ∈ (Txt.join sep ys).cps.toList → c ∈ sep.cps.toList ∨ ∃ y ∈ ys, c ∈ y.cps.toList
  | [], h => by
    rw [tj] at h
    cases h
  | [y], h => by
    rw [join_one] at h
    exact .inr ⟨y, List.mem_cons_self, h⟩
  | y :: z :: r, h => by
    rw [join_two, app_list, app_list] at h
    rcases List.mem_append.mp h with h | h
    · rcases List.mem_append.mp h with h | h
      · exact .inr ⟨y, List.mem_cons_self, h⟩
      · exact .inl h
    · rcases join_mem sep c h with h | ⟨x, hx, h⟩
      · exact .inl h
      · exact .inr ⟨x, List.mem_cons_of_mem _ hx, h⟩
theorem line_split {ys : List Str} (hne : ys ≠ []) (h : ∀ y ∈ ys, Clean y) : Txt.split (Txt.join " " ys) " " = ys := split_join (s := 32) (S := []) (by decide +kernel) (by decide +kernel) hne fun p hp => (h p hp).2
theorem line_nl {ys : List Str} (h : ∀ y ∈ ys, Clean y) : 10 ∉ (Txt.join " " ys).cps.toList := fun q => by
  rcases join_mem " " 10 q with q | ⟨y, hy, q⟩
  · exact absurd q (by decide +kernel)
  · exact (h y hy).1 q
theorem lines_split {ls : List Str} (hne : ls ≠ []) (h : ∀ y ∈ ls, 10 ∉ y.cps.toList) : Txt.split (Txt.join "\n" ls) "\n" = ls := split_join (s := 10) (S := []) (by decide +kernel) (by decide +kernel) hne h
theorem three (a b c : Str) : Txt.join " " [a, b, c] = a ++ " " ++ b ++ " " ++ c := by
  rw [join_two, join_two, join_one]
  simp only [Str.append_assoc]
/-- a list of flags, the first of them known -/
theorem str_dec (a b : Str) : decide (V.str a = V.str b) = decide (a = b) := by
  by_cases h : a = b
  · rw [decide_eq_true h, decide_eq_true (congrArg V.str h)]
  · rw [decide_eq_false h, decide_eq_false fun q => h (V.str.inj q)]
def sp_is_number : Sp := fun vs H Q _ => ∃ z : Str, vs = [.str z] ∧ z.length ≤ 10000 ∧ ∀ H', Ex H H' → Q (.bl (isNumber z)) H'
def sp__fits : Sp := fun vs H Q _ => ∃ w z : Str, vs = [.str w, .str z] ∧ w.length ≤ 10000 ∧ ∀ H', Ex H H' → Q (.bl (fits w z)) H'
def sp_has_form (K : PySem.W.Frag) : Sp := fun vs H Q _ => ∃ (p : Addr) (ws : List Str) (f : Str), vs = [.ref p, .str f] ∧ SqL K H p (ws.map V.str) ∧ (∀ w ∈ ws, w.length ≤ 10000) ∧ ws.length ≤ 10000 ∧ f.length ≤ 1000 ∧ ∀ H', Ex H H' → Q (.bl (hasForm ws (Txt.split f " "))) H'
section
variable {P : Program} {w : World} {K : PySem.W.Frag} {mg : Str → Option Value} {base : Heap} {a : Ad}
theorem G_is_number (T : Txt K mg a) : FnOk P w K mg base CX0 1 a.f_is_number a.d_is_number ["word"] sp_is_number := by
  refine T.F_is_number.ok sc_is_number (fun vs H Q E h => ?_) (fun cdv A outer s H vs Q E hr h => ?_)
  · obtain ⟨z, rfl, _⟩ := h
    rfl
  · obtain ⟨z, rfl, hz, k⟩ := h
    have hzs : z.length ≤ sizeLine := sz_of (by omega)
    refine ⟨_, (pss_cons (ps_if (pt_not (pt_chain op_le op_le pe_int (pe_callB call_len_str (by rfl) T.z_len PySem.boot_len (pa_cons (pv 0) pa_nil)) (pe_gI rfl T.c_MOST_DIGITS))) (pss_one (ps_ret pe_bl)) pss_nil)
      (pss_cons (ps_if (pt_cmpR op_eq (pe_ix ix_str (pv 0) pe_int (fun _ _ => rfl)) pe_str (nomark _)) (pss_one (ps_ret (pe_cmpR op_eq (pv 0) pe_str (nomark _)))) pss_nil)
      (pss_one (ps_ret (pe_callB (cr_all rfl) (by rfl) T.z_all (by decide +kernel) (pa_cons (pe_lc (own := [("sign", 1)]) (g := gName 1) (tt := tYes) rfl sc_is_number.nd (pi_str (pv 0)) (blkOk_by (N := ["word", "sign"]) (sc := defScope s_is_number) (by decide +kernel)) (fun _ _ _ _ _ => pg_name (i := 1) sc_is_number.nd rfl (Or.inl rfl)) (fun _ _ _ _ _ => pts_nil) (fun _ _ _ _ _ => (pe_cmpR op_in_sign (pv 1) (pe_gS rfl T.c_DIGITS) rfl))) pa_nil)))))), ?_⟩
    have no : ¬ (1 ≤ z.length ∧ z.length ≤ 6) → Q (.bl false) H := fun n => by
      have e : isNumber z = false := by
        unfold isNumber
        rw [decide_eq_false n]
        rfl
      have q := k H (Ex.refl H)
      rw [e] at q
      exact q
    have rest : 1 ≤ z.length → z.length ≤ 6 → ∀ H', Ex H H' → Q (.bl (if z.cps.toList.head? = some 48 then decide (V.str z = V.str "0") else z.cps.toList.all fun c => decide (c ∈ DIGS))) H' := fun a b H' e => by
      have q := k H' e
      unfold isNumber at q
      rw [decide_eq_true (show 1 ≤ z.length ∧ z.length ≤ 6 from ⟨a, b⟩), Bool.true_and] at q
      exact q
    refine ⟨_, rfl, _, rfl, hzs, _, _, rfl, rfl, _, rfl, ?_⟩
    refine ite2 (fun h1 => ?_) (fun h1 => ?_)
    · refine ⟨_, _, rfl, rfl, _, rfl, ?_⟩
      have h1' : 1 ≤ z.length := by
        have := of_decide_eq_true h1
        omega
      refine ite2 (fun h2 => ?_) (fun h2 => ?_)
      · exact no (fun n => by simp at h2; omega)
      · have h2' : z.length ≤ 6 := by
          simp at h2
          omega
        have hsz : z.cps.size = z.length := rfl
        obtain ⟨c0, hc0⟩ : ∃ c, z.cps[0]? = some c := ⟨_, Array.getElem?_eq_getElem (by omega)⟩
        have hl0 : z.cps.toList[0]? = some c0 := by rw [Array.getElem?_toList]; exact hc0
        have hh : z.cps.toList.head? = some c0 := by rw [List.head?_eq_getElem?]; exact hl0
        have rest := rest h1' h2'
        rw [hh] at rest
        refine ⟨_, rfl, z, 0, c0, rfl, rfl, hzs, ?_, ?_⟩
        · have := atI_nat (j := 0) hl0
          simpa using this
        · refine ⟨rfl, _, rfl, ?_⟩
          refine ite2 (fun h3 => ?_) (fun h3 => ?_)
          · have e := V.str.inj (of_decide_eq_true h3)
            have e2 := congrArg (fun s : Str => s.cps.toList) e
            have e3 : [c0] = [48] := e2.trans (by decide +kernel)
            obtain rfl : c0 = 48 := (List.cons.inj e3).1
            rw [if_pos rfl] at rest
            exact ⟨_, rfl, rfl, rest H (Ex.refl H)⟩
          · have ne : c0 ≠ 48 := fun q => h3 (decide_eq_true (by rw [q]; rfl))
            rw [if_neg fun q => ne (Option.some.inj q)] at rest
            have hlen : z.cps.toList.length = z.cps.size := Array.length_toList
            refine ⟨_, rfl, z, rfl, fun D hD => lcY_sign (fun i H' => Ex H H' ∧ H' D = some (.lst ((z.cps.toList.take i).map fun c => V.bl (decide (c ∈ DIGS))))) ⟨Ex.new hD, upd_same⟩ (fun i c H' hc p => ?_) (fun H' p => ?_)⟩
            · obtain ⟨p2, p3⟩ := p
              have hil : i < z.cps.size := (Array.getElem?_eq_some_iff.mp hc).1
              have hlc : z.cps.toList[i]? = some c := by rw [Array.getElem?_toList]; exact hc
              refine ⟨rfl, _, rfl, c, _, rfl, rfl, _, p3, sz_lt ?_, p2.mut hD, ?_⟩
              · rw [List.length_map, List.length_take]
                omega
              · rw [upd_same, List.take_add_one, hlc, List.map_append]
                rfl
            · obtain ⟨p2, p3⟩ := p
              rw [← hlen, List.take_length] at p3
              refine ⟨D, z.cps.toList.map fun c => decide (c ∈ DIGS), rfl, ?_, ?_⟩
              · rw [List.map_map]
                exact SqL.of p3
              · have q := rest H' p2
                rw [List.all_map]
                exact q
    · exact ⟨_, rfl, no (fun n => by simp at h1; omega)⟩
theorem G__fits (T : Txt K mg a) : FnOk P w K mg base CX0 2 a.f__fits a.d__fits ["word", "slot"] sp__fits := by
  refine T.F__fits.ok sc__fits (fun vs H Q E h => ?_) (fun cdv A outer s H vs Q E hr h => ?_)
  · obtain ⟨y, z, rfl, _⟩ := h
    rfl
  · obtain ⟨y, z, rfl, hy, k⟩ := h
    refine ⟨_, (pss_cons (ps_if (pt_cmpR op_eq (pv 1) pe_str (nomark _)) (pss_one (ps_ret (pe_call (G_is_number T) (hr.mono (by decide)) (by rfl) T.g_is_number T.k_is_number T.B_is_number .nil pass0 (pa_cons (pv 0) pa_nil)))) pss_nil)
      (pss_cons (ps_if (pt_val (pe_bm0 PySem.F.plainAttrs_str PySem.F.slot_str_isupper PySem.F.type_str_isupper mt_isupper (pv 1))) (pss_one (ps_ret (pe_call (G_is_name T) (hr.mono (by decide)) (by rfl) T.g_is_name T.k_is_name T.B_is_name .nil pass0 (pa_cons (pv 0) pa_nil)))) pss_nil)
      (pss_one (ps_ret (pe_cmpR op_eq (pv 0) (pv 1) (nomark _)))))), ?_⟩
    refine ⟨_, rfl, rfl, _, rfl, ?_⟩
    refine ite2 (fun h1 => ?_) (fun h1 => ?_)
    · refine ⟨_, rfl, y, rfl, hy, fun H' e => ?_⟩
      have q := k H' e
      unfold fits at q
      rw [if_pos h1] at q
      exact q
    · refine ⟨_, rfl, rfl, z, rfl, rfl, trivial, _, rfl, ?_⟩
      refine ite2 (fun h2 => ?_) (fun h2 => ?_)
      · refine ⟨_, rfl, y, rfl, hy, fun H' e => ?_⟩
        have q := k H' e
        unfold fits at q
        rw [if_neg h1, if_pos h2] at q
        exact q
      · refine ⟨_, rfl, _, rfl, rfl, ?_⟩
        have q := k H (Ex.refl H)
        unfold fits at q
        rw [if_neg h1, if_neg h2] at q
        exact q
theorem G_has_form (T : Txt K mg a) : FnOk P w K mg base CX0 3 a.f_has_form a.d_has_form ["words", "form"] (sp_has_form K) := by
  refine T.F_has_form.ok sc_has_form (fun vs H Q E h => ?_) (fun cdv A outer s H vs Q E hr h => ?_)
  · obtain ⟨p, ws, f, rfl, _⟩ := h
    rfl
  · obtain ⟨p, ws, f, rfl, hS, hw, hl, hf, k⟩ := h
    refine ⟨_, (pss_cons (ps_set (i := 2) sc_has_form.nd rfl (Or.inl rfl) (pe_split (pv 1) pe_str))
      (pss_one (ps_ret (pe_and (pe_cmpR op_eq (pe_callB call_len_seq (by rfl) T.z_len PySem.boot_len (pa_cons (pv 0) pa_nil)) (pe_callB call_len_seq (by rfl) T.z_len PySem.boot_len (pa_cons (pv 2) pa_nil)) (nomark _)) (pe_one (pe_callB (cr_all rfl) (by rfl) T.z_all (by decide +kernel) (pa_cons (pe_lc (own := [("word", 3), ("slot", 4)]) (g := gTup K 2 (gCons (gName 3) (gCons (gName 4) gNil))) (tt := tYes) rfl sc_has_form.nd (pi_zip (by rfl) T.z_zip (pa_cons (pv 0) (pa_cons (pv 2) pa_nil))) (blkOk_by (N := ["words", "form", "slots", "word", "slot"]) (sc := defScope s_has_form) (by decide +kernel)) (fun _ _ _ _ _ => (pg_tup (by rfl) (pgs_cons (pg_name (i := 3) sc_has_form.nd rfl (Or.inl rfl)) (pgs_cons (pg_name (i := 4) sc_has_form.nd rfl (Or.inl rfl)) pgs_nil)))) (fun _ _ _ _ _ => pts_nil) (fun _ _ _ _ _ => (pe_call (G__fits T) (hr.mono (by decide)) (by rfl) T.g__fits T.k__fits T.B__fits .nil pass0 (pa_cons (pv 3) (pa_cons (pv 4) pa_nil))))) pa_nil))))))), ?_⟩
    refine ⟨_, rfl, ⟨_, rfl⟩, f, " ", rfl, rfl, by decide +kernel, sz_of (by omega), fun q hq => ?_⟩
    generalize hss : Txt.split f " " = ss at k
    have e1 : Ex H (upd H q (.lst (ss.map V.str))) := Ex.new hq
    have mq : (upd H q (.lst (ss.map V.str))) q = some (.lst (ss.map V.str)) := upd_same
    generalize upd H q (.lst (ss.map V.str)) = H1 at e1 mq
    have hS1 := ex_l e1 hS
    refine ⟨_, rfl, p, _, rfl, .inl hS1, _, rfl, q, _, rfl, .inl (SqL.of mq), rfl, ?_⟩
    rw [List.length_map, List.length_map]
    unfold hasForm at k
    cases hd : decide (V.int (ws.length : Int) = V.int (ss.length : Int)) with
    | false =>
      rw [hd] at k
      exact ⟨_, rfl, k H1 e1⟩
    | true =>
      rw [hd] at k
      have el : ws.length = ss.length := by
        have := V.int.inj (of_decide_eq_true hd)
        omega
      refine ⟨_, rfl, _, rfl, _, rfl, p, q, _, _, rfl, hS1, SqL.of mq, fun D hD => ?_⟩
      refine lc_it (walk_zip (xs := ws.map V.str) (ys := ss.map V.str) (n := ws.length) (by rw [List.length_map, List.length_map, el, Nat.min_self])) (fun i H' => Ex H1 H' ∧ H' D = some (.lst (((fitsAll ws ss).take i).map V.bl))) ⟨Ex.new hD, by rw [upd_same] <;> rfl⟩ (fun i H' _ z => ⟨ex_l z.1 hS1, SqL.of (z.1 _ _ mq)⟩) (fun i v H2 H3 hi z y => ?_) (fun H' z => ?_)
      · obtain ⟨t, u, v, rfl, ht, rfl, h1, h2⟩ := y
        have ez : (fitsAll ws ss)[i]? = some (fits (ws[i]) (ss[i]'(by omega))) := by
          unfold fitsAll
          rw [List.getElem?_zipWith, List.getElem?_eq_getElem hi, List.getElem?_eq_getElem (by omega)]
        have hwi := hw _ (List.getElem_mem hi)
        have h1 : (ws.map V.str)[i]? = some u := h1
        have h2 : (ss.map V.str)[i]? = some v := h2
        rw [List.getElem?_map, List.getElem?_eq_getElem hi] at h1
        rw [List.getElem?_map, List.getElem?_eq_getElem (show i < ss.length by omega)] at h2
        obtain rfl := Option.some.inj h1
        obtain rfl := Option.some.inj h2
        generalize ws[i] = wi at ez hwi ht z
        generalize ss[i]'(by omega) = si at ez ht z
        refine ⟨t, _, rfl, st_of upd_same, rfl, _, _, rfl, _, _, rfl, rfl, rfl, ?_⟩
        have e3 : Ex H1 (upd H2 t (.tup [V.str wi, V.str si])) := z.1.trans (Ex.new ht)
        refine ⟨_, rfl, _, rfl, wi, si, rfl, hwi, fun H' e => ?_⟩
        have hD' := e _ _ (Ex.new (o := .tup [V.str wi, V.str si]) ht _ _ z.2)
        refine ⟨_, hD', sz_lt ?_, (e3.trans e).mut hD, ?_⟩
        · rw [List.length_map, List.length_take]
          omega
        · rw [upd_same, List.take_add_one, ez, List.map_append]
          rfl
      · have l : (fitsAll ws ss).length = ws.length := by
          unfold fitsAll
          rw [List.length_zipWith, el, Nat.min_self]
        rw [← l, List.take_length] at z
        exact ⟨D, fitsAll ws ss, rfl, SqL.of z.2, k H' (e1.trans z.1)⟩
end
end TX

set_option Elab.async false
set_option linter.all false
set_option maxRecDepth 100000
set_option maxHeartbeats 4000000
namespace TX
open PySem PySem.Spec PyProof.Rows L2 EvS Evl EV
/-! ### the lines of a text and the first of them that cannot stand (point 70) -/
def sortsOf (forms : List Str) : List Str := forms.map fun f => (Txt.split f " ").headD Str.empty
def okAll (forms : List Str) (ws : List Str) : List Bool := forms.map fun f => hasForm ws (Txt.split f " ")
def rank (forms ws : List Str) : Nat := (sortsOf forms).idxOf (ws.headD Str.empty)
def wrongFrom (forms : List Str) : List Str → Nat → Nat → Option Nat
  | [], _, _ => none
  | l :: ls, n, r => if (okAll forms (Txt.split l " ")).any id = true then (if rank forms (Txt.split l " ") < r then some n else wrongFrom forms ls (n + 1) (rank forms (Txt.split l " "))) else some n
theorem wrongFrom_cons (forms : List Str) (l : Str) (ls : List Str) (n r : Nat) : wrongFrom forms (l :: ls) n r = if (okAll forms (Txt.split l " ")).any id = true then (if rank forms (Txt.split l " ") < r then some n else wrongFrom forms ls (n + 1) (rank forms (Txt.split l " "))) else some n := rfl
def wrongLine (forms firsts : List Str) : List Str → Option Nat
  | [] => some 1
  | l :: ls => if decide (l ∈ firsts) = true then wrongFrom forms ls 2 0 else some 1
def vOpt : Option Nat → V
  | none => .non
  | some n => .int (n : Int)
/-- forms whose first word is a plain one -/
def FormsOk (forms : List Str) : Prop := forms.length ≤ 100 ∧ ∀ f ∈ forms, f.length ≤ 1000 ∧ ∃ s0 r, Txt.split f " " = s0 :: r ∧ decide (V.str s0 = V.str "MINUTE") = false ∧ Txt.isupper s0 = false
theorem form_head {ws ss : List Str} {s0 : Str} {r : List Str} (e : ss = s0 :: r) (h1 : decide (V.str s0 = V.str "MINUTE") = false) (h2 : Txt.isupper s0 = false) (h : hasForm ws ss = true) : ∃ q, ws = s0 :: q := by
  unfold hasForm at h
  rw [Bool.and_eq_true] at h
  obtain ⟨h3, h4⟩ := h
  have l := V.int.inj (of_decide_eq_true h3)
  cases ws with
  | nil => rw [e] at l; simp at l; omega
  | cons w q =>
    refine ⟨q, ?_⟩
    rw [e] at h4
    unfold fitsAll at h4
    rw [List.zipWith_cons_cons, List.all_cons, Bool.and_eq_true] at h4
    have z : fits w s0 = true := h4.1
    unfold fits at z
    rw [h1, h2] at z
    simp only [Bool.false_eq_true, if_false] at z
    rw [V.str.inj (of_decide_eq_true z)]
theorem ok_head {forms ws : List Str} (ok : FormsOk forms) (h : (okAll forms ws).any id = true) : ∃ w q, ws = w :: q ∧ w ∈ sortsOf forms := by
  obtain ⟨b, hb, ht⟩ := List.any_eq_true.mp h
  obtain ⟨f, hf, rfl⟩ := List.mem_map.mp hb
  obtain ⟨_, s0, r, e, h1, h2⟩ := ok.2 f hf
  obtain ⟨q, rfl⟩ := form_head e h1 h2 ht
  exact ⟨s0, q, rfl, List.mem_map.mpr ⟨f, hf, by rw [e]; rfl⟩⟩
def sp__wrong_line (K : PySem.W.Frag) : Sp := fun vs H Q _ => ∃ (p f g : Addr) (ls firsts forms : List Str), vs = [.ref p, .ref f, .ref g] ∧ SqL K H p (ls.map V.str) ∧ SqT K H f (firsts.map V.str) ∧ SqT K H g (forms.map V.str) ∧
  ls ≠ [] ∧ (∀ l ∈ ls, l.length ≤ 9000) ∧ ls.length ≤ 9000 ∧ (∀ l ∈ ls, ∀ x ∈ Txt.split l " ", x.length ≤ 9000) ∧ (∀ l ∈ ls, (Txt.split l " ").length ≤ 9001) ∧ FormsOk forms ∧ ∀ H', Ex H H' → Q (vOpt (wrongLine forms firsts ls)) H'
theorem flat_strs (ys : List Str) : (ys.map V.str).all flatV = true := by
  rw [List.all_map, List.all_eq_true]
  intro x _
  rfl
theorem inV_dec (z : Str) (ys : List Str) : inV (.str z) (ys.map V.str) = decide (z ∈ ys) := by
  unfold inV
  rw [List.any_map]
  by_cases h : z ∈ ys
  · rw [decide_eq_true h, List.any_eq_true]
    exact ⟨z, h, by show (z == z) = true; exact beq_self_eq_true z⟩
  · rw [decide_eq_false h, List.any_eq_false]
    intro x hx e
    exact h (eq_of_beq (show (x == z) = true from e) ▸ hx)
section
variable {P : Program} {w : World} {K : PySem.W.Frag} {mg : Str → Option Value} {base : Heap} {a : Ad}
theorem G__wrong_line (T : Txt K mg a) : FnOk P w K mg base CX0 4 a.f__wrong_line a.d__wrong_line ["lines", "firsts", "forms"] (sp__wrong_line K) := by
  refine T.F__wrong_line.ok sc__wrong_line (fun vs H Q E h => ?_) (fun cdv A outer s H vs Q E hr h => ?_)
  · obtain ⟨p, f, g, ls, firsts, forms, rfl, _⟩ := h
    rfl
  · obtain ⟨p, f, g, ls, firsts, forms, rfl, hp, hf, hg, hne, hl, hn, hx, hxn, ok, k⟩ := h
    refine ⟨_, (pss_cons (ps_if (pt_cmpR op_notIn_seq (pe_ix ix_list (pv 0) pe_int (fun _ _ => rfl)) (pv 1) (by rfl)) (pss_one (ps_ret pe_int)) pss_nil)
      (pss_cons (ps_setLc (i := 3) (own := [("form", 8)]) (g := gName 8) (tt := tYes) rfl sc__wrong_line.nd rfl rfl (sw_true rfl rfl rfl (by decide +kernel)) (pi_tup (pv 2)) (blkOk_by (N := ["lines", "firsts", "forms", "sorts", "reached", "number", "line", "words", "form"]) (sc := defScope s__wrong_line) (by decide +kernel)) (fun _ _ _ _ _ => pg_name (i := 8) sc__wrong_line.nd rfl (Or.inl rfl)) (fun _ _ _ _ _ => pts_nil) (fun _ _ _ _ _ => (pe_ix (show IxR _ (rIxL K) from ix_list) (pe_split (pv 8) pe_str) pe_int (fun _ _ => rfl))))
      (pss_cons (ps_set (i := 4) sc__wrong_line.nd rfl (Or.inl rfl) pe_int)
      (pss_cons (ps_for PassesOwn.never rfl (EvE2.pi_enum3 (by rfl) T.z_enumerate (pa_cons (pe_slice sl_list (pv 0) (po_some pe_int) po_none) pa_nil) pe_int) (pg_tup (by rfl) (pgs_cons (pg_name (i := 5) sc__wrong_line.nd rfl (Or.inl rfl)) (pgs_cons (pg_name (i := 6) sc__wrong_line.nd rfl (Or.inl rfl)) pgs_nil))) (pss_cons (ps_set (i := 7) sc__wrong_line.nd rfl (Or.inr rfl) (pe_split (pv 6) pe_str))
        (pss_cons (ps_if (PW.pt (pw_or (pt_not (pt_val (pe_callB (cr_any rfl) (by rfl) T.z_any (by decide +kernel) (pa_cons (pe_lc (own := [("form", 8)]) (g := gName 8) (tt := tYes) rfl sc__wrong_line.nd (pi_tup (pv 2)) (blkOk_by (N := ["lines", "firsts", "forms", "sorts", "reached", "number", "line", "words", "form"]) (sc := defScope s__wrong_line) (by decide +kernel)) (fun _ _ _ _ _ => pg_name (i := 8) sc__wrong_line.nd rfl (Or.inl rfl)) (fun _ _ _ _ _ => pts_nil) (fun _ _ _ _ _ => (pe_call (G_has_form T) (hr.mono (by decide)) (by rfl) T.g_has_form T.k_has_form T.B_has_form .nil pass0 (pa_cons (pv 7) (pa_cons (pv 8) pa_nil))))) pa_nil)))) (pw_or1 (pt_cmpR op_lt (pe_bm PySem.F.plainAttrs_list PySem.F.slot_list_index PySem.F.type_list_index mt_index (pv 3) (pa_cons (pe_ix ix_list (pv 7) pe_int (fun _ _ => rfl)) pa_nil)) (pv 4) (nomark _))))) (pss_one (ps_ret (pv 5))) pss_nil)
        (pss_one (ps_set (i := 4) sc__wrong_line.nd rfl (Or.inl rfl) (pe_bm PySem.F.plainAttrs_list PySem.F.slot_list_index PySem.F.type_list_index mt_index (pv 3) (pa_cons (pe_ix ix_list (pv 7) pe_int (fun _ _ => rfl)) pa_nil)))))))
      (pss_one (ps_ret pe_non)))))), ?_⟩
    cases ls with
    | nil => exact absurd rfl hne
    | cons l0 ls =>
      refine ⟨_, rfl, p, _, _, _, rfl, rfl, hp, atI_nat (j := 0) rfl, _, rfl, f, _, rfl, .inr hf, rfl, flat_strs _, ?_⟩
      rw [inV_dec]
      rw [show wrongLine forms firsts (l0 :: ls) = if decide (l0 ∈ firsts) = true then wrongFrom forms ls 2 0 else some 1 from rfl] at k
      cases hd : decide (l0 ∈ firsts) with
      | false =>
        rw [hd] at k
        exact ⟨_, rfl, iteT (k H (Ex.refl H))⟩
      | true =>
        rw [hd] at k
        have k : ∀ H', Ex H H' → Q (vOpt (wrongFrom forms ls 2 0)) H' := k
        refine ⟨_, rfl, iteF ?_⟩
        refine ⟨_, rfl, g, rfl, ⟨_, hg⟩, fun D hD => lcY_tup (K := K) (a := g) (xs := forms.map V.str) (fun i H' => Ex H H' ∧ H' D = some (.lst (((sortsOf forms).take i).map V.str))) ⟨Ex.new hD, by rw [upd_same] <;> rfl⟩ (fun i H' _ z => ex_t z.1 hg) (fun i y H' hy z => ?_) (fun H1 z => ?_)⟩
        · have hil : i < forms.length := by have := (List.getElem?_eq_some_iff.mp hy).1; rwa [List.length_map] at this
          rw [List.getElem?_map, List.getElem?_eq_getElem hil] at hy
          obtain rfl := Option.some.inj hy
          obtain ⟨lf, s0, r, e, h1, h2⟩ := ok.2 _ (List.getElem_mem hil)
          have es : (sortsOf forms)[i]? = some s0 := by
            unfold sortsOf
            rw [List.getElem?_map, List.getElem?_eq_getElem hil]
            show some ((Txt.split forms[i] " ").headD Str.empty) = _
            rw [e]
            rfl
          generalize forms[i] = fi at e lf
          refine ⟨rfl, _, rfl, ⟨_, rfl⟩, fi, " ", rfl, rfl, by decide +kernel, sz_of (by omega), fun q hq => ?_⟩
          rw [e]
          refine ⟨q, _, _, _, rfl, rfl, SqL.of upd_same, atI_nat (j := 0) rfl, ?_⟩
          refine ⟨_, Ex.new hq _ _ z.2, sz_lt (by have := ok.1; have l2 : (sortsOf forms).length = forms.length := List.length_map ..; rw [List.length_map, List.length_take]; omega), (z.1.trans (Ex.new hq)).mut hD, ?_⟩
          rw [upd_same, take_one es, List.map_append]
          rfl
        rw [List.length_map] at z
        have lso : (sortsOf forms).length = forms.length := by unfold sortsOf; rw [List.length_map]
        rw [← lso, List.take_length] at z
        obtain ⟨e1, hs1⟩ := z
        refine ⟨_, rfl, _, rfl, p, _, rfl, ex_l e1 hp, fun q hq => ?_⟩
        have ce : cutV ((l0 :: ls).map V.str) (some 1) none = ls.map V.str := by
          rw [show (1 : Int) = ((1 : Nat) : Int) from rfl, cut_from]
          rfl
        rw [ce]
        have e2 := e1.trans (Ex.new (o := .lst (ls.map V.str)) hq)
        have hs2 := Ex.new (o := .lst (ls.map V.str)) hq _ _ hs1
        have mq : (upd H1 q (.lst (ls.map V.str))) q = some (.lst (ls.map V.str)) := upd_same
        generalize upd H1 q (.lst (ls.map V.str)) = H2 at e2 hs2 mq
        refine ⟨q, _, rfl, SqL.of mq, EvE2.for_enum3 (K := K) (a := q) (xs := ls.map V.str) (fun i σ H' => ∃ (r : Nat) (v5 v6 v7 : Option V), σ = [some (.ref p), some (.ref f), some (.ref g), some (.ref D), some (.int (r : Int)), v5, v6, v7, none] ∧ Ex H2 H' ∧ wrongFrom forms ls 2 0 = wrongFrom forms (ls.drop i) (2 + i) r) ?_ ?_ ?_ ?_⟩
        · exact ⟨0, none, none, none, rfl, Ex.refl _, rfl⟩
        · rintro i σ H' _ ⟨r, v5, v6, v7, rfl, e, _⟩
          exact SqL.of (e _ _ mq)
        · rintro i y t σ H3 hy ⟨r, v5, v6, v7, rfl, e3, hw⟩ ht
          have hil : i < ls.length := by have := (List.getElem?_eq_some_iff.mp hy).1; rwa [List.length_map] at this
          rw [List.getElem?_map, List.getElem?_eq_getElem hil] at hy
          obtain rfl := Option.some.inj hy
          have hm : ls[i] ∈ l0 :: ls := List.mem_cons_of_mem _ (List.getElem_mem hil)
          have ll := hl _ hm
          have lx := hx _ hm
          have ln := hxn _ hm
          rw [List.drop_eq_getElem_cons hil] at hw
          generalize ls[i] = z at hw ll lx ln ht
          have e4 := e3.trans (Ex.new (o := .tup [.int (2 + (i : Int)), .str z]) ht)
          refine ⟨t, _, rfl, st_of upd_same, rfl, _, _, rfl, _, _, rfl, rfl, ?_⟩
          generalize upd H3 t (.tup [.int (2 + (i : Int)), .str z]) = H4 at e4
          refine ⟨_, rfl, ⟨_, rfl⟩, z, " ", rfl, rfl, by decide +kernel, sz_of (by omega), fun u hu => ?_⟩
          rw [wrongFrom_cons] at hw
          generalize Txt.split z " " = ws at hw lx ln
          have e5 := e4.trans (Ex.new (o := .lst (ws.map V.str)) hu)
          have mu : (upd H4 u (.lst (ws.map V.str))) u = some (.lst (ws.map V.str)) := upd_same
          generalize upd H4 u (.lst (ws.map V.str)) = H5 at e5 mu
          have e05 := e2.trans e5
          refine ⟨_, rfl, g, rfl, ⟨_, ex_t e05 hg⟩, fun B hB => lcY_tup (K := K) (a := g) (xs := forms.map V.str) (fun i H' => Ex H5 H' ∧ H' B = some (.lst (((okAll forms ws).take i).map V.bl))) ⟨Ex.new hB, by rw [upd_same] <;> rfl⟩ (fun i H' _ z => ex_t (e05.trans z.1) hg) (fun j y H' hy z => ?_) (fun H6 z => ?_)⟩
          · have hjl : j < forms.length := by have := (List.getElem?_eq_some_iff.mp hy).1; rwa [List.length_map] at this
            rw [List.getElem?_map, List.getElem?_eq_getElem hjl] at hy
            obtain rfl := Option.some.inj hy
            have lf := (ok.2 _ (List.getElem_mem hjl)).1
            have es : (okAll forms ws)[j]? = some (hasForm ws (Txt.split forms[j] " ")) := by
              unfold okAll
              rw [List.getElem?_map, List.getElem?_eq_getElem hjl]
              rfl
            generalize forms[j] = fj at es lf
            refine ⟨rfl, _, rfl, _, rfl, u, ws, fj, rfl, SqL.of (z.1 _ _ mu), fun w hw => Nat.le_trans (lx w hw) (by decide), by omega, lf, fun H'' e => ?_⟩
            refine ⟨_, e _ _ z.2, sz_lt (by have := ok.1; rw [List.length_map, List.length_take]; omega), (z.1.trans e).mut hB, ?_⟩
            rw [upd_same, take_one es, List.map_append]
            rfl
          rw [List.length_map] at z
          have lok : (okAll forms ws).length = forms.length := by unfold okAll; rw [List.length_map]
          rw [← lok, List.take_length] at z
          obtain ⟨e6, hB6⟩ := z
          refine ⟨B, okAll forms ws, rfl, SqL.of hB6, _, rfl, ?_⟩
          have e06 := e05.trans e6
          cases ha : (okAll forms ws).any id with
          | false =>
            rw [ha] at hw
            simp only [Bool.false_eq_true, if_false] at hw
            refine iteNF ⟨_, rfl, ?_⟩
            rw [hw] at k
            have q := k H6 e06
            rw [show vOpt (some (2 + i)) = V.int (2 + (i : Int)) from congrArg V.int (Int.natCast_add 2 i)] at q
            exact q
          | true =>
            rw [ha] at hw
            simp only [if_true] at hw
            refine iteNT ?_
            obtain ⟨w0, qs, rfl, hmem⟩ := ok_head ok ha
            have hj : rank forms (w0 :: qs) < (sortsOf forms).length := List.idxOf_lt_length_of_mem hmem
            have hat : (sortsOf forms)[rank forms (w0 :: qs)]? = some w0 := by
              rw [List.getElem?_eq_getElem hj]
              exact congrArg some (List.getElem_idxOf hj)
            have hnot : ∀ (m : Nat) (z' : V), m < rank forms (w0 :: qs) → ((sortsOf forms).map V.str)[m]? = some z' → eqV z' (.str w0) = false := fun m z' hm e => by
              rw [List.getElem?_map, List.getElem?_eq_getElem (by omega)] at e
              obtain rfl := Option.some.inj e
              exact List.not_of_lt_findIdx (p := (· == w0)) (xs := sortsOf forms) hm
            generalize rank forms (w0 :: qs) = j at hw hj hat hnot
            have iat : ((sortsOf forms).map V.str)[j]? = some (V.str w0) := by rw [List.getElem?_map, hat]; rfl
            have fl : ((sortsOf forms).map V.str).all flatV = true := by rw [List.all_map, List.all_eq_true]; intro x _; rfl
            have eqs : eqV (V.str w0) (V.str w0) = true := by show (w0 == w0) = true; exact beq_self_eq_true w0
            refine ⟨_, rfl, .inl ⟨rfl, _, SqL.of (e6 _ _ (e5 _ _ hs2))⟩, _, rfl, u, _, _, _, rfl, rfl, SqL.of (e6 _ _ mu), atI_nat (j := 0) rfl, D, _, _, j, _, rfl, rfl, SqL.of (e6 _ _ (e5 _ _ hs2)), rfl, fl, iat, eqs, hnot, _, rfl, _, _, rfl, rfl, _, rfl, ?_⟩
            refine ite2 (fun lt => ?_) (fun ge => ?_)
            · have lt' : j < r := by have := of_decide_eq_true lt; omega
              rw [if_pos lt'] at hw
              rw [hw] at k
              have q := k H6 e06
              rw [show vOpt (some (2 + i)) = V.int (2 + (i : Int)) from congrArg V.int (Int.natCast_add 2 i)] at q
              exact ⟨_, rfl, q⟩
            · have ge' : ¬ j < r := fun z => ge (decide_eq_true (by omega))
              rw [if_neg ge'] at hw
              refine ⟨_, rfl, .inl ⟨rfl, _, SqL.of (e6 _ _ (e5 _ _ hs2))⟩, _, rfl, u, _, _, _, rfl, rfl, SqL.of (e6 _ _ mu), atI_nat (j := 0) rfl, D, _, _, j, _, rfl, rfl, SqL.of (e6 _ _ (e5 _ _ hs2)), rfl, fl, iat, eqs, hnot, ?_⟩
              exact ⟨j, _, _, _, rfl, e5.trans e6, by rw [hw, show 2 + (i + 1) = 2 + i + 1 by omega]⟩
        · rintro σ H3 ⟨r, v5, v6, v7, rfl, e3, hw⟩
          rw [List.length_map, List.drop_length] at hw
          have hw : wrongFrom forms ls 2 0 = none := hw
          rw [hw] at k
          exact k H3 (e2.trans e3)
end
end TX

set_option Elab.async false
set_option linter.all false
set_option maxRecDepth 100000
set_option maxHeartbeats 4000000
namespace TX
open PySem PySem.Spec PyProof.Rows L2 EvS Evl EV StX
/-! ### rows (place, minute), forms of lines -/
def dP (r : Str × Int) : PyData := .tuple [.str r.1, .int r.2]
def MinOk (i : Int) : Prop := 0 ≤ i ∧ i ≤ 999999
def POk (r : Str × Int) : Prop := isName r.1 = true ∧ MinOk r.2
def pW (z : Str) (r : Str × Int) : List Str := [z, r.1, numS r.2]
theorem row_p {K : PySem.W.Frag} {H : Hp} {v : V} {r : Str × Int} (h : Dp K H v (dP r)) : ∃ t, v = .ref t ∧ SqT K H t [.str r.1, .int r.2] := by
  unfold dP at h
  cases h with
  | tup st al =>
    cases al with
    | cons d1 al =>
      cases al with
      | cons d2 al =>
        cases al
        cases d1
        cases d2
        exact ⟨_, rfl, st⟩
theorem pick {α : Type} {f : α → PyData} {K : PySem.W.Frag} {H : Hp} {vs : List V} {xs : List α} {i : Nat} {v : V} (h : DpAll K H vs (xs.map f)) (e : vs[i]? = some v) : ∃ x, xs[i]? = some x ∧ x ∈ xs ∧ Dp K H v (f x) := by
  obtain ⟨d, hd, dp⟩ := dps_at h e
  rw [List.getElem?_map] at hd
  obtain ⟨x, hx, rfl⟩ := Option.map_eq_some_iff.mp hd
  exact ⟨x, hx, List.mem_of_getElem? hx, dp⟩
theorem len0 : (Str.empty : Str).length = 0 := rfl
theorem made3 {p q x y : Str} (h : p = q ++ " ") : Str.empty ++ p ++ x ++ " " ++ y = Txt.join " " [q, x, y] := by
  rw [h, three, Str.empty_append]
theorem fits_lit {w s : Str} (h1 : decide (V.str s = V.str "MINUTE") = false) (h2 : Txt.isupper s = false) : fits w s = decide (V.str w = V.str s) := by
  unfold fits
  rw [h1, h2]
  rfl
theorem fits_min (w : Str) : fits w "MINUTE" = isNumber w := by
  unfold fits
  rw [if_pos (decide_eq_true rfl)]
theorem fits_cap {w s : Str} (h1 : decide (V.str s = V.str "MINUTE") = false) (h2 : Txt.isupper s = true) : fits w s = isName w := by
  unfold fits
  rw [h1, h2]
  rfl
theorem form3 (a b c x y z : Str) : hasForm [a, b, c] [x, y, z] = (fits a x && (fits b y && (fits c z && true))) := by
  unfold hasForm fitsAll
  rw [decide_eq_true (show V.int (([a, b, c] : List Str).length : Int) = V.int (([x, y, z] : List Str).length : Int) from rfl)]
  rfl
theorem wrong_app {forms : List Str} {j : Nat} {B : List Str} : ∀ {yss : List (List Str)} {n r : Nat}, (∀ ys ∈ yss, Txt.split (Txt.join " " ys) " " = ys ∧ (okAll forms ys).any id = true ∧ rank forms ys = j) → r ≤ j → ∃ r', r' ≤ j ∧ wrongFrom forms (yss.map (Txt.join " ") ++ B) n r = wrongFrom forms B (n + yss.length) r'
  | [], n, r, _, le => ⟨r, le, rfl⟩
  | ys :: yss, n, r, h, le => by
    obtain ⟨h1, h2, h3⟩ := h ys List.mem_cons_self
    obtain ⟨r', hr, e⟩ := wrong_app (forms := forms) (j := j) (B := B) (yss := yss) (n := n + 1) (r := j) (fun y hy => h y (List.mem_cons_of_mem _ hy)) (Nat.le_refl _)
    refine ⟨r', hr, ?_⟩
    rw [List.map_cons, List.cons_append, wrongFrom_cons, h1, if_pos h2, h3, if_neg (by omega), e, List.length_cons]
    congr 1
    omega
theorem any_of {forms ws : List Str} {f : Str} (hf : f ∈ forms) (h : hasForm ws (Txt.split f " ") = true) : (okAll forms ws).any id = true :=
  List.any_eq_true.mpr ⟨true, List.mem_map.mpr ⟨f, hf, h⟩, rfl⟩
theorem frozen_p (r : Str × Int) : frozen (dP r) = true := by simp [dP, frozen, frozenAll]
theorem sign_small : ∀ c ∈ LETS ++ DIGS, c < 1114112 := by decide +kernel
theorem name_strOk {z : Str} (h : isName z = true) : PyData.strOk z = true := by
  unfold isName at h
  rw [Bool.and_eq_true] at h
  unfold PyData.strOk
  rw [Array.all_eq_true_iff_forall_mem]
  intro c hc
  have q := List.all_eq_true.mp h.2 c (Array.mem_toList_iff.mpr hc)
  unfold okSign at q
  rw [Bool.or_eq_true] at q
  refine decide_eq_true (sign_small c ?_)
  rcases q with q | q
  · exact List.mem_append_left _ (of_decide_eq_true q)
  · exact List.mem_append_right _ (of_decide_eq_true q)
theorem sh_two {d e : PyData} {n : Nat} (h1 : Sh n d) (h2 : Sh n e) : Sh (n + 1) (.tuple [d, e]) := sh_tup fun x hx => by
  rcases List.mem_cons.mp hx with rfl | hx
  · exact h1
  · rw [List.mem_singleton.mp hx]
    exact h2
theorem sh_p {r : Str × Int} (h : POk r) : Sh 2 (dP r) := sh_two (n := 1) (sh_st (name_strOk h.1)) (sh_int _ 0)
theorem line3 {p q x y : Str} (h : p = q ++ " ") : p ++ x ++ " " ++ y = Txt.join " " [q, x, y] := by
  rw [h, three]
end TX

set_option Elab.async false
set_option linter.all false
set_option maxRecDepth 100000
set_option maxHeartbeats 4000000
namespace TX
open PySem PySem.Spec PyProof.Rows L2 EvS Evl EV StX
/-! ### papers as texts (point 69) -/
structure PD where
  w : Str
  ls : List (Str × Int)
  ch : List (Str × Option Str × Int)
def COk (r : Str × Option Str × Int) : Prop := isName r.1 = true ∧ (∀ z, r.2.1 = some z → isName z = true) ∧ MinOk r.2.2
structure PdOk (p : PD) : Prop where
  w : p.w ∈ (["never", "maybe", "surely"] : List Str)
  ll : p.ls.length ≤ 10
  lc : p.ch.length ≤ 10
  ls : ∀ r ∈ p.ls, POk r
  ch : ∀ r ∈ p.ch, COk r
def dL : Option Str → PyData
  | none => .none
  | some z => .str z
def vL : Option Str → V
  | none => .non
  | some z => .str z
def wL : Option Str → Str
  | none => "-"
  | some z => z
def dC (r : Str × Option Str × Int) : PyData := .tuple [.str r.1, dL r.2.1, .int r.2.2]
theorem dp_l {K : PySem.W.Frag} {H : Hp} {v : V} {l : Option Str} (h : Dp K H v (dL l)) : v = vL l := by
  cases l with
  | none => cases h; rfl
  | some z => cases h; rfl
theorem l_dp {K : PySem.W.Frag} {H : Hp} (l : Option Str) : Dp K H (vL l) (dL l) := by
  cases l with
  | none => exact .non
  | some z => exact .str z
theorem row_c {K : PySem.W.Frag} {H : Hp} {v : V} {r : Str × Option Str × Int} (h : Dp K H v (dC r)) : ∃ t, v = .ref t ∧ SqT K H t [.str r.1, vL r.2.1, .int r.2.2] := by
  unfold dC at h
  cases h with
  | tup st al =>
    cases al with
    | cons d1 al =>
      cases al with
      | cons d2 al =>
        cases al with
        | cons d3 al =>
          cases al
          cases d1
          cases d3
          rw [dp_l d2] at st
          exact ⟨_, rfl, st⟩
def cW (r : Str × Option Str × Int) : List Str := ["catch", r.1, wL r.2.1, numS r.2.2]
def wordsP (p : PD) : List (List Str) := p.ls.map (pW "label") ++ p.ch.map cW
def linesP (p : PD) : List Str := p.w :: (wordsP p).map (Txt.join " ")
def textP (p : PD) : Str := Txt.join "\n" (linesP p)
theorem link_ok {l : Option Str} (h : ∀ z, l = some z → isName z = true) : Clean (wL l) ∧ 1 ≤ (wL l).length ∧ (wL l).length ≤ 12 := by
  cases l with
  | none => exact ⟨⟨by decide +kernel, by decide +kernel⟩, by decide +kernel, by decide +kernel⟩
  | some z => exact ⟨name_clean (h z rfl), (name_len (h z rfl)).1, (name_len (h z rfl)).2⟩
theorem wordsP_ok {p : PD} (ok : PdOk p) : ∀ ys ∈ wordsP p, ys ≠ [] ∧ ys.length ≤ 4 ∧ (∀ y ∈ ys, Clean y ∧ y.length ≤ 12) := fun ys h => by
  have nm : ∀ {i : Int}, MinOk i → Clean (numS i) ∧ (numS i).length ≤ 12 := fun {i} h => ⟨num_clean h.1, by have := num_len h.1 h.2; omega⟩
  have nn : ∀ {z : Str}, isName z = true → Clean z ∧ z.length ≤ 12 := fun h => ⟨name_clean h, (name_len h).2⟩
  unfold wordsP at h
  rcases List.mem_append.mp h with h | h
  · obtain ⟨r, hr, rfl⟩ := List.mem_map.mp h
    obtain ⟨o1, o2⟩ := ok.ls r hr
    refine ⟨by simp [pW], by show 3 ≤ 4; decide, fun y hy => ?_⟩
    have : y = "label" ∨ y = r.1 ∨ y = numS r.2 := by simpa [pW] using hy
    rcases this with rfl | rfl | rfl
    · exact ⟨⟨by decide +kernel, by decide +kernel⟩, by decide +kernel⟩
    · exact nn o1
    · exact nm o2
  · obtain ⟨r, hr, rfl⟩ := List.mem_map.mp h
    obtain ⟨o1, o2, o3⟩ := ok.ch r hr
    refine ⟨by simp [cW], by show 4 ≤ 4; decide, fun y hy => ?_⟩
    have : y = "catch" ∨ y = r.1 ∨ y = wL r.2.1 ∨ y = numS r.2.2 := by simpa [cW] using hy
    rcases this with rfl | rfl | rfl | rfl
    · exact ⟨⟨by decide +kernel, by decide +kernel⟩, by decide +kernel⟩
    · exact nn o1
    · exact ⟨(link_ok o2).1, (link_ok o2).2.2⟩
    · exact nm o3
theorem wordsP_num {p : PD} (ok : PdOk p) : (wordsP p).length ≤ 20 := by
  have := ok.ll
  have := ok.lc
  unfold wordsP
  rw [List.length_append, List.length_map, List.length_map]
  omega
theorem lineP_len {ys : List Str} (h : ys ≠ [] ∧ ys.length ≤ 4 ∧ ∀ y ∈ ys, Clean y ∧ y.length ≤ 12) : (Txt.join " " ys).length ≤ 52 := by
  have z := join_len (sep := " ") (B := 12) (ys := ys) fun y hy => (h.2.2 y hy).2
  rw [len_sp] at z
  have := Nat.mul_le_mul_left (12 + 1) h.2.1
  omega
theorem word_w {p : PD} (ok : PdOk p) : p.w.length ≤ 6 ∧ Clean p.w := by
  have : p.w = "never" ∨ p.w = "maybe" ∨ p.w = "surely" := by simpa using ok.w
  rcases this with h | h | h <;> rw [h]
  · exact ⟨by decide +kernel, by decide +kernel, by decide +kernel⟩
  · exact ⟨by decide +kernel, by decide +kernel, by decide +kernel⟩
  · exact ⟨by decide +kernel, by decide +kernel, by decide +kernel⟩
theorem linesP_len {p : PD} (ok : PdOk p) : ∀ y ∈ linesP p, y.length ≤ 52 ∧ 10 ∉ y.cps.toList := fun y hy => by
  rcases List.mem_cons.mp hy with rfl | hy
  · have := word_w ok
    exact ⟨by omega, this.2.1⟩
  · obtain ⟨ys, h, rfl⟩ := List.mem_map.mp hy
    have w := wordsP_ok ok ys h
    exact ⟨lineP_len w, line_nl fun y hy => (w.2.2 y hy).1⟩
theorem linesP_num {p : PD} (ok : PdOk p) : (linesP p).length ≤ 21 := by
  have := wordsP_num ok
  unfold linesP
  rw [List.length_cons, List.length_map]
  omega
theorem textP_len {p : PD} (ok : PdOk p) : (textP p).length ≤ 1200 := by
  have z := join_len (sep := "\n") (B := 52) (ys := linesP p) fun y hy => (linesP_len ok y hy).1
  rw [len_nl] at z
  have y := Nat.mul_le_mul_left (52 + 1) (linesP_num ok)
  exact Nat.le_trans z (Nat.le_trans y (by decide))
theorem textP_split {p : PD} (ok : PdOk p) : Txt.split (textP p) "\n" = linesP p := lines_split (by simp [linesP]) fun y hy => (linesP_len ok y hy).2
theorem wordP_split {p : PD} (ok : PdOk p) {ys : List Str} (h : ys ∈ wordsP p) : Txt.split (Txt.join " " ys) " " = ys := by
  have w := wordsP_ok ok ys h
  exact line_split w.1 fun y hy => (w.2.2 y hy).1
/-! ### forms -/
abbrev PFORMS : List Str := ["label PLACE MINUTE", "catch PLACE LINK MINUTE", "catch PLACE - MINUTE"]
theorem cutl : Txt.split "label PLACE MINUTE" " " = (["label", "PLACE", "MINUTE"] : List Str) := by decide +kernel
theorem cutc : Txt.split "catch PLACE LINK MINUTE" " " = (["catch", "PLACE", "LINK", "MINUTE"] : List Str) := by decide +kernel
theorem cutd : Txt.split "catch PLACE - MINUTE" " " = (["catch", "PLACE", "-", "MINUTE"] : List Str) := by decide +kernel
theorem form4 (a b c d x y z u : Str) : hasForm [a, b, c, d] [x, y, z, u] = (fits a x && (fits b y && (fits c z && (fits d u && true)))) := by
  unfold hasForm fitsAll
  rw [decide_eq_true (show V.int (([a, b, c, d] : List Str).length : Int) = V.int (([x, y, z, u] : List Str).length : Int) from rfl)]
  rfl
theorem pforms_ok : FormsOk PFORMS := by
  refine ⟨by decide, fun f hf => ?_⟩
  have : f = "label PLACE MINUTE" ∨ f = "catch PLACE LINK MINUTE" ∨ f = "catch PLACE - MINUTE" := by simpa using hf
  rcases this with rfl | rfl | rfl
  · exact ⟨by decide +kernel, _, _, cutl, by decide +kernel, by decide +kernel⟩
  · exact ⟨by decide +kernel, _, _, cutc, by decide +kernel, by decide +kernel⟩
  · exact ⟨by decide +kernel, _, _, cutd, by decide +kernel, by decide +kernel⟩
theorem sorts_p : sortsOf PFORMS = (["label", "catch", "catch"] : List Str) := by
  unfold sortsOf
  rw [List.map_cons, List.map_cons, List.map_cons, cutl, cutc, cutd]
  rfl
theorem ok_l {r : Str × Int} (h : POk r) : hasForm (pW "label" r) (Txt.split "label PLACE MINUTE" " ") = true := by
  unfold pW
  rw [cutl, form3, fits_lit (by decide +kernel) (by decide +kernel), fits_min, fits_cap (by decide +kernel) (by decide +kernel), decide_eq_true rfl, num_is h.2.1 h.2.2, h.1]
  rfl
theorem ok_c {r : Str × Option Str × Int} (h : COk r) : (okAll PFORMS (cW r)).any id = true := by
  obtain ⟨o1, o2, o3⟩ := h
  unfold cW
  cases hl : r.2.1 with
  | none =>
    refine any_of (f := "catch PLACE - MINUTE") (by simp) ?_
    show hasForm ["catch", r.1, "-", numS r.2.2] _ = true
    rw [cutd, form4, fits_lit (by decide +kernel) (by decide +kernel), fits_min, fits_cap (s := "PLACE") (by decide +kernel) (by decide +kernel), fits_lit (s := "-") (by decide +kernel) (by decide +kernel), decide_eq_true rfl, num_is o3.1 o3.2, o1]
    decide +kernel
  | some z =>
    refine any_of (f := "catch PLACE LINK MINUTE") (by simp) ?_
    show hasForm ["catch", r.1, z, numS r.2.2] _ = true
    rw [cutc, form4, fits_lit (by decide +kernel) (by decide +kernel), fits_min, fits_cap (s := "PLACE") (by decide +kernel) (by decide +kernel), fits_cap (s := "LINK") (by decide +kernel) (by decide +kernel), decide_eq_true rfl, num_is o3.1 o3.2, o1, o2 z hl]
    rfl
theorem rank_l (r : Str × Int) : rank PFORMS (pW "label" r) = 0 := by
  unfold rank
  rw [sorts_p]
  show List.idxOf (Str.ofString "label") _ = 0
  decide +kernel
theorem rank_c (r : Str × Option Str × Int) : rank PFORMS (cW r) = 1 := by
  unfold rank
  rw [sorts_p]
  show List.idxOf (Str.ofString "catch") _ = 1
  decide +kernel
theorem paper_ok {p : PD} (ok : PdOk p) : wrongLine PFORMS ["never", "maybe", "surely"] (linesP p) = none := by
  unfold linesP wrongLine
  show (if decide (p.w ∈ (["never", "maybe", "surely"] : List Str)) = true then wrongFrom PFORMS ((wordsP p).map (Txt.join " ")) 2 0 else some 1) = none
  rw [if_pos (decide_eq_true ok.w)]
  have sp : ∀ ys ∈ wordsP p, Txt.split (Txt.join " " ys) " " = ys := fun ys h => wordP_split ok h
  unfold wordsP at sp ⊢
  rw [List.map_append]
  obtain ⟨r1, l1, e1⟩ := wrong_app (forms := PFORMS) (j := 0) (B := (p.ch.map cW).map (Txt.join " ")) (yss := p.ls.map (pW "label")) (n := 2) (r := 0) (fun ys h => by
    refine ⟨sp ys (List.mem_append_left _ h), ?_⟩
    obtain ⟨r, hr, rfl⟩ := List.mem_map.mp h
    exact ⟨any_of (f := "label PLACE MINUTE") (by simp) (ok_l (ok.ls r hr)), rank_l r⟩) (Nat.le_refl _)
  rw [e1]
  obtain ⟨r2, l2, e2⟩ := wrong_app (forms := PFORMS) (j := 1) (B := []) (yss := p.ch.map cW) (n := 2 + (p.ls.map (pW "label")).length) (r := r1) (fun ys h => by
    refine ⟨sp ys (List.mem_append_right _ h), ?_⟩
    obtain ⟨r, hr, rfl⟩ := List.mem_map.mp h
    exact ⟨ok_c (ok.ch r hr), rank_c r⟩) (by omega)
  rw [List.append_nil] at e2
  rw [e2]
  rfl
/-! ### the object -/
def paperFs (w : Str) (la ca : Addr) : List (Str × V) := putF "chain" (.ref ca) (putF "labels" (.ref la) (putF "word" (.str w) []))
theorem fs_word (w : Str) (la ca : Addr) : (paperFs w la ca).lookup ("word" : Str) = some (V.str w) := by
  unfold paperFs
  rw [lookup_putF, if_neg (by decide +kernel), lookup_putF, if_neg (by decide +kernel), lookup_putF, if_pos rfl]
theorem fs_labels (w : Str) (la ca : Addr) : (paperFs w la ca).lookup ("labels" : Str) = some (V.ref la) := by
  unfold paperFs
  rw [lookup_putF, if_neg (by decide +kernel), lookup_putF, if_pos rfl]
theorem fs_chain (w : Str) (la ca : Addr) : (paperFs w la ca).lookup ("chain" : Str) = some (V.ref ca) := by
  unfold paperFs
  rw [lookup_putF, if_pos rfl]
structure PaperAt (K : PySem.W.Frag) (C : Addr) (H : Hp) (x dx la ca : Addr) (us cs : List V) (p : PD) : Prop where
  ob : H x = some (.ins C dx (paperFs p.w la ca))
  la : H la = some (.lst us)
  du : DpAll K H us (p.ls.map dP)
  ca : H ca = some (.lst cs)
  dc : DpAll K H cs (p.ch.map dC)
theorem PaperAt.ex {K : PySem.W.Frag} {C : Addr} {H H' : Hp} {x dx la ca : Addr} {us cs : List V} {p : PD} (e : Ex H H') (h : PaperAt K C H x dx la ca us cs p) : PaperAt K C H' x dx la ca us cs p :=
  ⟨e _ _ h.ob, e _ _ h.la, dps_ex e h.du, e _ _ h.ca, dps_ex e h.dc⟩
/-- a new paper of two lists that stood in H0 -/
def sp_Paper_init (K : PySem.W.Frag) (C : Addr) : Sp := fun vs H Q _ => ∃ (H0 : Hp) (x dx la ca : Addr) (us cs : List V) (p : PD), vs = [.ref x, .str p.w, .ref la, .ref ca] ∧ Ex H0 H ∧ H0 x = none ∧ H x = some (.ins C dx []) ∧
  SqL K H0 la us ∧ DpAll K H0 us (p.ls.map dP) ∧ SqL K H0 ca cs ∧ DpAll K H0 cs (p.ch.map dC) ∧ us.length ≤ 1000 ∧ cs.length ≤ 1000 ∧ ∀ H' l2 c2, Ex H0 H' → PaperAt K C H' x dx l2 c2 us cs p → Q .non H'
def sp_paper_text (K : PySem.W.Frag) (C : Addr) : Sp := fun vs H Q _ => ∃ (x dx la ca : Addr) (us cs : List V) (p : PD), vs = [.ref x] ∧ PaperAt K C H x dx la ca us cs p ∧ PdOk p ∧ ∀ H', Ex H H' → Q (.str (textP p)) H'
def sp__link_word : Sp := fun vs H Q _ => ∃ l : Option Str, vs = [vL l] ∧ Q (.str (wL l)) H
def sp__read_link : Sp := fun vs H Q _ => ∃ l : Option Str, vs = [.str (wL l)] ∧ (∀ z, l = some z → isName z = true) ∧ Q (vL l) H
theorem made4 {x y z : Str} : Str.empty ++ ("catch " : Str) ++ x ++ " " ++ y ++ " " ++ z = Txt.join " " ["catch", x, y, z] := by
  rw [join_two, join_two, join_two, join_one, show ("catch " : Str) = "catch" ++ " " by decide +kernel, Str.empty_append]
  simp only [Str.append_assoc]
theorem len_l : ("label " : Str).length = 6 := by decide +kernel
theorem len_c : ("catch " : Str).length = 6 := by decide +kernel
theorem cut_l : ("label " : Str) = "label" ++ " " := by decide +kernel
theorem name_dash : isName "-" = false := by decide +kernel
section
variable {P : Program} {w : World} {K : PySem.W.Frag} {mg : Str → Option Value} {base : Heap} {a : Ad}
theorem G__link_word (T : Txt K mg a) : FnOk P w K mg base CX0 1 a.f__link_word a.d__link_word ["link"] sp__link_word := by
  refine T.F__link_word.ok sc__link_word (fun vs H Q E h => ?_) (fun cdv A outer s H vs Q E hr h => ?_)
  · obtain ⟨l, rfl, _⟩ := h
    rfl
  · obtain ⟨l, rfl, k⟩ := h
    refine ⟨_, (pss_one (ps_ret (pe_ifExp (pt_cmpR op_isN (pv 0) pe_non (nomark _)) (pe_gS rfl T.c_NO_LINK) (pv 0)))), ?_⟩
    cases l with
    | none => exact ⟨_, rfl, rfl, _, rfl, iteT k⟩
    | some z => exact ⟨_, rfl, rfl, _, rfl, iteF ⟨_, rfl, k⟩⟩
theorem G__read_link (T : Txt K mg a) : FnOk P w K mg base CX0 1 a.f__read_link a.d__read_link ["word"] sp__read_link := by
  refine T.F__read_link.ok sc__read_link (fun vs H Q E h => ?_) (fun cdv A outer s H vs Q E hr h => ?_)
  · obtain ⟨l, rfl, _⟩ := h
    rfl
  · obtain ⟨l, rfl, hn, k⟩ := h
    refine ⟨_, (pss_one (ps_ret (pe_ifExp (pt_cmpR op_eq (pv 0) (pe_gS rfl T.c_NO_LINK) (nomark _)) pe_non (pv 0)))), ?_⟩
    cases l with
    | none => exact ⟨_, rfl, rfl, _, rfl, iteT k⟩
    | some z =>
      have ne : decide (V.str z = V.str "-") = false := decide_eq_false fun q => by
        have := hn z rfl
        rw [V.str.inj q, name_dash] at this
        cases this
      refine ⟨_, rfl, rfl, _, rfl, ?_⟩
      show if decide (V.str z = V.str "-") = true then _ else _
      rw [ne]
      exact iteF ⟨_, rfl, k⟩
theorem G_Paper_init (T : Txt K mg a) : FnOk P w K mg base CX0 1 a.f_Paper_init a.d_Paper_init ["self", "word", "labels", "chain"] (sp_Paper_init K a.C_Paper) := by
  refine T.F_Paper_init.ok sc_Paper_init (fun vs H Q E h => ?_) (fun cdv A outer s H vs Q E hr h => ?_)
  · obtain ⟨H0, x, dx, la, ca, us, cs, p, rfl, _⟩ := h
    rfl
  · obtain ⟨H0, x, dx, la, ca, us, cs, p, rfl, e0, x0, hx, hu, du, hc, dc, lu, lc, k⟩ := h
    refine ⟨_, (pss_cons (ps_fld (pv 0) (pv 1) rfl)
      (pss_cons (ps_fld (pv 0) (pe_lc (own := [("label", 4)]) (g := gName 4) (tt := tYes) rfl sc_Paper_init.nd (pi_list (pv 2)) (blkOk_by (N := ["self", "word", "labels", "chain", "label", "row"]) (sc := defScope s_Paper_init) (by decide +kernel)) (fun _ _ _ _ _ => pg_name (i := 4) sc_Paper_init.nd rfl (Or.inl rfl)) (fun _ _ _ _ _ => pts_nil) (fun _ _ _ _ _ => (pe_callTy (show CallR _ _ (rTupK K) from call_tupK) (by rfl) T.z_tuple (by decide +kernel) (pa_cons (pv 4) pa_nil)))) rfl)
      (pss_one (ps_fld (pv 0) (pe_lc (own := [("row", 5)]) (g := gName 5) (tt := tYes) rfl sc_Paper_init.nd (pi_list (pv 3)) (blkOk_by (N := ["self", "word", "labels", "chain", "label", "row"]) (sc := defScope s_Paper_init) (by decide +kernel)) (fun _ _ _ _ _ => pg_name (i := 5) sc_Paper_init.nd rfl (Or.inl rfl)) (fun _ _ _ _ _ => pts_nil) (fun _ _ _ _ _ => (pe_callTy (show CallR _ _ (rTupK K) from call_tupK) (by rfl) T.z_tuple (by decide +kernel) (pa_cons (pv 5) pa_nil)))) rfl)))), ?_⟩
    refine ⟨_, rfl, _, rfl, x, a.C_Paper, dx, _, rfl, hx, T.cl_Paper, T.na_Paper_word, by show 0 < 1000; decide, ?_⟩
    have f1 : Ex H0 (upd H x (.ins a.C_Paper dx (putF "word" (.str p.w) []))) := e0.mut x0
    have hx1 : (upd H x (.ins a.C_Paper dx (putF "word" (.str p.w) []))) x = some (.ins a.C_Paper dx (putF "word" (.str p.w) [])) := upd_same
    generalize upd H x (.ins a.C_Paper dx (putF "word" (.str p.w) [])) = H1 at f1 hx1
    refine ⟨_, rfl, la, rfl, ⟨_, ex_l f1 hu⟩, fun D hD => lcY_list (K := K) (a := la) (xs := us) (fun i H' => Ex H1 H' ∧ H' D = some (.lst (us.take i))) ⟨Ex.new hD, upd_same⟩ (fun i H' _ z => ex_l (f1.trans z.1) hu) (fun i y H' hy z => ?_) (fun H2 z => ?_)⟩
    · have hi := (List.getElem?_eq_some_iff.mp hy).1
      obtain ⟨r, hr, hm, dp⟩ := pick (dps_ex (f1.trans z.1) du) hy
      obtain ⟨t, rfl, st⟩ := row_p dp
      refine ⟨rfl, _, rfl, t, _, rfl, .inr ⟨st, _, z.2, sz_lt (by rw [List.length_take]; omega), z.1.mut hD, ?_⟩⟩
      rw [upd_same, take_one hy]
    rw [List.take_length] at z
    obtain ⟨e2, m2⟩ := z
    have hx2 := e2 _ _ hx1
    refine ⟨_, rfl, x, a.C_Paper, dx, _, rfl, hx2, T.cl_Paper, T.na_Paper_labels, by show 1 < 1000; decide, ?_⟩
    have Dx : D ≠ x := (ne_of_none hx1 hD).symm
    have f3 : Ex H0 (upd H2 x (.ins a.C_Paper dx (putF "labels" (.ref D) (putF "word" (.str p.w) [])))) := (f1.trans e2).mut x0
    have hx3 : (upd H2 x (.ins a.C_Paper dx (putF "labels" (.ref D) (putF "word" (.str p.w) [])))) x = some (.ins a.C_Paper dx (putF "labels" (.ref D) (putF "word" (.str p.w) []))) := upd_same
    have m3 : (upd H2 x (.ins a.C_Paper dx (putF "labels" (.ref D) (putF "word" (.str p.w) [])))) D = some (.lst us) := by rw [upd_ne Dx]; exact m2
    generalize upd H2 x (.ins a.C_Paper dx (putF "labels" (.ref D) (putF "word" (.str p.w) []))) = H3 at f3 hx3 m3
    refine ⟨_, rfl, ca, rfl, ⟨_, ex_l f3 hc⟩, fun B hB => lcY_list (K := K) (a := ca) (xs := cs) (fun i H' => Ex H3 H' ∧ H' B = some (.lst (cs.take i))) ⟨Ex.new hB, upd_same⟩ (fun i H' _ z => ex_l (f3.trans z.1) hc) (fun i y H' hy z => ?_) (fun H4 z => ?_)⟩
    · have hi := (List.getElem?_eq_some_iff.mp hy).1
      obtain ⟨r, hr, hm, dp⟩ := pick (dps_ex (f3.trans z.1) dc) hy
      obtain ⟨t, rfl, st⟩ := row_c dp
      refine ⟨rfl, _, rfl, t, _, rfl, .inr ⟨st, _, z.2, sz_lt (by rw [List.length_take]; omega), z.1.mut hB, ?_⟩⟩
      rw [upd_same, take_one hy]
    rw [List.take_length] at z
    obtain ⟨e4, m4⟩ := z
    have hx4 := e4 _ _ hx3
    have Bx : B ≠ x := (ne_of_none hx3 hB).symm
    refine ⟨_, rfl, x, a.C_Paper, dx, _, rfl, hx4, T.cl_Paper, T.na_Paper_chain, by show 2 < 1000; decide, ?_⟩
    have f5 : Ex H0 (upd H4 x (.ins a.C_Paper dx (paperFs p.w D B))) := (f3.trans e4).mut x0
    exact k _ D B f5 ⟨upd_same, by rw [upd_ne Dx]; exact e4 _ _ m3, dps_ex f5 du, by rw [upd_ne Bx]; exact m4, dps_ex f5 dc⟩
theorem G_paper_text (T : Txt K mg a) : FnOk P w K mg base CX0 2 a.f_paper_text a.d_paper_text ["told"] (sp_paper_text K a.C_Paper) := by
  refine T.F_paper_text.ok sc_paper_text (fun vs H Q E h => ?_) (fun cdv A outer s H vs Q E hr h => ?_)
  · obtain ⟨x, dx, la, ca, us, cs, p, rfl, _⟩ := h
    rfl
  · obtain ⟨x, dx, la, ca, us, cs, p, rfl, PA, ok, k⟩ := h
    have lu := dps_len PA.du
    have lc := dps_len PA.dc
    rw [List.length_map] at lu lc
    have kl := ok.ll
    have kc := ok.lc
    have ww := word_w ok
    refine ⟨_, (pss_cons (ps_set (i := 1) sc_paper_text.nd rfl (Or.inl rfl) (pe_lst (pa_cons (pe_fld (pv 0) rfl) pa_nil)))
      (pss_cons (ps_expr (pe_bm PySem.F.plainAttrs_list PySem.F.slot_list_extend PySem.F.type_list_extend mt_extend (pv 1) (pa_cons (pe_lc (own := [("place", 2), ("minute", 3)]) (g := gTup K 2 (gCons (gName 2) (gCons (gName 3) gNil))) (tt := tYes) rfl sc_paper_text.nd (pi_list (pe_fld (pv 0) rfl)) (blkOk_by (N := ["told", "lines", "place", "minute", "link"]) (sc := defScope s_paper_text) (by decide +kernel)) (fun _ _ _ _ _ => (pg_tup (by rfl) (pgs_cons (pg_name (i := 2) sc_paper_text.nd rfl (Or.inl rfl)) (pgs_cons (pg_name (i := 3) sc_paper_text.nd rfl (Or.inl rfl)) pgs_nil)))) (fun _ _ _ _ _ => pts_nil) (fun _ _ _ _ _ => (TX.pe_jd (PJ.cons pe_str (PJ.cons (pe_fmt (pv 2)) (PJ.cons pe_str (PJ.cons (pe_fmt (pv 3)) PJ.nil))))))) pa_nil)))
      (pss_cons (ps_expr (pe_bm PySem.F.plainAttrs_list PySem.F.slot_list_extend PySem.F.type_list_extend mt_extend (pv 1) (pa_cons (pe_lc (own := [("place", 2), ("link", 4), ("minute", 3)]) (g := gTup K 3 (gCons (gName 2) (gCons (gName 4) (gCons (gName 3) gNil)))) (tt := tYes) rfl sc_paper_text.nd (pi_list (pe_fld (pv 0) rfl)) (blkOk_by (N := ["told", "lines", "place", "minute", "link"]) (sc := defScope s_paper_text) (by decide +kernel)) (fun _ _ _ _ _ => (pg_tup (by rfl) (pgs_cons (pg_name (i := 2) sc_paper_text.nd rfl (Or.inl rfl)) (pgs_cons (pg_name (i := 4) sc_paper_text.nd rfl (Or.inl rfl)) (pgs_cons (pg_name (i := 3) sc_paper_text.nd rfl (Or.inl rfl)) pgs_nil))))) (fun _ _ _ _ _ => pts_nil) (fun _ _ _ _ _ => (TX.pe_jd (PJ.cons pe_str (PJ.cons (pe_fmt (pv 2)) (PJ.cons pe_str (PJ.cons (pe_fmt (pe_call (G__link_word T) (hr.mono (by decide)) (by rfl) T.g__link_word T.k__link_word T.B__link_word .nil pass0 (pa_cons (pv 4) pa_nil))) (PJ.cons pe_str (PJ.cons (pe_fmt (pv 3)) PJ.nil))))))))) pa_nil)))
      (pss_one (ps_ret (pe_join pe_str (pv 1))))))), ?_⟩
    refine ⟨_, rfl, x, a.C_Paper, dx, _, _, rfl, PA.ob, T.cl_Paper, T.na_Paper_word, fs_word .., by show 1 ≤ sizeLine; decide, fun D hD => ?_⟩
    have e1 := Ex.new (o := .lst [.str p.w]) hD
    have m1 : (upd H D (.lst [.str p.w])) D = some (.lst (([p.w] : List Str).map V.str)) := upd_same
    generalize upd H D (.lst [.str p.w]) = H1 at e1 m1
    have PA1 := PA.ex e1
    refine ⟨_, rfl, .inl ⟨rfl, _, SqL.of m1⟩, _, rfl, x, a.C_Paper, dx, _, _, rfl, PA1.ob, T.cl_Paper, T.na_Paper_labels, fs_labels .., la, rfl, ⟨_, SqL.of PA1.la⟩, fun B hB => lcY_list (K := K) (a := la) (xs := us) (fun i H' => Ex H1 H' ∧ H' B = some (.lst ((((p.ls.take i).map (pW "label")).map (Txt.join " ")).map V.str))) ⟨Ex.new hB, by rw [upd_same] <;> rfl⟩ (fun i H' _ z => SqL.of (z.1 _ _ PA1.la)) (fun i y H' hy z => ?_) (fun H2 z => ?_)⟩
    · have hi := (List.getElem?_eq_some_iff.mp hy).1
      obtain ⟨r, hr, hm, dp⟩ := pick (dps_ex z.1 PA1.du) hy
      obtain ⟨t, rfl, st⟩ := row_p dp
      obtain ⟨o2, o1⟩ := ok.ls r hm
      have n1 := num_len o1.1 o1.2
      have n2 := name_len o2
      refine ⟨t, _, rfl, st, rfl, _, _, rfl, _, _, rfl, rfl, rfl, ?_⟩
      refine ⟨_, rfl, sz_of (by rw [Str.length_append, len0, len_l]; omega), _, rfl, .inl ⟨r.1, rfl, sz_of (by omega), r.1, rfl, sz_of (by rw [Str.length_append, Str.length_append, len0, len_l]; omega), _, rfl, sz_of (by rw [Str.length_append, Str.length_append, Str.length_append, len0, len_l, len_sp]; omega), _, rfl, .inr ⟨r.2, rfl, log_ok o1.1 o1.2, numS r.2, rfl, sz_of (by rw [Str.length_append, Str.length_append, Str.length_append, Str.length_append, len0, len_l, len_sp]; omega), ?_⟩⟩⟩
      refine ⟨_, z.2, sz_lt (by simp only [List.length_map, List.length_take]; omega), z.1.mut hB, ?_⟩
      rw [upd_same, take_one hr, made3 cut_l, List.map_append, List.map_append, List.map_append]
      rfl
    rw [lu, List.take_length] at z
    obtain ⟨e2, m2⟩ := z
    refine ⟨D, B, _, _, rfl, rfl, e2 _ _ m1, m2, sz_of (by simp only [List.length_map, List.length_cons, List.length_nil]; omega), ?_⟩
    rw [← List.map_append]
    have e3 : Ex H (upd H2 D (.lst (([p.w] ++ (p.ls.map (pW "label")).map (Txt.join " ")).map V.str))) := (e1.trans e2).mut hD
    have m3 : (upd H2 D (.lst (([p.w] ++ (p.ls.map (pW "label")).map (Txt.join " ")).map V.str))) D = some (.lst (([p.w] ++ (p.ls.map (pW "label")).map (Txt.join " ")).map V.str)) := upd_same
    generalize upd H2 D (.lst (([p.w] ++ (p.ls.map (pW "label")).map (Txt.join " ")).map V.str)) = H3 at e3 m3
    have PA3 := PA.ex e3
    refine ⟨_, rfl, .inl ⟨rfl, _, SqL.of m3⟩, _, rfl, x, a.C_Paper, dx, _, _, rfl, PA3.ob, T.cl_Paper, T.na_Paper_chain, fs_chain .., ca, rfl, ⟨_, SqL.of PA3.ca⟩, fun B2 hB2 => lcY_list (K := K) (a := ca) (xs := cs) (fun i H' => Ex H3 H' ∧ H' B2 = some (.lst ((((p.ch.take i).map cW).map (Txt.join " ")).map V.str))) ⟨Ex.new hB2, by rw [upd_same] <;> rfl⟩ (fun i H' _ z => SqL.of (z.1 _ _ PA3.ca)) (fun i y H' hy z => ?_) (fun H4 z => ?_)⟩
    · have hi := (List.getElem?_eq_some_iff.mp hy).1
      obtain ⟨r, hr, hm, dp⟩ := pick (dps_ex z.1 PA3.dc) hy
      obtain ⟨t, rfl, st⟩ := row_c dp
      obtain ⟨o2, o3, o1⟩ := ok.ch r hm
      have n1 := num_len o1.1 o1.2
      have n2 := name_len o2
      have n3 := (link_ok o3).2
      refine ⟨t, _, rfl, st, rfl, _, _, rfl, _, _, rfl, _, _, rfl, rfl, rfl, ?_⟩
      refine ⟨_, rfl, sz_of (by rw [Str.length_append, len0, len_c]; omega), _, rfl, .inl ⟨r.1, rfl, sz_of (by omega), r.1, rfl, sz_of (by rw [Str.length_append, Str.length_append, len0, len_c]; omega), _, rfl, sz_of (by rw [Str.length_append, Str.length_append, Str.length_append, len0, len_c, len_sp]; omega), _, rfl, r.2.1, rfl, .inl ⟨wL r.2.1, rfl, sz_of (by omega), wL r.2.1, rfl, sz_of (by rw [Str.length_append, Str.length_append, Str.length_append, Str.length_append, len0, len_c, len_sp]; omega), _, rfl, sz_of (by rw [Str.length_append, Str.length_append, Str.length_append, Str.length_append, Str.length_append, len0, len_c, len_sp]; omega), _, rfl, .inr ⟨r.2.2, rfl, log_ok o1.1 o1.2, numS r.2.2, rfl, sz_of (by rw [Str.length_append, Str.length_append, Str.length_append, Str.length_append, Str.length_append, Str.length_append, len0, len_c, len_sp]; omega), ?_⟩⟩⟩⟩
      refine ⟨_, z.2, sz_lt (by simp only [List.length_map, List.length_take]; omega), z.1.mut hB2, ?_⟩
      rw [upd_same, take_one hr, made4, List.map_append, List.map_append, List.map_append]
      rfl
    rw [lc, List.take_length] at z
    obtain ⟨e4, m4⟩ := z
    refine ⟨D, B2, _, _, rfl, rfl, e4 _ _ m3, m4, sz_of (by simp only [List.length_map, List.length_append, List.length_cons, List.length_nil]; omega), ?_⟩
    rw [← List.map_append]
    have el : ([p.w] ++ (p.ls.map (pW "label")).map (Txt.join " ")) ++ (p.ch.map cW).map (Txt.join " ") = linesP p := by
      unfold linesP wordsP
      rw [List.map_append]
      rfl
    rw [el]
    exact ⟨⟨_, rfl⟩, _, rfl, "\n", D, linesP p, rfl, rfl, .inl (SqL.of upd_same), join_fits (n := 21) (fun y hy => (linesP_len ok y hy).1) (linesP_num ok) len_nl (by decide), k _ ((e3.trans e4).mut hD)⟩
end
end TX

set_option Elab.async false
set_option linter.all false
set_option maxRecDepth 100000
set_option maxHeartbeats 4000000
namespace TX
open PySem PySem.Spec PyProof.Rows L2 EvS Evl EV StX
def dWs (ys : List Str) : PyData := .list (ys.map .str)
def onlyL (z : Str) (l : List (List Str)) : List (List Str) := (l.filter fun ys => decide (V.str (ys.headD Str.empty) = V.str z)).map fun ys => ys.drop 1
theorem onlyL_app (z : Str) (a b : List (List Str)) : onlyL z (a ++ b) = onlyL z a ++ onlyL z b := by
  unfold onlyL
  rw [List.filter_append, List.map_append]
theorem onlyL_all {α : Type} {z : Str} {g : α → List Str} {l : List α} (h : ∀ r ∈ l, (g r).headD Str.empty = z) : onlyL z (l.map g) = l.map fun r => (g r).drop 1 := by
  unfold onlyL
  rw [List.filter_eq_self.mpr fun x hx => by
    obtain ⟨r, hr, rfl⟩ := List.mem_map.mp hx
    exact decide_eq_true (congrArg V.str (h r hr)), List.map_map]
  rfl
theorem onlyL_none {α : Type} {z y : Str} {g : α → List Str} {l : List α} (h : ∀ r ∈ l, (g r).headD Str.empty = y) (ne : decide (V.str y = V.str z) = false) : onlyL z (l.map g) = [] := by
  unfold onlyL
  rw [List.filter_eq_nil_iff.mpr fun x hx => by
    obtain ⟨r, hr, rfl⟩ := List.mem_map.mp hx
    rw [h r hr, ne]
    decide]
  rfl
theorem only_lab (p : PD) : onlyL "label" (wordsP p) = p.ls.map fun r => [r.1, numS r.2] := by
  unfold wordsP
  rw [onlyL_app, onlyL_all (z := "label") (g := pW "label") (fun _ _ => rfl), onlyL_none (g := cW) (y := "catch") (fun _ _ => rfl) (by decide +kernel), List.append_nil]
  rfl
theorem only_cat (p : PD) : onlyL "catch" (wordsP p) = p.ch.map fun r => [r.1, wL r.2.1, numS r.2.2] := by
  unfold wordsP
  rw [onlyL_app, onlyL_none (g := pW "label") (y := "label") (fun _ _ => rfl) (by decide +kernel), onlyL_all (z := "catch") (g := cW) (fun _ _ => rfl), List.nil_append]
  rfl
theorem words_in {K : PySem.W.Frag} {H : Hp} {v : V} {ys : List Str} (h : Dp K H v (dWs ys)) : ∃ r, v = .ref r ∧ SqL K H r (ys.map V.str) := by
  unfold dWs at h
  cases h with
  | @lst r vs _ hs hr =>
    rw [dps_strs hr] at hs
    exact ⟨r, rfl, hs⟩
theorem frozen_c (r : Str × Option Str × Int) : frozen (dC r) = true := by
  obtain ⟨a, b, c⟩ := r
  cases b <;> simp [dC, dL, frozen, frozenAll]
def sp__rows_of (K : PySem.W.Frag) : Sp := fun vs H Q _ => ∃ (z : Str) (p : Addr) (rs : List V) (yss : List (List Str)), vs = [.str z, .ref p] ∧ SqL K H p rs ∧ DpAll K H rs (yss.map dWs) ∧ (∀ ys ∈ yss, ys ≠ []) ∧ yss.length ≤ 1000 ∧
  ∀ (l : Addr) (H' : Hp) (acc : List V), Ex H H' → H l = none → H' l = some (.lst acc) → DpAll K H' acc ((onlyL z yss).map dWs) → Q (.ref l) H'
def sp_parse_paper (K : PySem.W.Frag) (C : Addr) : Sp := fun vs H Q _ => ∃ p : PD, vs = [.str (textP p)] ∧ PdOk p ∧ ∀ (H' : Hp) (x dx la ca : Addr) (us cs : List V), Ex H H' → PaperAt K C H' x dx la ca us cs p → Q (.ref x) H'
section
variable {P : Program} {w : World} {K : PySem.W.Frag} {mg : Str → Option Value} {base : Heap} {a : Ad}
theorem G__rows_of (T : Txt K mg a) : FnOk P w K mg base CX0 1 a.f__rows_of a.d__rows_of ["sort", "rows"] (sp__rows_of K) := by
  refine T.F__rows_of.ok sc__rows_of (fun vs H Q E h => ?_) (fun cdv A outer s H vs Q E hr h => ?_)
  · obtain ⟨z, p, rs, yss, rfl, _⟩ := h
    rfl
  · obtain ⟨z, p, rs, yss, rfl, hS, hd, hne, hl, k⟩ := h
    have lr : rs.length = yss.length := by rw [dps_len hd, List.length_map]
    refine ⟨_, (pss_one (ps_ret (pe_lc (own := [("row", 2)]) (g := gName 2) rfl sc__rows_of.nd (pi_list (pv 1)) (blkOk_by (N := ["sort", "rows", "row"]) (sc := defScope s__rows_of) (by decide +kernel)) (fun _ _ _ _ _ => pg_name (i := 2) sc__rows_of.nd rfl (Or.inl rfl)) (fun _ _ _ _ _ => pts_one (pt_cmpR op_eq (pe_ix (show IxR _ (rIxL K) from ix_list) (pv 2) pe_int (fun _ _ => rfl)) (pv 0) (nomark _))) (fun _ _ _ _ _ => (pe_slice (show SlR _ (rSlL K) from sl_list) (pv 2) (po_some pe_int) po_none))))), ?_⟩
    refine ⟨_, rfl, p, rfl, ⟨_, hS⟩, fun D hD => lc_list (K := K) (a := p) (xs := rs) (fun i H' => Ex H H' ∧ ∃ acc, H' D = some (.lst acc) ∧ DpAll K (del H' D) acc ((onlyL z (yss.take i)).map dWs) ∧ acc.length ≤ i) ⟨Ex.new hD, [], upd_same, .nil, Nat.le_refl _⟩ (fun i H' _ q => ex_l q.1 hS) (fun i y H' hy q => ?_) (fun H1 q => ?_)⟩
    · obtain ⟨e, acc, ha, da, la⟩ := q
      have hi := (List.getElem?_eq_some_iff.mp hy).1
      obtain ⟨ys, hx, hm, dp⟩ := pick (dps_ex e hd) hy
      obtain ⟨t, rfl, st⟩ := words_in dp
      cases ys with
      | nil => exact absurd rfl (hne _ hm)
      | cons y0 ys =>
        refine ⟨rfl, _, rfl, t, _, _, _, rfl, rfl, st, atI_nat (j := 0) rfl, _, rfl, rfl, _, rfl, ?_⟩
        have tk : onlyL z (yss.take (i + 1)) = onlyL z (yss.take i) ++ onlyL z [y0 :: ys] := by rw [take_one hx, onlyL_app]
        refine ite2 (fun c => ?_) (fun c => ?_)
        · refine ⟨_, rfl, _, rfl, t, _, rfl, st, fun u hu => ?_⟩
          have ce : cutV ((y0 :: ys).map V.str) (some 1) none = ys.map V.str := by
            rw [show (1 : Int) = ((1 : Nat) : Int) from rfl, cut_from]
            rfl
          rw [ce]
          have uD : u ≠ D := fun q => by rw [q, ha] at hu; cases hu
          refine ⟨acc, Ex.new hu _ _ ha, sz_lt (by omega), (e.trans (Ex.new hu)).mut hD, _, upd_same, ?_, by rw [List.length_append, List.length_singleton]; omega⟩
          have e1 : onlyL z [y0 :: ys] = [ys] := by
            unfold onlyL
            rw [List.filter_cons, if_pos (show decide (V.str ((y0 :: ys).headD Str.empty) = V.str z) = true from c)]
            rfl
          rw [del_upd, tk, e1, List.map_append]
          exact dps_app (dps_ex (ex_del (Ex.new hu)) da) (dps_one (.lst (SqL.of (del_at uD upd_same)) (dps_str _)))
        · have e1 : onlyL z [y0 :: ys] = [] := by
            unfold onlyL
            rw [List.filter_cons, if_neg (show ¬ decide (V.str ((y0 :: ys).headD Str.empty) = V.str z) = true from c)]
            rfl
          rw [e1, List.append_nil] at tk
          exact ⟨e, acc, ha, by rw [tk]; exact da, by omega⟩
    · obtain ⟨e, acc, ha, da, la⟩ := q
      rw [lr, List.take_length] at da
      exact k D H1 acc e hD ha (dps_ex del_ex da)
theorem G_parse_paper (T : Txt K mg a) : FnOk P w K mg base CX0 5 a.f_parse_paper a.d_parse_paper ["text"] (sp_parse_paper K a.C_Paper) := by
  refine T.F_parse_paper.ok sc_parse_paper (fun vs H Q E h => ?_) (fun cdv A outer s H vs Q E hr h => ?_)
  · obtain ⟨q, rfl, _⟩ := h
    rfl
  · obtain ⟨q, rfl, ok, k⟩ := h
    have tl := textP_len ok
    have ln := linesP_num ok
    have ww := word_w ok
    refine ⟨_, (pss_cons (ps_set (i := 1) sc_parse_paper.nd rfl (Or.inl rfl) (pe_split (pv 0) pe_str))
      (pss_cons (ps_set (i := 2) sc_parse_paper.nd rfl (Or.inl rfl) (pe_call (G__wrong_line T) (hr.mono (by decide)) (by rfl) T.g__wrong_line T.k__wrong_line T.B__wrong_line .nil pass0 (pa_cons (pv 1) (pa_cons (pe_tup (pa_cons (pe_gS rfl T.c_NEVER) (pa_cons (pe_gS rfl T.c_MAYBE) (pa_cons (pe_gS rfl T.c_SURELY) pa_nil)))) (pa_cons (pe_glob (v := .ref a.q_PAPER_LINES) (by rfl) T.g_PAPER_LINES rfl) pa_nil)))))
      (pss_cons (ps_if (pt_cmpR op_notN (pv 2) pe_non (nomark _)) pss_any pss_nil)
      (pss_cons (ps_setLc (i := 3) (own := [("line", 6)]) (g := gName 6) (tt := tYes) rfl sc_parse_paper.nd rfl rfl (sw_true rfl rfl rfl (by decide +kernel)) (pi_list (pe_slice sl_list (pv 1) (po_some pe_int) po_none)) (blkOk_by (N := ["text", "lines", "wrong", "rows", "labels", "chain", "line", "place", "minute", "word"]) (sc := defScope s_parse_paper) (by decide +kernel)) (fun _ _ _ _ _ => pg_name (i := 6) sc_parse_paper.nd rfl (Or.inl rfl)) (fun _ _ _ _ _ => pts_nil) (fun _ _ _ _ _ => (pe_split (pv 6) pe_str)))
      (pss_cons (ps_setLc (i := 4) (own := [("place", 7), ("minute", 8)]) (g := gUnl K 2 (gCons (gName 7) (gCons (gName 8) gNil))) (tt := tYes) rfl sc_parse_paper.nd rfl rfl (sw_true rfl rfl rfl (by decide +kernel)) (pi_list (pe_call (G__rows_of T) (hr.mono (by decide)) (by rfl) T.g__rows_of T.k__rows_of T.B__rows_of .nil pass0 (pa_cons pe_str (pa_cons (pv 3) pa_nil)))) (blkOk_by (N := ["text", "lines", "wrong", "rows", "labels", "chain", "line", "place", "minute", "word"]) (sc := defScope s_parse_paper) (by decide +kernel)) (fun _ _ _ _ _ => (pg_unl rfl (pgs_cons (pg_name (i := 7) sc_parse_paper.nd rfl (Or.inl rfl)) (pgs_cons (pg_name (i := 8) sc_parse_paper.nd rfl (Or.inl rfl)) pgs_nil)))) (fun _ _ _ _ _ => pts_nil) (fun _ _ _ _ _ => (pe_tup (pa_cons (pv 7) (pa_cons (pe_callTy call_int_str (by rfl) T.z_int (by decide +kernel) (pa_cons (pv 8) pa_nil)) pa_nil)))))
      (pss_cons (ps_setLc (i := 5) (own := [("place", 7), ("word", 9), ("minute", 8)]) (g := gUnl K 3 (gCons (gName 7) (gCons (gName 9) (gCons (gName 8) gNil)))) (tt := tYes) rfl sc_parse_paper.nd rfl rfl (sw_true rfl rfl rfl (by decide +kernel)) (pi_list (pe_call (G__rows_of T) (hr.mono (by decide)) (by rfl) T.g__rows_of T.k__rows_of T.B__rows_of .nil pass0 (pa_cons pe_str (pa_cons (pv 3) pa_nil)))) (blkOk_by (N := ["text", "lines", "wrong", "rows", "labels", "chain", "line", "place", "minute", "word"]) (sc := defScope s_parse_paper) (by decide +kernel)) (fun _ _ _ _ _ => (pg_unl rfl (pgs_cons (pg_name (i := 7) sc_parse_paper.nd rfl (Or.inl rfl)) (pgs_cons (pg_name (i := 9) sc_parse_paper.nd rfl (Or.inl rfl)) (pgs_cons (pg_name (i := 8) sc_parse_paper.nd rfl (Or.inl rfl)) pgs_nil))))) (fun _ _ _ _ _ => pts_nil) (fun _ _ _ _ _ => (pe_tup (pa_cons (pv 7) (pa_cons (pe_call (G__read_link T) (hr.mono (by decide)) (by rfl) T.g__read_link T.k__read_link T.B__read_link .nil pass0 (pa_cons (pv 9) pa_nil)) (pa_cons (pe_callTy call_int_str (by rfl) T.z_int (by decide +kernel) (pa_cons (pv 8) pa_nil)) pa_nil))))))
      (pss_one (ps_ret (pe_make T.mk_Paper (G_Paper_init T) (hr.mono (by decide)) (by rfl) T.g_Paper T.B_Paper_init .nil pass0 (pa_cons (pe_ix ix_list (pv 1) pe_int (fun _ _ => rfl)) (pa_cons (pv 4) (pa_cons (pv 5) pa_nil)))))))))))), ?_⟩
    refine ⟨_, rfl, ⟨_, rfl⟩, textP q, "\n", rfl, rfl, by decide +kernel, sz_of (by omega), fun p hp => ?_⟩
    rw [textP_split ok]
    have e1 : Ex H (upd H p (.lst ((linesP q).map V.str))) := Ex.new hp
    have mp : (upd H p (.lst ((linesP q).map V.str))) p = some (.lst ((linesP q).map V.str)) := upd_same
    generalize upd H p (.lst ((linesP q).map V.str)) = H1 at e1 mp
    refine ⟨_, rfl, by show 3 ≤ sizeLine; decide, fun t ht => ?_⟩
    have e2 := e1.trans (Ex.new (o := .tup [V.str "never", V.str "maybe", V.str "surely"]) ht)
    have mp2 := Ex.new (o := .tup [V.str "never", V.str "maybe", V.str "surely"]) ht _ _ mp
    have mt : (upd H1 t (.tup [V.str "never", V.str "maybe", V.str "surely"])) t = some (.tup ((["never", "maybe", "surely"] : List Str).map V.str)) := upd_same
    generalize upd H1 t (.tup [V.str "never", V.str "maybe", V.str "surely"]) = H2 at e2 mp2 mt
    have cl : ∀ l ∈ linesP q, Txt.split l " " = ([q.w] : List Str) ∨ Txt.split l " " ∈ wordsP q := fun l hl => by
      rcases List.mem_cons.mp hl with rfl | hl
      · refine .inl ?_
        have z := line_split (ys := [q.w]) (by simp) fun y hy => by rw [List.mem_singleton.mp hy]; exact ww.2
        rwa [join_one] at z
      · obtain ⟨ys, hy, rfl⟩ := List.mem_map.mp hl
        rw [wordP_split ok hy]
        exact .inr hy
    refine ⟨p, t, a.q_PAPER_LINES, linesP q, ["never", "maybe", "surely"], PFORMS, rfl, SqL.of mp2, st_of mt, T.t_PAPER_LINES _, by simp [linesP], fun l hl => by have := (linesP_len ok l hl).1; omega, by omega, fun l hl x hx => ?_, fun l hl => ?_, pforms_ok, fun H3 e3 => ?_⟩
    · rcases cl l hl with c | c
      · rw [c] at hx
        rw [List.mem_singleton.mp hx]
        omega
      · have := ((wordsP_ok ok _ c).2.2 x hx).2
        omega
    · rcases cl l hl with c | c
      · rw [c]
        show 1 ≤ 9001
        decide
      · have := (wordsP_ok ok _ c).2.1
        omega
    rw [paper_ok ok]
    refine ⟨_, rfl, rfl, _, rfl, iteF ?_⟩
    have mp3 := e3 _ _ mp2
    refine ⟨_, rfl, _, rfl, p, _, rfl, SqL.of mp3, fun b hb => ?_⟩
    have ce : cutV ((linesP q).map V.str) (some 1) none = ((wordsP q).map (Txt.join " ")).map V.str := by
      rw [show (1 : Int) = ((1 : Nat) : Int) from rfl, cut_from]
      rfl
    rw [ce]
    have e4 := (e2.trans e3).trans (Ex.new (o := .lst (((wordsP q).map (Txt.join " ")).map V.str)) hb)
    have mp4 := Ex.new (o := .lst (((wordsP q).map (Txt.join " ")).map V.str)) hb _ _ mp3
    have mb : (upd H3 b (.lst (((wordsP q).map (Txt.join " ")).map V.str))) b = some (.lst (((wordsP q).map (Txt.join " ")).map V.str)) := upd_same
    generalize upd H3 b (.lst (((wordsP q).map (Txt.join " ")).map V.str)) = H4 at e4 mb mp4
    have wn := wordsP_num ok
    refine ⟨b, rfl, ⟨_, SqL.of mb⟩, fun D hD => lcY_list (K := K) (a := b) (xs := ((wordsP q).map (Txt.join " ")).map V.str) (fun i H' => Ex H4 H' ∧ ∃ acc, H' D = some (.lst acc) ∧ acc.length = i ∧ DpAll K (del H' D) acc (((wordsP q).take i).map dWs)) ⟨Ex.new hD, [], upd_same, rfl, .nil⟩ (fun i H' _ z => SqL.of (z.1 _ _ mb)) (fun i y H' hy z => ?_) (fun H5 z => ?_)⟩
    · obtain ⟨e, acc, ha, la, da⟩ := z
      have hi : i < (wordsP q).length := by have := (List.getElem?_eq_some_iff.mp hy).1; rwa [List.length_map, List.length_map] at this
      obtain ⟨ys, hys⟩ : ∃ ys, (wordsP q)[i]? = some ys := ⟨_, List.getElem?_eq_getElem hi⟩
      have hm := List.mem_of_getElem? hys
      rw [List.getElem?_map, List.getElem?_map, hys] at hy
      obtain rfl := Option.some.inj hy
      have ll := lineP_len (wordsP_ok ok ys hm)
      refine ⟨rfl, _, rfl, ⟨_, rfl⟩, Txt.join " " ys, " ", rfl, rfl, by decide +kernel, sz_of (by omega), fun u hu => ?_⟩
      rw [wordP_split ok hm]
      have uD : u ≠ D := fun q => by rw [q, ha] at hu; cases hu
      refine ⟨acc, Ex.new hu _ _ ha, sz_lt (by omega), (e.trans (Ex.new hu)).mut hD, _, upd_same, by rw [List.length_append, la] <;> rfl, ?_⟩
      rw [del_upd, take_one hys, List.map_append]
      exact dps_app (dps_ex (ex_del (Ex.new hu)) da) (dps_one (.lst (SqL.of (del_at uD upd_same)) (dps_str _)))
    obtain ⟨e5, acc, ha, la, da⟩ := z
    rw [List.length_map, List.length_map, List.take_length] at da
    have dr := dps_ex del_ex da
    have e05 := e4.trans e5
    have mp5 := e5 _ _ mp4
    have ne : ∀ ys ∈ wordsP q, ys ≠ [] := fun ys h => (wordsP_ok ok ys h).1
    clear da la
    -- labels
    refine ⟨_, rfl, "label", D, acc, wordsP q, rfl, SqL.of ha, dr, ne, by omega, fun l1 G1 c1 f1 n1 m1 d1 => ?_⟩
    rw [only_lab] at d1
    have lc1 := dps_len d1
    rw [List.length_map, List.length_map] at lc1
    have ql := ok.ll
    have qc := ok.lc
    refine ⟨l1, rfl, ⟨_, SqL.of m1⟩, fun B hB => lcY_list (K := K) (a := l1) (xs := c1) (fun i H' => Ex G1 H' ∧ ∃ us, H' B = some (.lst us) ∧ us.length = i ∧ DpAll K (del H' B) us ((q.ls.take i).map dP)) ⟨Ex.new hB, [], upd_same, rfl, .nil⟩ (fun i H' _ z => SqL.of (z.1 _ _ m1)) (fun i y H' hy z => ?_) (fun G2 z => ?_)⟩
    · obtain ⟨e, us, hu, lu, du⟩ := z
      have hi := (List.getElem?_eq_some_iff.mp hy).1
      obtain ⟨ys, hys, _, dp⟩ := pick (dps_ex e d1) hy
      rw [List.getElem?_map] at hys
      obtain ⟨r, hr, rfl⟩ := Option.map_eq_some_iff.mp hys
      obtain ⟨t2, rfl, st⟩ := words_in dp
      obtain ⟨o1, o2⟩ := ok.ls r (List.mem_of_getElem? hr)
      have n1 := num_len o2.1 o2.2
      refine ⟨t2, _, rfl, st, rfl, _, _, rfl, _, _, rfl, rfl, rfl, _, rfl, _, rfl, numS r.2, r.2, rfl, num_int o2.1 o2.2, by omega, by show 2 ≤ sizeLine; decide, fun u hu2 => ?_⟩
      have uB : u ≠ B := fun q => by rw [q, hu] at hu2; cases hu2
      have e6 := Ex.new (o := .tup [.str r.1, .int r.2]) hu2
      refine ⟨us, e6 _ _ hu, sz_lt (by omega), (e.trans e6).mut hB, _, upd_same, by rw [List.length_append, lu] <;> rfl, ?_⟩
      rw [del_upd, take_one hr, List.map_append]
      exact dps_app (dps_ex (ex_del e6) du) (dps_one (.tup (st_of (del_at uB upd_same)) (.cons (.str _) (.cons (.int _) .nil))))
    obtain ⟨f2, us, hu, lu, du⟩ := z
    rw [lc1, List.take_length] at du
    have du2 := dps_ex del_ex du
    have g2 := f1.trans f2
    clear du
    -- chain
    refine ⟨_, rfl, "catch", D, acc, wordsP q, rfl, SqL.of (g2 _ _ ha), dps_ex g2 dr, ne, by omega, fun l2 G3 c2 f3 n3 m3 d3 => ?_⟩
    rw [only_cat] at d3
    have lc2 := dps_len d3
    rw [List.length_map, List.length_map] at lc2
    refine ⟨l2, rfl, ⟨_, SqL.of m3⟩, fun B2 hB2 => lcY_list (K := K) (a := l2) (xs := c2) (fun i H' => Ex G3 H' ∧ ∃ cs, H' B2 = some (.lst cs) ∧ cs.length = i ∧ DpAll K (del H' B2) cs ((q.ch.take i).map dC)) ⟨Ex.new hB2, [], upd_same, rfl, .nil⟩ (fun i H' _ z => SqL.of (z.1 _ _ m3)) (fun i y H' hy z => ?_) (fun G4 z => ?_)⟩
    · obtain ⟨e, cs, hc, lc, dc⟩ := z
      have hi := (List.getElem?_eq_some_iff.mp hy).1
      obtain ⟨ys, hys, _, dp⟩ := pick (dps_ex e d3) hy
      rw [List.getElem?_map] at hys
      obtain ⟨r, hr, rfl⟩ := Option.map_eq_some_iff.mp hys
      obtain ⟨t2, rfl, st⟩ := words_in dp
      obtain ⟨o1, o3, o2⟩ := ok.ch r (List.mem_of_getElem? hr)
      have n1 := num_len o2.1 o2.2
      refine ⟨t2, _, rfl, st, rfl, _, _, rfl, _, _, rfl, _, _, rfl, rfl, rfl, _, rfl, _, rfl, r.2.1, rfl, o3, _, rfl, numS r.2.2, r.2.2, rfl, num_int o2.1 o2.2, by omega, by show 3 ≤ sizeLine; decide, fun u hu2 => ?_⟩
      have uB : u ≠ B2 := fun q => by rw [q, hc] at hu2; cases hu2
      have e6 := Ex.new (o := .tup [.str r.1, vL r.2.1, .int r.2.2]) hu2
      refine ⟨cs, e6 _ _ hc, sz_lt (by omega), (e.trans e6).mut hB2, _, upd_same, by rw [List.length_append, lc] <;> rfl, ?_⟩
      rw [del_upd, take_one hr, List.map_append]
      exact dps_app (dps_ex (ex_del e6) dc) (dps_one (.tup (st_of (del_at uB upd_same)) (.cons (.str _) (.cons (l_dp _) (.cons (.int _) .nil)))))
    obtain ⟨f4, cs, hc, lc, dc⟩ := z
    rw [lc2, List.take_length] at dc
    have dc2 := dps_ex del_ex dc
    clear dc
    have g4 := f3.trans f4
    have g04 := e05.trans (g2.trans g4)
    refine ⟨_, rfl, p, _, _, _, rfl, rfl, SqL.of ((g2.trans g4) _ _ mp5), atI_nat (j := 0) rfl, _, rfl, _, rfl, fun x dx nx ndx nex => ?_⟩
    have y1 : Ex G4 (upd (upd G4 dx (.own x)) x (.ins a.C_Paper dx [])) := (Ex.new ndx).mut nx
    refine ⟨G4, x, dx, B, B2, us, cs, q, rfl, y1, nx, upd_same, SqL.of (g4 _ _ hu), dps_ex g4 du2, SqL.of hc, dc2, by omega, by omega, fun H' l2 c2 eH PA => ⟨rfl, ?_⟩⟩
    exact k H' x dx l2 c2 us cs (g04.trans eH) PA
end
end TX

set_option Elab.async false
set_option linter.all false
set_option maxRecDepth 100000
set_option maxHeartbeats 4000000
namespace TX
open PySem PySem.Spec PyProof.Rows L2 EvS Evl EV StX
theorem sh_link {l : Option Str} (h : ∀ z, l = some z → isName z = true) : Sh 1 (dL l) := by
  cases l with
  | none => exact sh_none
  | some z => exact sh_st (name_strOk (h z rfl))
theorem sh_c {r : Str × Option Str × Int} (h : COk r) : Sh 2 (dC r) := sh_tup (n := 1) fun d hd => by
  have : d = .str r.1 ∨ d = dL r.2.1 ∨ d = .int r.2.2 := by simpa using hd
  rcases this with rfl | rfl | rfl
  · exact sh_st (name_strOk h.1)
  · exact sh_link h.2.1
  · exact sh_int _ 0
theorem shaped_ls {p : PD} (ok : PdOk p) : SeqAt.shaped (.list (p.ls.map dP)) = true := sh_shaped (sh_lst (n := 2) fun x hx => by
  obtain ⟨r, hr, rfl⟩ := List.mem_map.mp hx
  exact sh_p (ok.ls r hr)) (by decide)
theorem shaped_ch {p : PD} (ok : PdOk p) : SeqAt.shaped (.list (p.ch.map dC)) = true := sh_shaped (sh_lst (n := 2) fun x hx => by
  obtain ⟨r, hr, rfl⟩ := List.mem_map.mp hx
  exact sh_c (ok.ch r hr)) (by decide)
def none_p : PD := ⟨"never", [], []⟩
theorem none_pok : PdOk none_p := ⟨by simp [none_p], Nat.zero_le _, Nat.zero_le _, (fun r h => by cases h), (fun r h => by cases h)⟩
theorem none_ptext : ("never" : Str) = textP none_p := by
  unfold textP linesP wordsP none_p
  exact (join_one _ _).symm
theorem shaped_np : SeqAt.shaped (.tuple [.str "never", .list [], .list []]) = true := sh_shaped (n := 3) (sh_tup (n := 2) fun d hd => by
  have : d = .str "never" ∨ d = .list [] ∨ d = .list [] := by simpa using hd
  rcases this with rfl | rfl | rfl
  · exact sh_st (by decide +kernel)
  · exact sh_lst (n := 1) fun x hx => by cases hx
  · exact sh_lst (n := 1) fun x hx => by cases hx) (by decide)
theorem line4 {x y z : Str} : ("catch " : Str) ++ x ++ " " ++ y ++ " " ++ z = Txt.join " " ["catch", x, y, z] := by
  rw [join_two, join_two, join_two, join_one, show ("catch " : Str) = "catch" ++ " " by decide +kernel]
  simp only [Str.append_assoc]
end TX
namespace EV
open PySem PySem.Spec PyProof.Rows L2 EvS Evl StX TX
def spLaw (K : PySem.W.Frag) : Sp := fun vs H Q _ => ∃ (p : Addr) (ns : List Int), vs = [.ref p] ∧ SqL K H p (ns.map V.int) ∧ ∀ H', Q (.bl true) H'
section
variable {P : Program} {w : World} {K : PySem.W.Frag} {mg : Str → Option Value} {base : Heap} {a : Ad}
theorem G_law (T : Txt K mg a) : FnOk P w K mg base CX0 6 a.f_law a.d_law ["script"] (spLaw K) := by
  refine T.F_law.ok sc_law (fun vs H Q E h => ?_) (fun cdv A outer s H vs Q E hr h => ?_)
  · obtain ⟨p, ns, rfl, _⟩ := h
    rfl
  · obtain ⟨p, ns, rfl, hS, k⟩ := h
    refine ⟨_, (pss_cons (ps_set (i := 1) sc_law.nd rfl (Or.inl rfl) (pe_call (G__law_numbers T) (hr.mono (by decide)) (by rfl) T.g__law_numbers T.k__law_numbers T.B__law_numbers .nil pass0 (pa_cons (pv 0) (pa_cons pe_int pa_nil))))
      (pss_cons (ps_set (i := 2) sc_law.nd rfl (Or.inl rfl) (pe_lst (pa_cons pe_str (pa_cons pe_str (pa_cons pe_str (pa_cons pe_str (pa_cons pe_str pa_nil)))))))
      (pss_cons (ps_set (i := 3) sc_law.nd rfl (Or.inl rfl) (pe_ix ix_list (pe_lst (pa_cons pe_str (pa_cons pe_str (pa_cons pe_str pa_nil)))) (pe_op op_mod (pe_callTy call_int1 (by rfl) T.z_int (by decide +kernel) (pa_cons (pe_ix ix_list (pv 1) pe_int (fun _ _ => rfl)) pa_nil)) pe_int) (fun _ _ => rfl)))
      (pss_cons (ps_set (i := 4) sc_law.nd rfl (Or.inl rfl) (pe_lst pa_nil))
      (pss_cons (ps_for PassesOwn.never rfl (pi_range1 (by rfl) T.z_range (pa_cons (pe_op op_mod (pe_callTy call_int1 (by rfl) T.z_int (by decide +kernel) (pa_cons (pe_ix ix_list (pv 1) pe_int (fun _ _ => rfl)) pa_nil)) pe_int) pa_nil)) (pg_name (i := 5) sc_law.nd rfl (Or.inl rfl)) (pss_one (ps_expr (pe_bm PySem.F.plainAttrs_list PySem.F.slot_list_append PySem.F.type_list_append mt_append (pv 4) (pa_cons (pe_tup (pa_cons (pe_ix ix_list (pv 2) (pe_op op_mod (pe_callTy call_int1 (by rfl) T.z_int (by decide +kernel) (pa_cons (pe_ix ix_list (pv 1) (pe_op op_add pe_int (pv 5)) (fun _ _ => rfl)) pa_nil)) pe_int) (fun _ _ => rfl)) (pa_cons (pe_ix ix_list (pe_lst (pa_cons pe_int (pa_cons pe_int (pa_cons (pe_callTy call_int1 (by rfl) T.z_int (by decide +kernel) (pa_cons (pe_ix ix_list (pv 1) (pe_op op_add pe_int (pv 5)) (fun _ _ => rfl)) pa_nil)) pa_nil)))) (pe_op op_mod (pe_callTy call_int1 (by rfl) T.z_int (by decide +kernel) (pa_cons (pe_ix ix_list (pv 1) (pe_op op_add pe_int (pv 5)) (fun _ _ => rfl)) pa_nil)) pe_int) (fun _ _ => rfl)) pa_nil))) pa_nil)))))
      (pss_cons (ps_set (i := 6) sc_law.nd rfl (Or.inl rfl) (pe_lst pa_nil))
      (pss_cons (ps_for PassesOwn.never rfl (pi_range1 (by rfl) T.z_range (pa_cons (pe_op op_mod (pe_callTy call_int1 (by rfl) T.z_int (by decide +kernel) (pa_cons (pe_ix ix_list (pv 1) pe_int (fun _ _ => rfl)) pa_nil)) pe_int) pa_nil)) (pg_name (i := 5) sc_law.nd rfl (Or.inl rfl)) (pss_cons (ps_set (i := 7) sc_law.nd rfl (Or.inl rfl) (pe_ix ix_list (pe_lst (pa_cons pe_non (pa_cons pe_str (pa_cons pe_str (pa_cons pe_str pa_nil))))) (pe_op op_mod (pe_callTy call_int1 (by rfl) T.z_int (by decide +kernel) (pa_cons (pe_ix ix_list (pv 1) (pe_op op_add pe_int (pv 5)) (fun _ _ => rfl)) pa_nil)) pe_int) (fun _ _ => rfl)))
        (pss_one (ps_expr (pe_bm PySem.F.plainAttrs_list PySem.F.slot_list_append PySem.F.type_list_append mt_append (pv 6) (pa_cons (pe_tup (pa_cons (pe_ix ix_list (pv 2) (pe_op op_mod (pe_callTy call_int1 (by rfl) T.z_int (by decide +kernel) (pa_cons (pe_ix ix_list (pv 1) (pe_op op_add pe_int (pv 5)) (fun _ _ => rfl)) pa_nil)) pe_int) (fun _ _ => rfl)) (pa_cons (pv 7) (pa_cons (pe_ix ix_list (pe_lst (pa_cons pe_int (pa_cons pe_int (pa_cons (pe_callTy call_int1 (by rfl) T.z_int (by decide +kernel) (pa_cons (pe_ix ix_list (pv 1) (pe_op op_add pe_int (pv 5)) (fun _ _ => rfl)) pa_nil)) pa_nil)))) (pe_op op_mod (pe_callTy call_int1 (by rfl) T.z_int (by decide +kernel) (pa_cons (pe_ix ix_list (pv 1) (pe_op op_add pe_int (pv 5)) (fun _ _ => rfl)) pa_nil)) pe_int) (fun _ _ => rfl)) pa_nil)))) pa_nil))))))
      (pss_cons (ps_set (i := 8) sc_law.nd rfl (Or.inl rfl) (pe_op op_cat (pe_lst (pa_cons (pv 3) pa_nil)) (pe_lc (own := [("row", 17)]) (g := gName 17) (tt := tYes) rfl sc_law.nd (pi_list (pv 4)) (blkOk_by (N := ["script", "numbers", "names", "word", "labels", "k", "chain", "link", "lines", "place", "minute", "middle", "text", "told", "actual", "read", "small", "row"]) (sc := defScope s_law) (by decide +kernel)) (fun _ _ _ _ _ => pg_name (i := 17) sc_law.nd rfl (Or.inl rfl)) (fun _ _ _ _ _ => pts_nil) (fun _ _ _ _ _ => (pe_op op_add_str (pe_op op_add_str (pe_op op_add_str pe_str (pe_ix (show IxR _ (rIxT K) from ix_tup) (pv 17) pe_int (fun _ _ => rfl))) pe_str) (pe_callTy call_str_int (by rfl) T.z_str (by decide +kernel) (pa_cons (pe_ix (show IxR _ (rIxT K) from ix_tup) (pv 17) pe_int (fun _ _ => rfl)) pa_nil)))))))
      (pss_cons (ps_for PassesOwn.never rfl (pi_list (pv 6)) (pg_tup (by rfl) (pgs_cons (pg_name (i := 9) sc_law.nd rfl (Or.inl rfl)) (pgs_cons (pg_name (i := 7) sc_law.nd rfl (Or.inl rfl)) (pgs_cons (pg_name (i := 10) sc_law.nd rfl (Or.inl rfl)) pgs_nil)))) (pss_cons (ps_set (i := 11) sc_law.nd rfl (Or.inl rfl) (pv 7))
        (pss_cons (ps_if (pt_cmpR op_isN (pv 7) pe_non (nomark _)) (pss_one (ps_set (i := 11) sc_law.nd rfl (Or.inl rfl) pe_str)) pss_nil)
        (pss_one (ps_expr (pe_bm PySem.F.plainAttrs_list PySem.F.slot_list_append PySem.F.type_list_append mt_append (pv 8) (pa_cons (pe_op op_add_str (pe_op op_add_str (pe_op op_add_str (pe_op op_add_str (pe_op op_add_str pe_str (pv 9)) pe_str) (pv 11)) pe_str) (pe_callTy call_str_int (by rfl) T.z_str (by decide +kernel) (pa_cons (pv 10) pa_nil))) pa_nil)))))))
      (pss_cons (ps_set (i := 12) sc_law.nd rfl (Or.inl rfl) (pe_join pe_str (pv 8)))
      (pss_cons (ps_set (i := 13) sc_law.nd rfl (Or.inl rfl) (pe_make T.mk_Paper (G_Paper_init T) (hr.mono (by decide)) (by rfl) T.g_Paper T.B_Paper_init .nil pass0 (pa_cons (pv 3) (pa_cons (pv 4) (pa_cons (pv 6) pa_nil)))))
      (pss_cons (ps_set (i := 14) sc_law.nd rfl (Or.inl rfl) (pe_call (G_paper_text T) (hr.mono (by decide)) (by rfl) T.g_paper_text T.k_paper_text T.B_paper_text .nil pass0 (pa_cons (pv 13) pa_nil)))
      (pss_cons (ps_if (PW.pt (pw_or (pt_not (pt_val (pe_callB call_isi (by rfl) T.z_isinstance (by decide +kernel) (pa_cons (pv 14) (pa_cons (pe_bltn (v := .ty "str") (u := .type "str") (by rfl) T.z_str (by decide +kernel) rfl) pa_nil))))) (pw_or (pt_cmpR op_ne (pv 14) (pv 12) (nomark _)) (pw_or (pt_cmpR (op_neD hr.units) (pe_fld (pv 13) rfl) (pv 4) (nomark _)) (pw_or1 (pt_cmpR (op_neD hr.units) (pe_fld (pv 13) rfl) (pv 6) (nomark _))))))) (pss_one (ps_ret pe_bl)) pss_nil)
      (pss_cons (ps_set (i := 15) sc_law.nd rfl (Or.inl rfl) (pe_call (G_parse_paper T) (hr.mono (by decide)) (by rfl) T.g_parse_paper T.k_parse_paper T.B_parse_paper .nil pass0 (pa_cons (pv 12) pa_nil)))
      (pss_cons (ps_if (PW.pt (pw_or (pt_not (pt_val (pe_callB call_isi (by rfl) T.z_isinstance (by decide +kernel) (pa_cons (pv 15) (pa_cons (pe_glob (v := .ref a.C_Paper) (by rfl) T.g_Paper rfl) pa_nil))))) (pw_or (pt_cmpR op_ne (pe_fld (pv 15) rfl) (pv 3) (nomark _)) (pw_or (pt_cmpR (op_neD hr.units) (pe_fld (pv 15) rfl) (pv 4) (nomark _)) (pw_or1 (pt_cmpR (op_neD hr.units) (pe_fld (pv 15) rfl) (pv 6) (nomark _))))))) (pss_one (ps_ret pe_bl)) pss_nil)
      (pss_cons (ps_set (i := 16) sc_law.nd rfl (Or.inl rfl) (pe_call (G_parse_paper T) (hr.mono (by decide)) (by rfl) T.g_parse_paper T.k_parse_paper T.B_parse_paper .nil pass0 (pa_cons pe_str pa_nil)))
      (pss_one (ps_ret (pe_and (pe_cmpR op_eq (pe_call (G_paper_text T) (hr.mono (by decide)) (by rfl) T.g_paper_text T.k_paper_text T.B_paper_text .nil pass0 (pa_cons (pv 15) pa_nil)) (pv 12) (nomark _)) (pe_one (pe_cmpR (op_eqD hr.units) (pe_tup (pa_cons (pe_fld (pv 16) rfl) (pa_cons (pe_fld (pv 16) rfl) (pa_cons (pe_fld (pv 16) rfl) pa_nil)))) (pe_tup (pa_cons pe_str (pa_cons (pe_lst pa_nil) (pa_cons (pe_lst pa_nil) pa_nil)))) (nomark _)))))))))))))))))))))), ?_⟩
    refine ⟨_, rfl, p, ns, 40, rfl, hS, by decide, by decide, fun H1 l ks e1 hl hL hlen hs => ?_⟩
    have N : Nm K H1 l ks := ⟨SqL.of hL, hs⟩
    obtain ⟨n0, _, _, g0⟩ := N.get (i := 0) (by decide) (by omega)
    obtain ⟨n1, _, _, g1⟩ := N.get (i := 1) (by decide) (by omega)
    obtain ⟨n2, _, _, g2⟩ := N.get (i := 2) (by decide) (by omega)
    have md : ∀ (n m : Int), 0 < m → 0 ≤ n % m ∧ n % m < m := fun n m h => ⟨Int.emod_nonneg _ (by omega), Int.emod_lt_of_pos _ h⟩
    have m1 := md n1 6 (by decide)
    have m2 := md n2 6 (by decide)
    -- names
    refine ⟨by show 5 ≤ sizeLine; decide, fun n hn => ?_⟩
    have x1 := Ex.new (o := .lst [V.str "a", V.str "z9", V.str "abcdefghijkl", V.str "label", V.str "catch"]) hn
    have mn : (upd H1 n (.lst [V.str "a", V.str "z9", V.str "abcdefghijkl", V.str "label", V.str "catch"])) n = some (.lst ((["a", "z9", "abcdefghijkl", "label", "catch"] : List Str).map V.str)) := upd_same
    generalize upd H1 n (.lst [V.str "a", V.str "z9", V.str "abcdefghijkl", V.str "label", V.str "catch"]) = H2 at x1 mn
    have N2 := N.ex x1
    -- word
    refine ⟨by show 3 ≤ sizeLine; decide, fun u hu => ?_⟩
    have x2 := Ex.new (o := .lst [V.str "never", V.str "maybe", V.str "surely"]) hu
    have N3 := N2.ex x2
    obtain ⟨wv, hwv, _, wm⟩ := at_in (xs := (["never", "maybe", "surely"] : List Str).map V.str) (i := n0 % 3) (md n0 3 (by decide)).1 (md n0 3 (by decide)).2
    obtain ⟨wd, hwd, rfl⟩ := List.mem_map.mp wm
    refine ⟨_, rfl, l, _, _, _, rfl, rfl, N3.at_, g0, .inl ⟨_, rfl, _, _, rfl, rfl, (by show (0 : Int) < 3; decide), u, _, _, _, rfl, rfl, SqL.of upd_same, hwv, ?_⟩⟩
    have mn3 := x2 _ _ mn
    generalize upd H2 u (.lst [V.str "never", V.str "maybe", V.str "surely"]) = H3 at x2 N3 mn3
    -- labels
    have name_at : ∀ {H' : Hp}, H' n = some (.lst ((["a", "z9", "abcdefghijkl", "label", "catch"] : List Str).map V.str)) → ∀ y : Int, ∃ z : Str, atI ((["a", "z9", "abcdefghijkl", "label", "catch"] : List Str).map V.str) (y % 5) = some (.str z) ∧ isName z = true := fun {H'} _ y => by
      obtain ⟨nv, hnv, _, nm⟩ := at_in (xs := (["a", "z9", "abcdefghijkl", "label", "catch"] : List Str).map V.str) (i := y % 5) (md y 5 (by decide)).1 (md y 5 (by decide)).2
      obtain ⟨z, hz, rfl⟩ := List.mem_map.mp nm
      have : ∀ z ∈ (["a", "z9", "abcdefghijkl", "label", "catch"] : List Str), isName z = true := by decide +kernel
      exact ⟨z, hnv, this z hz⟩
    have min_at : ∀ x : Int, 0 ≤ x → x < 1009 → ∃ mi, atI [V.int 0, .int 999999, .int x] (x % 3) = some (V.int mi) ∧ MinOk mi := fun x h0 h1 => by
      obtain ⟨mv, hmv, _, mm⟩ := at_in (xs := [V.int 0, .int 999999, .int x]) (i := x % 3) (md x 3 (by decide)).1 (md x 3 (by decide)).2
      have : mv = V.int 0 ∨ mv = V.int 999999 ∨ mv = V.int x := by simpa using mm
      rcases this with rfl | rfl | rfl
      · exact ⟨0, hmv, by decide, by decide⟩
      · exact ⟨999999, hmv, by decide, by decide⟩
      · exact ⟨x, hmv, h0, by omega⟩
    refine ⟨Nat.zero_le _, fun D hD => ?_⟩
    have x3 := Ex.new (o := .lst []) hD
    have nD : n ≠ D := ne_of_none mn3 hD
    refine ⟨_, rfl, l, _, _, _, rfl, rfl, (N3.ex x3).at_, g1, .inl ⟨_, rfl, _, _, rfl, rfl, (by show (0 : Int) < 6; decide), _, rfl, by omega, by omega, ?_⟩⟩
    refine for_range (n := (n1 % 6).toNat) (fun i σ H' => ∃ (acc : List V) (rs : List (Str × Int)) (v5 : Option V), σ = [some (.ref p), some (.ref l), some (.ref n), some (.str wd), some (.ref D), v5, none, none, none, none, none, none, none, none, none, none, none, none] ∧ Ex H3 H' ∧ H' D = some (.lst acc) ∧ DpAll K (del H' D) acc (rs.map dP) ∧ (∀ r ∈ rs, POk r) ∧ rs.length = i) ?_ ?_ ?_
    · exact ⟨[], [], none, rfl, x3, upd_same, .nil, (fun r hr => by cases hr), rfl⟩
    · rintro i σ H' hi ⟨acc, rs, v5, rfl, e, hD', da, hp, hl⟩
      have N' := N3.ex e
      have hn' := e _ _ mn3
      obtain ⟨x, x0, x1', ax⟩ := N'.get (i := 9 + (0 + (i : Int))) (by omega) (by omega)
      obtain ⟨y, y0, y1, ay⟩ := N'.get (i := 3 + (0 + (i : Int))) (by omega) (by omega)
      have la : acc.length = i := by rw [dps_len da, List.length_map, hl]
      obtain ⟨z, hz, zok⟩ := name_at hn' y
      obtain ⟨mi, hmi, mok⟩ := min_at x x0 x1'
      refine ⟨_, rfl, .inl ⟨rfl, _, SqL.of hD'⟩, _, rfl, _, rfl, _, rfl, _, _, rfl, rfl, l, _, _, _, rfl, rfl, N'.at_, ay, .inl ⟨_, rfl, _, _, rfl, rfl, (by show (0 : Int) < 5; decide), n, _, _, _, rfl, rfl, SqL.of hn', hz, ?_⟩⟩
      refine ⟨_, rfl, _, rfl, _, _, rfl, rfl, l, _, _, _, rfl, rfl, N'.at_, ax, .inl ⟨_, rfl, by show 3 ≤ sizeLine; decide, fun u hu => ?_⟩⟩
      have e3 := Ex.new (o := .lst [.int 0, .int 999999, .int x]) hu
      refine ⟨_, rfl, _, rfl, _, _, rfl, rfl, l, _, _, _, rfl, rfl, (N'.ex e3).at_, ax, .inl ⟨_, rfl, _, _, rfl, rfl, (by show (0 : Int) < 3; decide), u, _, _, _, rfl, rfl, SqL.of upd_same, hmi, by show 2 ≤ sizeLine; decide, fun t ht => ?_⟩⟩
      have hD3 := e3 _ _ hD'
      have tD : t ≠ D := fun q => by rw [q, hD3] at ht; cases ht
      have e4 := Ex.new (o := .tup [.str z, .int mi]) ht
      refine ⟨D, acc, _, rfl, rfl, e4 _ _ hD3, sz_lt (by omega), ?_⟩
      refine ⟨_, rs ++ [(z, mi)], _, rfl, ((e.trans e3).trans e4).mut hD, upd_same, ?_, ?_, by rw [List.length_append, hl] <;> rfl⟩
      · rw [del_upd, List.map_append]
        exact dps_app (dps_ex (ex_del (e3.trans e4)) da) (dps_one (.tup (st_of (del_at tD upd_same)) (.cons (.str _) (.cons (.int _) .nil))))
      · intro r hr
        rcases List.mem_append.mp hr with q | q
        · exact hp r q
        · rw [List.mem_singleton.mp q]
          exact ⟨zok, mok⟩
    rintro σ H4 ⟨us, rs, v5, rfl, e34, mD4, du, hp, hrl⟩
    have du4 := dps_ex del_ex du
    clear du
    have N4 := N3.ex e34
    have mn4 := e34 _ _ mn3
    -- chain
    refine ⟨Nat.zero_le _, fun C hC => ?_⟩
    have x4 := Ex.new (o := .lst []) hC
    refine ⟨_, rfl, l, _, _, _, rfl, rfl, (N4.ex x4).at_, g2, .inl ⟨_, rfl, _, _, rfl, rfl, (by show (0 : Int) < 6; decide), _, rfl, by omega, by omega, ?_⟩⟩
    refine for_range (n := (n2 % 6).toNat) (fun i σ H' => ∃ (acc : List V) (cs : List (Str × Option Str × Int)) (v5 v7 : Option V), σ = [some (.ref p), some (.ref l), some (.ref n), some (.str wd), some (.ref D), v5, some (.ref C), v7, none, none, none, none, none, none, none, none, none, none] ∧ Ex H4 H' ∧ H' C = some (.lst acc) ∧ DpAll K (del H' C) acc (cs.map dC) ∧ (∀ r ∈ cs, COk r) ∧ cs.length = i) ?_ ?_ ?_
    · exact ⟨[], [], v5, none, rfl, x4, upd_same, .nil, (fun r hr => by cases hr), rfl⟩
    · rintro i σ H' hi ⟨acc, cs, v5', v7, rfl, e, hC', da, hpc, hl⟩
      have N' := N4.ex e
      have hn' := e _ _ mn4
      obtain ⟨q, q0, q1, aq⟩ := N'.get (i := 15 + (0 + (i : Int))) (by omega) (by omega)
      obtain ⟨x, x0, x1', ax⟩ := N'.get (i := 27 + (0 + (i : Int))) (by omega) (by omega)
      obtain ⟨y, y0, y1, ay⟩ := N'.get (i := 21 + (0 + (i : Int))) (by omega) (by omega)
      have la : acc.length = i := by rw [dps_len da, List.length_map, hl]
      obtain ⟨z, hz, zok⟩ := name_at hn' y
      obtain ⟨mi, hmi, mok⟩ := min_at x x0 x1'
      refine ⟨by show 4 ≤ sizeLine; decide, fun b hb => ?_⟩
      have e2 := Ex.new (o := .lst [.non, .str "l", .str "z9", .str "abcdefghijkl"]) hb
      obtain ⟨lk, hlk, lkok⟩ : ∃ lk : Option Str, atI [V.non, .str "l", .str "z9", .str "abcdefghijkl"] (q % 4) = some (vL lk) ∧ ∀ z, lk = some z → isName z = true := by
        obtain ⟨mv, hmv, _, mm⟩ := at_in (xs := [V.non, .str "l", .str "z9", .str "abcdefghijkl"]) (i := q % 4) (md q 4 (by decide)).1 (md q 4 (by decide)).2
        have : mv = V.non ∨ mv = V.str "l" ∨ mv = V.str "z9" ∨ mv = V.str "abcdefghijkl" := by simpa using mm
        rcases this with rfl | rfl | rfl | rfl
        · exact ⟨none, hmv, fun z h => by cases h⟩
        · exact ⟨some "l", hmv, fun z h => by cases h; decide +kernel⟩
        · exact ⟨some "z9", hmv, fun z h => by cases h; decide +kernel⟩
        · exact ⟨some "abcdefghijkl", hmv, fun z h => by cases h; decide +kernel⟩
      refine ⟨_, rfl, _, rfl, _, _, rfl, rfl, l, _, _, _, rfl, rfl, (N'.ex e2).at_, aq, .inl ⟨_, rfl, _, _, rfl, rfl, (by show (0 : Int) < 4; decide), b, _, _, _, rfl, rfl, SqL.of upd_same, hlk, ?_⟩⟩
      have hC2 := e2 _ _ hC'
      have hn2 := e2 _ _ hn'
      have N2' := N'.ex e2
      generalize upd H' b (.lst [.non, .str "l", .str "z9", .str "abcdefghijkl"]) = H5 at e2 hC2 hn2 N2'
      refine ⟨_, rfl, .inl ⟨rfl, _, SqL.of hC2⟩, _, rfl, _, rfl, _, rfl, _, _, rfl, rfl, l, _, _, _, rfl, rfl, N2'.at_, ay, .inl ⟨_, rfl, _, _, rfl, rfl, (by show (0 : Int) < 5; decide), n, _, _, _, rfl, rfl, SqL.of hn2, hz, _, rfl, ?_⟩⟩
      refine ⟨_, rfl, _, rfl, _, _, rfl, rfl, l, _, _, _, rfl, rfl, N2'.at_, ax, .inl ⟨_, rfl, by show 3 ≤ sizeLine; decide, fun u hu => ?_⟩⟩
      have e3 := Ex.new (o := .lst [.int 0, .int 999999, .int x]) hu
      refine ⟨_, rfl, _, rfl, _, _, rfl, rfl, l, _, _, _, rfl, rfl, (N2'.ex e3).at_, ax, .inl ⟨_, rfl, _, _, rfl, rfl, (by show (0 : Int) < 3; decide), u, _, _, _, rfl, rfl, SqL.of upd_same, hmi, by show 3 ≤ sizeLine; decide, fun t ht => ?_⟩⟩
      have hC3 := e3 _ _ hC2
      have tC : t ≠ C := fun q => by rw [q, hC3] at ht; cases ht
      have e4 := Ex.new (o := .tup [.str z, vL lk, .int mi]) ht
      refine ⟨C, acc, _, rfl, rfl, e4 _ _ hC3, sz_lt (by omega), ?_⟩
      refine ⟨_, cs ++ [(z, lk, mi)], _, _, rfl, (((e.trans e2).trans e3).trans e4).mut hC, upd_same, ?_, ?_, by rw [List.length_append, hl] <;> rfl⟩
      · rw [del_upd, List.map_append]
        exact dps_app (dps_ex (ex_del ((e2.trans e3).trans e4)) da) (dps_one (.tup (st_of (del_at tC upd_same)) (.cons (.str _) (.cons (l_dp _) (.cons (.int _) .nil)))))
      · intro r hr
        rcases List.mem_append.mp hr with q | q
        · exact hpc r q
        · rw [List.mem_singleton.mp q]
          exact ⟨zok, lkok, mok⟩
    rintro σ H5 ⟨cs, rc, v5', v7, rfl, e45, mC5, dc, hpc, hcl⟩
    have dc5 := dps_ex del_ex dc
    have mD5 := e45 _ _ mD4
    have du5 := dps_ex e45 du4
    clear dc
    obtain ⟨q, rfl, rfl, rfl⟩ : ∃ q : PD, q.w = wd ∧ q.ls = rs ∧ q.ch = rc := ⟨⟨wd, rs, rc⟩, rfl, rfl, rfl⟩
    have ok : PdOk q := ⟨hwd, by omega, by omega, hp, hpc⟩
    have ww := word_w ok
    have lu := dps_len du5
    have lc := dps_len dc5
    rw [List.length_map] at lu lc
    -- lines
    refine ⟨_, rfl, by show 1 ≤ sizeLine; decide, fun a1 ha1 => ?_⟩
    have y1 := Ex.new (o := .lst [V.str q.w]) ha1
    have ma1 : (upd H5 a1 (.lst [V.str q.w])) a1 = some (.lst (([q.w] : List Str).map V.str)) := upd_same
    generalize upd H5 a1 (.lst [V.str q.w]) = H6 at y1 ma1
    refine ⟨_, rfl, D, rfl, ⟨_, SqL.of (y1 _ _ mD5)⟩, fun B hB => lcY_list (K := K) (a := D) (xs := us) (fun i H' => Ex H6 H' ∧ H' B = some (.lst ((((q.ls.take i).map (pW "label")).map (Txt.join " ")).map V.str))) ⟨Ex.new hB, by rw [upd_same] <;> rfl⟩ (fun i H' _ z => SqL.of (z.1 _ _ (y1 _ _ mD5))) (fun i y H' hy z => ?_) (fun H7 z => ?_)⟩
    · have hi := (List.getElem?_eq_some_iff.mp hy).1
      obtain ⟨r, hr, hm, dp⟩ := pick (dps_ex (y1.trans z.1) du5) hy
      obtain ⟨t, rfl, st⟩ := row_p dp
      obtain ⟨o2, o1⟩ := ok.ls r hm
      have b1 := num_len o1.1 o1.2
      have b2 := name_len o2
      refine ⟨rfl, _, rfl, t, _, _, _, rfl, rfl, st, atI_nat (j := 0) rfl, _, r.1, rfl, rfl, sz_of (by rw [len_l]; omega), _, _, rfl, rfl, sz_of (by rw [Str.length_append, len_l, len_sp]; omega), _, rfl, t, _, _, _, rfl, rfl, st, atI_nat (j := 1) rfl, r.2, rfl, log_ok o1.1 o1.2, _, numS r.2, rfl, rfl, sz_of (by rw [Str.length_append, Str.length_append, len_l, len_sp]; omega), ?_⟩
      refine ⟨_, z.2, sz_lt (by simp only [List.length_map, List.length_take]; omega), z.1.mut hB, ?_⟩
      rw [upd_same, take_one hr, line3 cut_l, List.map_append, List.map_append, List.map_append]
      rfl
    rw [lu, List.take_length] at z
    obtain ⟨y2, mB⟩ := z
    refine ⟨a1, B, _, _, rfl, rfl, y2 _ _ ma1, mB, sz_of (by simp only [List.length_map, List.length_cons, List.length_nil]; omega), fun L hL2 => ?_⟩
    rw [← List.map_append]
    have y3 := (y1.trans y2).trans (Ex.new (o := .lst (([q.w] ++ (q.ls.map (pW "label")).map (Txt.join " ")).map V.str)) hL2)
    have mL : (upd H7 L (.lst (([q.w] ++ (q.ls.map (pW "label")).map (Txt.join " ")).map V.str))) L = some (.lst (([q.w] ++ (q.ls.map (pW "label")).map (Txt.join " ")).map V.str)) := upd_same
    have hL7 := fresh_back (y1.trans y2) hL2
    generalize upd H7 L (.lst (([q.w] ++ (q.ls.map (pW "label")).map (Txt.join " ")).map V.str)) = H8 at y3 mL
    refine ⟨_, rfl, C, rfl, ⟨_, SqL.of (y3 _ _ mC5)⟩, for_list (K := K) (a := C) (xs := cs) (fun i σ H' => ∃ (v5 v7 v9 v10 v11 : Option V), σ = [some (.ref p), some (.ref l), some (.ref n), some (.str q.w), some (.ref D), v5, some (.ref C), v7, some (.ref L), v9, v10, v11, none, none, none, none, none, none] ∧ Ex H5 H' ∧ H' L = some (.lst (([q.w] ++ (q.ls.map (pW "label")).map (Txt.join " ") ++ ((q.ch.take i).map cW).map (Txt.join " ")).map V.str))) ?_ ?_ ?_ ?_⟩
    · refine ⟨_, _, none, none, none, rfl, y3, ?_⟩
      rw [mL, List.take_zero, List.map_nil, List.map_nil, List.append_nil]
    · rintro i σ H' _ ⟨v5, v7, v9, v10, v11, rfl, e, _⟩
      exact SqL.of (e _ _ mC5)
    · rintro i y σ H' hy ⟨v5, v7, v9, v10, v11, rfl, e, mL'⟩
      have hi := (List.getElem?_eq_some_iff.mp hy).1
      obtain ⟨r, hr, hm, dp⟩ := pick (dps_ex e dc5) hy
      obtain ⟨t, rfl, st⟩ := row_c dp
      obtain ⟨o2, o3, o1⟩ := ok.ch r hm
      have b1 := num_len o1.1 o1.2
      have b2 := name_len o2
      have b3 := (link_ok o3).2
      have tk : ([q.w] ++ (q.ls.map (pW "label")).map (Txt.join " ") ++ ((q.ch.take (i + 1)).map cW).map (Txt.join " ")).map V.str = ([q.w] ++ (q.ls.map (pW "label")).map (Txt.join " ") ++ ((q.ch.take i).map cW).map (Txt.join " ")).map V.str ++ [V.str ("catch " ++ r.1 ++ " " ++ wL r.2.1 ++ " " ++ numS r.2.2)] := by
        rw [take_one hr, line4, List.map_append (l₁ := q.ch.take i), List.map_append (f := Txt.join " ") (l₁ := (q.ch.take i).map cW), ← List.append_assoc, List.map_append]
        rfl
      refine ⟨t, _, rfl, st, rfl, _, _, rfl, _, _, rfl, _, _, rfl, rfl, _, rfl, _, rfl, rfl, _, rfl, ?_⟩
      have ln : ([q.w] ++ (q.ls.map (pW "label")).map (Txt.join " ") ++ ((q.ch.take i).map cW).map (Txt.join " ")).length ≤ 30 := by
        have := ok.ll
        have := ok.lc
        simp only [List.length_append, List.length_map, List.length_take, List.length_cons, List.length_nil]
        omega
      cases hl : r.2.1 with
      | none =>
        rw [hl] at tk b3
        have b3 : ("-" : Str).length ≤ 12 := b3.2
        refine iteT ?_
        refine ⟨_, rfl, .inl ⟨rfl, _, SqL.of mL'⟩, _, rfl, _, r.1, rfl, rfl, sz_of (by rw [len_c]; omega), _, _, rfl, rfl, sz_of (by rw [Str.length_append, len_c, len_sp]; omega), _, rfl, _, ("-" : Str), rfl, rfl, sz_of (by rw [Str.length_append, Str.length_append, len_c, len_sp]; omega), _, _, rfl, rfl, sz_of (by rw [Str.length_append, Str.length_append, Str.length_append, len_c, len_sp]; omega), _, rfl, r.2.2, rfl, log_ok o1.1 o1.2, _, numS r.2.2, rfl, rfl, sz_of (by rw [Str.length_append, Str.length_append, Str.length_append, Str.length_append, len_c, len_sp]; omega), L, _, _, rfl, rfl, mL', sz_lt (by rw [List.length_map]; omega), _, _, _, _, _, rfl, e.mut hL7, ?_⟩
        rw [upd_same, tk]
        rfl
      | some z =>
        rw [hl] at tk b3
        have b3 : z.length ≤ 12 := b3.2
        refine iteF ?_
        refine ⟨_, rfl, .inl ⟨rfl, _, SqL.of mL'⟩, _, rfl, _, r.1, rfl, rfl, sz_of (by rw [len_c]; omega), _, _, rfl, rfl, sz_of (by rw [Str.length_append, len_c, len_sp]; omega), _, rfl, _, z, rfl, rfl, sz_of (by rw [Str.length_append, Str.length_append, len_c, len_sp]; omega), _, _, rfl, rfl, sz_of (by rw [Str.length_append, Str.length_append, Str.length_append, len_c, len_sp]; omega), _, rfl, r.2.2, rfl, log_ok o1.1 o1.2, _, numS r.2.2, rfl, rfl, sz_of (by rw [Str.length_append, Str.length_append, Str.length_append, Str.length_append, len_c, len_sp]; omega), L, _, _, rfl, rfl, mL', sz_lt (by rw [List.length_map]; omega), _, _, _, _, _, rfl, e.mut hL7, ?_⟩
        rw [upd_same, tk]
        rfl
    rintro σ H9 ⟨w5, w7, w9, w10, w11, rfl, e59, mL9⟩
    rw [lc, List.take_length] at mL9
    have el : ([q.w] ++ (q.ls.map (pW "label")).map (Txt.join " ")) ++ (q.ch.map cW).map (Txt.join " ") = linesP q := by
      unfold linesP wordsP
      rw [List.map_append]
      rfl
    rw [el] at mL9
    have mD9 := e59 _ _ mD5
    have mC9 := e59 _ _ mC5
    have du9 := dps_ex e59 du5
    have dc9 := dps_ex e59 dc5
    -- text
    refine ⟨⟨_, rfl⟩, _, rfl, "\n", L, linesP q, rfl, rfl, .inl (SqL.of mL9), join_fits (n := 21) (fun y hy => (linesP_len ok y hy).1) (linesP_num ok) len_nl (by decide), ?_⟩
    -- told
    refine ⟨_, rfl, _, rfl, _, rfl, fun x dx nx ndx nex => ?_⟩
    have z1 : Ex H9 (upd (upd H9 dx (.own x)) x (.ins a.C_Paper dx [])) := (Ex.new ndx).mut nx
    refine ⟨H9, x, dx, D, C, us, cs, q, rfl, z1, nx, upd_same, SqL.of mD9, du9, SqL.of mC9, dc9, by have := ok.ll; omega, by have := ok.lc; omega, fun H10 l2 c2 e10 PA => ⟨rfl, ?_⟩⟩
    refine ⟨_, rfl, x, dx, l2, c2, us, cs, q, rfl, PA, ok, fun H11 e11 => ?_⟩
    have PA11 := PA.ex e11
    have e911 := e10.trans e11
    refine ⟨_, rfl, _, _, _, _, _, rfl, .ty "str", .base (.str _), kit_ty (by decide +kernel), _, rfl, iteNT ?_⟩
    refine ⟨_, rfl, _, rfl, rfl, _, rfl, ?_⟩
    rw [show decide (V.str (textP q) = V.str (Txt.join "\n" (linesP q))) = true from decide_eq_true rfl]
    refine iteNT ?_
    have sl := shaped_ls ok
    have sc := shaped_ch ok
    refine ⟨_, rfl, x, a.C_Paper, dx, _, _, rfl, PA11.ob, T.cl_Paper, T.na_Paper_labels, fs_labels .., _, rfl, _, _, .lst (SqL.of PA11.la) PA11.du, .lst (SqL.of (e911 _ _ mD9)) (dps_ex e911 du9), sl, sl, ?_⟩
    rw [eqv_self sl]
    refine ⟨_, rfl, iteNT ?_⟩
    refine ⟨_, rfl, x, a.C_Paper, dx, _, _, rfl, PA11.ob, T.cl_Paper, T.na_Paper_chain, fs_chain .., _, rfl, _, _, .lst (SqL.of PA11.ca) PA11.dc, .lst (SqL.of (e911 _ _ mC9)) (dps_ex e911 dc9), sc, sc, ?_⟩
    rw [eqv_self sc]
    refine ⟨_, rfl, iteF ?_⟩
    -- read
    refine ⟨_, rfl, q, rfl, ok, fun H12 y dy l3 c3 us3 cs3 e12 PB => ?_⟩
    have e912 := e911.trans e12
    refine ⟨_, rfl, .ref y, .ref a.C_Paper, _, _, true, rfl, .own _, .base (.ins PB.ob T.cl_Paper T.ha_C_Paper T.hn_C_Paper T.ht_C_Paper T.hm_C_Paper), T.ki_C_Paper, _, rfl, iteNT ?_⟩
    refine ⟨_, rfl, y, a.C_Paper, dy, _, _, rfl, PB.ob, T.cl_Paper, T.na_Paper_word, fs_word .., _, rfl, rfl, _, rfl, ?_⟩
    rw [show decide (V.str q.w = V.str q.w) = true from decide_eq_true rfl]
    refine iteNT ?_
    refine ⟨_, rfl, y, a.C_Paper, dy, _, _, rfl, PB.ob, T.cl_Paper, T.na_Paper_labels, fs_labels .., _, rfl, _, _, .lst (SqL.of PB.la) PB.du, .lst (SqL.of (e912 _ _ mD9)) (dps_ex e912 du9), sl, sl, ?_⟩
    rw [eqv_self sl]
    refine ⟨_, rfl, iteNT ?_⟩
    refine ⟨_, rfl, y, a.C_Paper, dy, _, _, rfl, PB.ob, T.cl_Paper, T.na_Paper_chain, fs_chain .., _, rfl, _, _, .lst (SqL.of PB.ca) PB.dc, .lst (SqL.of (e912 _ _ mC9)) (dps_ex e912 dc9), sc, sc, ?_⟩
    rw [eqv_self sc]
    refine ⟨_, rfl, iteF ?_⟩
    -- small
    refine ⟨none_p, congrArg (fun z : Str => [V.str z]) none_ptext, none_pok, fun H13 u du l4 c4 us4 cs4 e13 PC => ?_⟩
    refine ⟨_, rfl, y, dy, l3, c3, us3, cs3, q, rfl, PB.ex e13, ok, fun H14 e14 => ?_⟩
    have PC14 := PC.ex e14
    refine ⟨_, rfl, rfl, ?_⟩
    rw [show decide (V.str (textP q) = V.str (Txt.join "\n" (linesP q))) = true from decide_eq_true rfl]
    refine ⟨_, rfl, ?_⟩
    refine ⟨_, rfl, u, a.C_Paper, du, _, _, rfl, PC14.ob, T.cl_Paper, T.na_Paper_word, fs_word .., _, rfl, u, a.C_Paper, du, _, _, rfl, PC14.ob, T.cl_Paper, T.na_Paper_labels, fs_labels .., _, rfl, u, a.C_Paper, du, _, _, rfl, PC14.ob, T.cl_Paper, T.na_Paper_chain, fs_chain .., by show 3 ≤ sizeLine; decide, fun t ht => ?_⟩
    have j1 := Ex.new (o := .tup [.str none_p.w, .ref l4, .ref c4]) ht
    refine ⟨Nat.zero_le _, fun b1 hb1 => ⟨Nat.zero_le _, fun b2 hb2 => ⟨by show 3 ≤ sizeLine; decide, fun t4 ht4 => ?_⟩⟩⟩
    have j2 := Ex.new (o := .lst []) hb1
    have j3 := Ex.new (o := .lst []) hb2
    have j4 := Ex.new (o := .tup [.str "never", .ref b1, .ref b2]) ht4
    have j14 := j1.trans (j2.trans (j3.trans j4))
    refine ⟨.tuple [.str "never", .list [], .list []], .tuple [.str "never", .list [], .list []], .tup (st_of (j4 _ _ (j3 _ _ (j2 _ _ upd_same)))) (.cons (.str _) (.cons (.lst (SqL.of (j14 _ _ PC14.la)) (dps_ex j14 PC14.du)) (.cons (.lst (SqL.of (j14 _ _ PC14.ca)) (dps_ex j14 PC14.dc)) .nil))), .tup (st_of upd_same) (.cons (.str _) (.cons (.lst (SqL.of (j4 _ _ (j3 _ _ upd_same))) .nil) (.cons (.lst (SqL.of (j4 _ _ upd_same)) .nil) .nil))), shaped_np, shaped_np, ?_⟩
    rw [eqv_self shaped_np]
    exact k _
end
end EV

set_option Elab.async false
set_option linter.all false
set_option maxRecDepth 100000
set_option maxHeartbeats 4000000
namespace EV
open PySem PySem.Spec PyProof.Rows L2 EvS Evl
theorem all_mk {l : PySem.W.OpenLaw} {w : World} {K : PySem.W.Frag} {h : Heap} {mg : Str → Option Value} {fa C_Paper f_is_name f_is_number f_has_form f__fits f_Paper_init f_paper_text f_parse_paper f__wrong_line f__rows_of f__link_word f__read_link f__law_row f__law_numbers f_law q_PAPER_LINES : Addr} (X : K.In h) (G : h.Ns mainGlobals mg) (hfa : mg "law" = some (.ref fa))
    {od_is_name an_is_name od_is_number an_is_number od_has_form an_has_form od__fits an__fits od_Paper_init an_Paper_init od_paper_text an_paper_text od_parse_paper an_parse_paper od__wrong_line an__wrong_line od__rows_of an__rows_of od__link_word an__link_word od__read_link an__read_link od__law_row an__law_row od__law_numbers an__law_numbers od_law an_law dd_qPAPER_LINES : Option Addr} {sl_is_name sl_is_number sl_has_form sl__fits sl_Paper_init sl_paper_text sl_parse_paper sl__wrong_line sl__rows_of sl__link_word sl__read_link sl__law_row sl__law_numbers sl_law sl_qPAPER_LINES : Array (Option Value)} {oc_is_name kV_is_name dc_is_name pm_is_name cd_is_name ct_is_name oc_is_number kV_is_number dc_is_number pm_is_number cd_is_number ct_is_number oc_has_form kV_has_form dc_has_form pm_has_form cd_has_form ct_has_form oc__fits kV__fits dc__fits pm__fits cd__fits ct__fits oc_Paper_init kV_Paper_init dc_Paper_init pm_Paper_init cd_Paper_init ct_Paper_init oc_paper_text kV_paper_text dc_paper_text pm_paper_text cd_paper_text ct_paper_text oc_parse_paper kV_parse_paper dc_parse_paper pm_parse_paper cd_parse_paper ct_parse_paper oc__wrong_line kV__wrong_line dc__wrong_line pm__wrong_line cd__wrong_line ct__wrong_line oc__rows_of kV__rows_of dc__rows_of pm__rows_of cd__rows_of ct__rows_of oc__link_word kV__link_word dc__link_word pm__link_word cd__link_word ct__link_word oc__read_link kV__read_link dc__read_link pm__read_link cd__read_link ct__read_link oc__law_row kV__law_row dc__law_row pm__law_row cd__law_row ct__law_row oc__law_numbers kV__law_numbers dc__law_numbers pm__law_numbers cd__law_numbers ct__law_numbers oc_law kV_law dc_law pm_law cd_law ct_law : Value} {t_DIGITS t_LETTERS t_LONGEST_NAME t_MAYBE t_MOST_DIGITS t_NEVER t_NO_LINK t_SURELY : Tok} {n_qPAPER_LINES : Nat} {t0_PAPER_LINES t1_PAPER_LINES t2_PAPER_LINES : Tok}
    (aC_Paper : PySem.W.nsIn K mainGlobals "Paper" = some (some (.ref C_Paper)))
    (pg_C_Paper : PySem.W.plainGet K C_Paper Str.empty = true)
    (hd_C_Paper : PySem.W.hasDictIn K C_Paper = true)
    (po_C_Paper : PySem.W.plainOver K C_Paper = true)
    (sa_C_Paper : PySem.W.findIn K (.ref C_Paper) "__setattr__" = some (some (.builtin "object.__setattr__")))
    (mk_C_Paper : PySem.W.makesIn K C_Paper = true)
    (kc_C_Paper : PySem.W.keepIn K (.ref C_Paper) = true)
    (ha_C_Paper : PySem.W.findIn K (.ref C_Paper) "__class__" = some (some (.builtin "object.__class__")))
    (hm_C_Paper : PySem.W.mroIn K C_Paper (.type "object") = some true)
    (hn_C_Paper : PySem.W.specialIn K (.builtin "object.__class__") "__get__" = some (some (.builtin "getset_descriptor.__get__")))
    (ht_C_Paper : PySem.W.takesIn K (.builtin "object.__class__") = some true)
    (ki_C_Paper : PySem.W.kitOne K (.ref C_Paper) (.ref C_Paper) = some true)
    (na_Paper_word : PySem.W.findIn K (.ref C_Paper) "word" = some none)
    (na_Paper_labels : PySem.W.findIn K (.ref C_Paper) "labels" = some none)
    (na_Paper_chain : PySem.W.findIn K (.ref C_Paper) "chain" = some none)
    (a_is_name : PySem.W.nsIn K mainGlobals "is_name" = some (some (.ref f_is_name)))
    (l_is_name : K.lookup f_is_name = some ⟨oc_is_name, od_is_name, .func (PySem.W.fnOf "is_name" "is_name" (defArgs s_is_name) (defBody s_is_name) (defScope s_is_name) .none kV_is_name dc_is_name pm_is_name an_is_name cd_is_name ct_is_name), sl_is_name⟩)
    (c_is_name : PySem.W.codeIn K cd_is_name "is_name" = true)
    (k_is_name : PySem.W.keepIn K (.ref f_is_name) = true)
    (a_is_number : PySem.W.nsIn K mainGlobals "is_number" = some (some (.ref f_is_number)))
    (l_is_number : K.lookup f_is_number = some ⟨oc_is_number, od_is_number, .func (PySem.W.fnOf "is_number" "is_number" (defArgs s_is_number) (defBody s_is_number) (defScope s_is_number) .none kV_is_number dc_is_number pm_is_number an_is_number cd_is_number ct_is_number), sl_is_number⟩)
    (c_is_number : PySem.W.codeIn K cd_is_number "is_number" = true)
    (k_is_number : PySem.W.keepIn K (.ref f_is_number) = true)
    (a_has_form : PySem.W.nsIn K mainGlobals "has_form" = some (some (.ref f_has_form)))
    (l_has_form : K.lookup f_has_form = some ⟨oc_has_form, od_has_form, .func (PySem.W.fnOf "has_form" "has_form" (defArgs s_has_form) (defBody s_has_form) (defScope s_has_form) .none kV_has_form dc_has_form pm_has_form an_has_form cd_has_form ct_has_form), sl_has_form⟩)
    (c_has_form : PySem.W.codeIn K cd_has_form "has_form" = true)
    (k_has_form : PySem.W.keepIn K (.ref f_has_form) = true)
    (a__fits : PySem.W.nsIn K mainGlobals "_fits" = some (some (.ref f__fits)))
    (l__fits : K.lookup f__fits = some ⟨oc__fits, od__fits, .func (PySem.W.fnOf "_fits" "_fits" (defArgs s__fits) (defBody s__fits) (defScope s__fits) .none kV__fits dc__fits pm__fits an__fits cd__fits ct__fits), sl__fits⟩)
    (c__fits : PySem.W.codeIn K cd__fits "_fits" = true)
    (k__fits : PySem.W.keepIn K (.ref f__fits) = true)
    (a_Paper_init : PySem.W.findIn K (.ref C_Paper) "__init__" = some (some (.ref f_Paper_init)))
    (i_Paper_init : PySem.W.isFn K (.ref f_Paper_init) = true)
    (l_Paper_init : K.lookup f_Paper_init = some ⟨oc_Paper_init, od_Paper_init, .func (PySem.W.fnOf "__init__" "Paper.__init__" (defArgs s_Paper_init) (defBody s_Paper_init) (defScope s_Paper_init) .none kV_Paper_init dc_Paper_init pm_Paper_init an_Paper_init cd_Paper_init ct_Paper_init), sl_Paper_init⟩)
    (c_Paper_init : PySem.W.codeIn K cd_Paper_init "Paper.__init__" = true)
    (k_Paper_init : PySem.W.keepIn K (.ref f_Paper_init) = true)
    (a_paper_text : PySem.W.nsIn K mainGlobals "paper_text" = some (some (.ref f_paper_text)))
    (l_paper_text : K.lookup f_paper_text = some ⟨oc_paper_text, od_paper_text, .func (PySem.W.fnOf "paper_text" "paper_text" (defArgs s_paper_text) (defBody s_paper_text) (defScope s_paper_text) .none kV_paper_text dc_paper_text pm_paper_text an_paper_text cd_paper_text ct_paper_text), sl_paper_text⟩)
    (c_paper_text : PySem.W.codeIn K cd_paper_text "paper_text" = true)
    (k_paper_text : PySem.W.keepIn K (.ref f_paper_text) = true)
    (a_parse_paper : PySem.W.nsIn K mainGlobals "parse_paper" = some (some (.ref f_parse_paper)))
    (l_parse_paper : K.lookup f_parse_paper = some ⟨oc_parse_paper, od_parse_paper, .func (PySem.W.fnOf "parse_paper" "parse_paper" (defArgs s_parse_paper) (defBody s_parse_paper) (defScope s_parse_paper) .none kV_parse_paper dc_parse_paper pm_parse_paper an_parse_paper cd_parse_paper ct_parse_paper), sl_parse_paper⟩)
    (c_parse_paper : PySem.W.codeIn K cd_parse_paper "parse_paper" = true)
    (k_parse_paper : PySem.W.keepIn K (.ref f_parse_paper) = true)
    (a__wrong_line : PySem.W.nsIn K mainGlobals "_wrong_line" = some (some (.ref f__wrong_line)))
    (l__wrong_line : K.lookup f__wrong_line = some ⟨oc__wrong_line, od__wrong_line, .func (PySem.W.fnOf "_wrong_line" "_wrong_line" (defArgs s__wrong_line) (defBody s__wrong_line) (defScope s__wrong_line) .none kV__wrong_line dc__wrong_line pm__wrong_line an__wrong_line cd__wrong_line ct__wrong_line), sl__wrong_line⟩)
    (c__wrong_line : PySem.W.codeIn K cd__wrong_line "_wrong_line" = true)
    (k__wrong_line : PySem.W.keepIn K (.ref f__wrong_line) = true)
    (a__rows_of : PySem.W.nsIn K mainGlobals "_rows_of" = some (some (.ref f__rows_of)))
    (l__rows_of : K.lookup f__rows_of = some ⟨oc__rows_of, od__rows_of, .func (PySem.W.fnOf "_rows_of" "_rows_of" (defArgs s__rows_of) (defBody s__rows_of) (defScope s__rows_of) .none kV__rows_of dc__rows_of pm__rows_of an__rows_of cd__rows_of ct__rows_of), sl__rows_of⟩)
    (c__rows_of : PySem.W.codeIn K cd__rows_of "_rows_of" = true)
    (k__rows_of : PySem.W.keepIn K (.ref f__rows_of) = true)
    (a__link_word : PySem.W.nsIn K mainGlobals "_link_word" = some (some (.ref f__link_word)))
    (l__link_word : K.lookup f__link_word = some ⟨oc__link_word, od__link_word, .func (PySem.W.fnOf "_link_word" "_link_word" (defArgs s__link_word) (defBody s__link_word) (defScope s__link_word) .none kV__link_word dc__link_word pm__link_word an__link_word cd__link_word ct__link_word), sl__link_word⟩)
    (c__link_word : PySem.W.codeIn K cd__link_word "_link_word" = true)
    (k__link_word : PySem.W.keepIn K (.ref f__link_word) = true)
    (a__read_link : PySem.W.nsIn K mainGlobals "_read_link" = some (some (.ref f__read_link)))
    (l__read_link : K.lookup f__read_link = some ⟨oc__read_link, od__read_link, .func (PySem.W.fnOf "_read_link" "_read_link" (defArgs s__read_link) (defBody s__read_link) (defScope s__read_link) .none kV__read_link dc__read_link pm__read_link an__read_link cd__read_link ct__read_link), sl__read_link⟩)
    (c__read_link : PySem.W.codeIn K cd__read_link "_read_link" = true)
    (k__read_link : PySem.W.keepIn K (.ref f__read_link) = true)
    (a__law_row : PySem.W.nsIn K mainGlobals "_law_row" = some (some (.ref f__law_row)))
    (l__law_row : K.lookup f__law_row = some ⟨oc__law_row, od__law_row, .func (PySem.W.fnOf "_law_row" "_law_row" (defArgs s__law_row) (defBody s__law_row) (defScope s__law_row) .none kV__law_row dc__law_row pm__law_row an__law_row cd__law_row ct__law_row), sl__law_row⟩)
    (c__law_row : PySem.W.codeIn K cd__law_row "_law_row" = true)
    (k__law_row : PySem.W.keepIn K (.ref f__law_row) = true)
    (a__law_numbers : PySem.W.nsIn K mainGlobals "_law_numbers" = some (some (.ref f__law_numbers)))
    (l__law_numbers : K.lookup f__law_numbers = some ⟨oc__law_numbers, od__law_numbers, .func (PySem.W.fnOf "_law_numbers" "_law_numbers" (defArgs s__law_numbers) (defBody s__law_numbers) (defScope s__law_numbers) .none kV__law_numbers dc__law_numbers pm__law_numbers an__law_numbers cd__law_numbers ct__law_numbers), sl__law_numbers⟩)
    (c__law_numbers : PySem.W.codeIn K cd__law_numbers "_law_numbers" = true)
    (k__law_numbers : PySem.W.keepIn K (.ref f__law_numbers) = true)
    (a_law : PySem.W.nsIn K mainGlobals "law" = some (some (.ref f_law)))
    (l_law : K.lookup f_law = some ⟨oc_law, od_law, .func (PySem.W.fnOf "law" "law" (defArgs s_law) (defBody s_law) (defScope s_law) .none kV_law dc_law pm_law an_law cd_law ct_law), sl_law⟩)
    (c_law : PySem.W.codeIn K cd_law "law" = true)
    (k_law : PySem.W.keepIn K (.ref f_law) = true)
    (z_abs : PySem.W.nsIn K mainGlobals "abs" = some none)
    (z_all : PySem.W.nsIn K mainGlobals "all" = some none)
    (z_any : PySem.W.nsIn K mainGlobals "any" = some none)
    (z_enumerate : PySem.W.nsIn K mainGlobals "enumerate" = some none)
    (z_int : PySem.W.nsIn K mainGlobals "int" = some none)
    (z_isinstance : PySem.W.nsIn K mainGlobals "isinstance" = some none)
    (z_len : PySem.W.nsIn K mainGlobals "len" = some none)
    (z_max : PySem.W.nsIn K mainGlobals "max" = some none)
    (z_range : PySem.W.nsIn K mainGlobals "range" = some none)
    (z_str : PySem.W.nsIn K mainGlobals "str" = some none)
    (z_tuple : PySem.W.nsIn K mainGlobals "tuple" = some none)
    (z_zip : PySem.W.nsIn K mainGlobals "zip" = some none)
    (z_sorted : PySem.W.nsIn K mainGlobals "sorted" = some none)
    (z_set : PySem.W.nsIn K mainGlobals "set" = some none)
    (g_DIGITS : PySem.W.nsIn K mainGlobals "DIGITS" = some (some (.str "0123456789" t_DIGITS)))
    (g_LETTERS : PySem.W.nsIn K mainGlobals "LETTERS" = some (some (.str "abcdefghijklmnopqrstuvwxyz" t_LETTERS)))
    (g_LONGEST_NAME : PySem.W.nsIn K mainGlobals "LONGEST_NAME" = some (some (.int 12 t_LONGEST_NAME)))
    (g_MAYBE : PySem.W.nsIn K mainGlobals "MAYBE" = some (some (.str "maybe" t_MAYBE)))
    (g_MOST_DIGITS : PySem.W.nsIn K mainGlobals "MOST_DIGITS" = some (some (.int 6 t_MOST_DIGITS)))
    (g_NEVER : PySem.W.nsIn K mainGlobals "NEVER" = some (some (.str "never" t_NEVER)))
    (g_NO_LINK : PySem.W.nsIn K mainGlobals "NO_LINK" = some (some (.str "-" t_NO_LINK)))
    (gq_PAPER_LINES : PySem.W.nsIn K mainGlobals "PAPER_LINES" = some (some (.ref q_PAPER_LINES)))
    (lq_PAPER_LINES : K.lookup q_PAPER_LINES = some ⟨.type "tuple", dd_qPAPER_LINES, .seq #[.str "label PLACE MINUTE" t0_PAPER_LINES, .str "catch PLACE LINK MINUTE" t1_PAPER_LINES, .str "catch PLACE - MINUTE" t2_PAPER_LINES] n_qPAPER_LINES, sl_qPAPER_LINES⟩)
    (g_SURELY : PySem.W.nsIn K mainGlobals "SURELY" = some (some (.str "surely" t_SURELY)))
    : ∃ fd : FuncData, (∀ (s : Shared) (v : Value), BindsTo s fd ⟨[v], []⟩ [("script", v)]) ∧ ∀ base : Heap, K.In base → base.Ns mainGlobals mg → FnOk l.prog w K mg base CX0 6 fa fd ["script"] (spLaw K) := by
  have e := hfa.symm.trans (PySem.W.mg_of X G a_law)
  cases e
  have F_is_name := fun_mk (st := s_is_name) l_is_name c_is_name k_is_name
  have B_is_name := F_is_name.binds (ps := ["text"]) fun _ _ _ _ _ _ us hl => match us, hl with | [_], _ => rfl
  have F_is_number := fun_mk (st := s_is_number) l_is_number c_is_number k_is_number
  have B_is_number := F_is_number.binds (ps := ["word"]) fun _ _ _ _ _ _ us hl => match us, hl with | [_], _ => rfl
  have F_has_form := fun_mk (st := s_has_form) l_has_form c_has_form k_has_form
  have B_has_form := F_has_form.binds (ps := ["words", "form"]) fun _ _ _ _ _ _ us hl => match us, hl with | [_, _], _ => rfl
  have F__fits := fun_mk (st := s__fits) l__fits c__fits k__fits
  have B__fits := F__fits.binds (ps := ["word", "slot"]) fun _ _ _ _ _ _ us hl => match us, hl with | [_, _], _ => rfl
  have F_Paper_init := fun_mk (st := s_Paper_init) l_Paper_init c_Paper_init k_Paper_init
  have B_Paper_init := F_Paper_init.binds (ps := ["self", "word", "labels", "chain"]) fun _ _ _ _ _ _ us hl => match us, hl with | [_, _, _, _], _ => rfl
  have F_paper_text := fun_mk (st := s_paper_text) l_paper_text c_paper_text k_paper_text
  have B_paper_text := F_paper_text.binds (ps := ["told"]) fun _ _ _ _ _ _ us hl => match us, hl with | [_], _ => rfl
  have F_parse_paper := fun_mk (st := s_parse_paper) l_parse_paper c_parse_paper k_parse_paper
  have B_parse_paper := F_parse_paper.binds (ps := ["text"]) fun _ _ _ _ _ _ us hl => match us, hl with | [_], _ => rfl
  have F__wrong_line := fun_mk (st := s__wrong_line) l__wrong_line c__wrong_line k__wrong_line
  have B__wrong_line := F__wrong_line.binds (ps := ["lines", "firsts", "forms"]) fun _ _ _ _ _ _ us hl => match us, hl with | [_, _, _], _ => rfl
  have F__rows_of := fun_mk (st := s__rows_of) l__rows_of c__rows_of k__rows_of
  have B__rows_of := F__rows_of.binds (ps := ["sort", "rows"]) fun _ _ _ _ _ _ us hl => match us, hl with | [_, _], _ => rfl
  have F__link_word := fun_mk (st := s__link_word) l__link_word c__link_word k__link_word
  have B__link_word := F__link_word.binds (ps := ["link"]) fun _ _ _ _ _ _ us hl => match us, hl with | [_], _ => rfl
  have F__read_link := fun_mk (st := s__read_link) l__read_link c__read_link k__read_link
  have B__read_link := F__read_link.binds (ps := ["word"]) fun _ _ _ _ _ _ us hl => match us, hl with | [_], _ => rfl
  have F__law_row := fun_mk (st := s__law_row) l__law_row c__law_row k__law_row
  have B__law_row := F__law_row.binds (ps := ["cell", "many"]) fun _ _ _ _ _ _ us hl => match us, hl with | [_, _], _ => rfl
  have F__law_numbers := fun_mk (st := s__law_numbers) l__law_numbers c__law_numbers k__law_numbers
  have B__law_numbers := F__law_numbers.binds (ps := ["script", "many"]) fun _ _ _ _ _ _ us hl => match us, hl with | [_, _], _ => rfl
  have F_law := fun_mk (st := s_law) l_law c_law k_law
  have B_law := F_law.binds (ps := ["script"]) fun _ _ _ _ _ _ us hl => match us, hl with | [_], _ => rfl
  have T : Txt K mg { C_Paper := C_Paper, f_is_name := f_is_name, d_is_name := _, f_is_number := f_is_number, d_is_number := _, f_has_form := f_has_form, d_has_form := _, f__fits := f__fits, d__fits := _, f_Paper_init := f_Paper_init, d_Paper_init := _, f_paper_text := f_paper_text, d_paper_text := _, f_parse_paper := f_parse_paper, d_parse_paper := _, f__wrong_line := f__wrong_line, d__wrong_line := _, f__rows_of := f__rows_of, d__rows_of := _, f__link_word := f__link_word, d__link_word := _, f__read_link := f__read_link, d__read_link := _, f__law_row := f__law_row, d__law_row := _, f__law_numbers := f__law_numbers, d__law_numbers := _, f_law := fa, d_law := _, q_PAPER_LINES := q_PAPER_LINES } := {
    F_is_name := F_is_name
    B_is_name := B_is_name
    k_is_name := k_is_name
    g_is_name := PySem.W.mg_of X G a_is_name
    F_is_number := F_is_number
    B_is_number := B_is_number
    k_is_number := k_is_number
    g_is_number := PySem.W.mg_of X G a_is_number
    F_has_form := F_has_form
    B_has_form := B_has_form
    k_has_form := k_has_form
    g_has_form := PySem.W.mg_of X G a_has_form
    F__fits := F__fits
    B__fits := B__fits
    k__fits := k__fits
    g__fits := PySem.W.mg_of X G a__fits
    F_Paper_init := F_Paper_init
    B_Paper_init := B_Paper_init
    k_Paper_init := k_Paper_init
    mk_Paper := ⟨mk_C_Paper, a_Paper_init, i_Paper_init, kc_C_Paper⟩
    F_paper_text := F_paper_text
    B_paper_text := B_paper_text
    k_paper_text := k_paper_text
    g_paper_text := PySem.W.mg_of X G a_paper_text
    F_parse_paper := F_parse_paper
    B_parse_paper := B_parse_paper
    k_parse_paper := k_parse_paper
    g_parse_paper := PySem.W.mg_of X G a_parse_paper
    F__wrong_line := F__wrong_line
    B__wrong_line := B__wrong_line
    k__wrong_line := k__wrong_line
    g__wrong_line := PySem.W.mg_of X G a__wrong_line
    F__rows_of := F__rows_of
    B__rows_of := B__rows_of
    k__rows_of := k__rows_of
    g__rows_of := PySem.W.mg_of X G a__rows_of
    F__link_word := F__link_word
    B__link_word := B__link_word
    k__link_word := k__link_word
    g__link_word := PySem.W.mg_of X G a__link_word
    F__read_link := F__read_link
    B__read_link := B__read_link
    k__read_link := k__read_link
    g__read_link := PySem.W.mg_of X G a__read_link
    F__law_row := F__law_row
    B__law_row := B__law_row
    k__law_row := k__law_row
    g__law_row := PySem.W.mg_of X G a__law_row
    F__law_numbers := F__law_numbers
    B__law_numbers := B__law_numbers
    k__law_numbers := k__law_numbers
    g__law_numbers := PySem.W.mg_of X G a__law_numbers
    F_law := F_law
    B_law := B_law
    k_law := k_law
    g_law := PySem.W.mg_of X G a_law
    z_abs := PySem.W.mg_none_of X G z_abs
    z_all := PySem.W.mg_none_of X G z_all
    z_any := PySem.W.mg_none_of X G z_any
    z_enumerate := PySem.W.mg_none_of X G z_enumerate
    z_int := PySem.W.mg_none_of X G z_int
    z_isinstance := PySem.W.mg_none_of X G z_isinstance
    z_len := PySem.W.mg_none_of X G z_len
    z_max := PySem.W.mg_none_of X G z_max
    z_range := PySem.W.mg_none_of X G z_range
    z_str := PySem.W.mg_none_of X G z_str
    z_tuple := PySem.W.mg_none_of X G z_tuple
    z_zip := PySem.W.mg_none_of X G z_zip
    z_sorted := PySem.W.mg_none_of X G z_sorted
    z_set := PySem.W.mg_none_of X G z_set
    c_DIGITS := ⟨_, PySem.W.mg_of X G g_DIGITS⟩
    c_LETTERS := ⟨_, PySem.W.mg_of X G g_LETTERS⟩
    c_LONGEST_NAME := ⟨_, PySem.W.mg_of X G g_LONGEST_NAME⟩
    c_MAYBE := ⟨_, PySem.W.mg_of X G g_MAYBE⟩
    c_MOST_DIGITS := ⟨_, PySem.W.mg_of X G g_MOST_DIGITS⟩
    c_NEVER := ⟨_, PySem.W.mg_of X G g_NEVER⟩
    c_NO_LINK := ⟨_, PySem.W.mg_of X G g_NO_LINK⟩
    g_PAPER_LINES := PySem.W.mg_of X G gq_PAPER_LINES
    t_PAPER_LINES := fun H => .inr ⟨_, #[.str "label PLACE MINUTE" t0_PAPER_LINES, .str "catch PLACE LINK MINUTE" t1_PAPER_LINES, .str "catch PLACE - MINUTE" t2_PAPER_LINES], _, lq_PAPER_LINES, rfl, rfl, (by show 3 ≤ sizeLine; decide), .cons ⟨_, rfl⟩ (.cons ⟨_, rfl⟩ (.cons ⟨_, rfl⟩ (.nil)))⟩
    c_SURELY := ⟨_, PySem.W.mg_of X G g_SURELY⟩
    cl_Paper := ⟨pg_C_Paper, hd_C_Paper, po_C_Paper, sa_C_Paper⟩
    g_Paper := PySem.W.mg_of X G aC_Paper
    ha_C_Paper := ha_C_Paper
    hm_C_Paper := hm_C_Paper
    hn_C_Paper := hn_C_Paper
    ht_C_Paper := ht_C_Paper
    ki_C_Paper := ki_C_Paper
    na_Paper_word := na_Paper_word
    na_Paper_labels := na_Paper_labels
    na_Paper_chain := na_Paper_chain }
  exact ⟨_, fun s v => .of_eq rfl, fun base _ _ => G_law T⟩
theorem walk {l : PySem.W.OpenLaw} {q : Program} {loose : List Str} {XP : (Str → Option Value) → Heap → Prop} {YP : World → Heap → Prop} {d : DefRec} {K : Params → PySem.W.Frag} (hn : l.most = some 63) (hdf : d.params.defaults = [])
    (hY : ∀ (w : World) (h : Heap), YP w h → (K w.params).In h)
    (F : ∀ (w : World) (mg : Str → Option Value) (fa : Addr) (h : Heap), (K w.params).In h → h.Ns mainGlobals mg → mg d.name = some (.ref fa) →
      ∃ fd : FuncData, (∀ (s : Shared) (u : Value), BindsTo s fd ⟨[u], []⟩ [("script", u)]) ∧ ∀ base : Heap, (K w.params).In base → base.Ns mainGlobals mg → FnOk l.prog w (K w.params) mg base CX0 6 fa fd ["script"] (spLaw (K w.params))) :
    PySem.W.WalkO q loose XP YP l.row.toRowW d [] (fun f vs => PySem.call f vs) :=
  L2.walk_of (n := 63) (k := 6) (x := "script") (CX := fun _ => CX0) (sp := fun w => spLaw (K w.params)) hn (by decide) hdf ⟨rfl, by decide, by decide⟩ hY F (fun _ _ a ns hl _ hS => ⟨a, ns, rfl, hS, fun _ => rfl⟩) fun _ _ _ _ _ z => z
end EV
open PySem PySem.W PyProof.Rows in
set_option maxRecDepth 100000 in
set_option maxHeartbeats 0 in
theorem PySem.Challenge.cw_everyfire_k60_paper_texts_holds : PySem.Challenge.rw_everyfire_k60_paper_texts.Holds := by
  w_on; o_law; k_head; (case hw => w_witness2)
  k_fill
  refine EV.walk (l := PySem.Challenge.rw_everyfire_k60_paper_texts) rfl rfl (fun w h Y => PySem.W.kIn_of Y) ?F
  case F =>
    intro w mg fa h KX G hmg
    refine' EV.all_mk KX G hmg ?aC_Paper ?pg_C_Paper ?hd_C_Paper ?po_C_Paper ?sa_C_Paper ?mk_C_Paper ?kc_C_Paper ?ha_C_Paper ?hm_C_Paper ?hn_C_Paper ?ht_C_Paper ?ki_C_Paper ?na_Paper_word ?na_Paper_labels ?na_Paper_chain ?a_is_name ?l_is_name ?c_is_name ?k_is_name ?a_is_number ?l_is_number ?c_is_number ?k_is_number ?a_has_form ?l_has_form ?c_has_form ?k_has_form ?a__fits ?l__fits ?c__fits ?k__fits ?a_Paper_init ?i_Paper_init ?l_Paper_init ?c_Paper_init ?k_Paper_init ?a_paper_text ?l_paper_text ?c_paper_text ?k_paper_text ?a_parse_paper ?l_parse_paper ?c_parse_paper ?k_parse_paper ?a__wrong_line ?l__wrong_line ?c__wrong_line ?k__wrong_line ?a__rows_of ?l__rows_of ?c__rows_of ?k__rows_of ?a__link_word ?l__link_word ?c__link_word ?k__link_word ?a__read_link ?l__read_link ?c__read_link ?k__read_link ?a__law_row ?l__law_row ?c__law_row ?k__law_row ?a__law_numbers ?l__law_numbers ?c__law_numbers ?k__law_numbers ?a_law ?l_law ?c_law ?k_law ?z_abs ?z_all ?z_any ?z_enumerate ?z_int ?z_isinstance ?z_len ?z_max ?z_range ?z_str ?z_tuple ?z_zip ?z_sorted ?z_set ?g_DIGITS ?g_LETTERS ?g_LONGEST_NAME ?g_MAYBE ?g_MOST_DIGITS ?g_NEVER ?g_NO_LINK ?gq_PAPER_LINES ?lq_PAPER_LINES ?g_SURELY
    (case aC_Paper => k_is)
    (case pg_C_Paper => k_is)
    (case hd_C_Paper => k_is)
    (case po_C_Paper => k_is)
    (case sa_C_Paper => k_is)
    (case mk_C_Paper => k_is)
    (case kc_C_Paper => k_is)
    (case ha_C_Paper => k_is)
    (case hm_C_Paper => k_is)
    (case hn_C_Paper => k_is)
    (case ht_C_Paper => k_is)
    (case ki_C_Paper => kit_is)
    (case na_Paper_word => k_is)
    (case na_Paper_labels => k_is)
    (case na_Paper_chain => k_is)
    (case a_is_name => k_is)
    (case l_is_name => k_is)
    (case c_is_name => k_is)
    (case k_is_name => k_is)
    (case a_is_number => k_is)
    (case l_is_number => k_is)
    (case c_is_number => k_is)
    (case k_is_number => k_is)
    (case a_has_form => k_is)
    (case l_has_form => k_is)
    (case c_has_form => k_is)
    (case k_has_form => k_is)
    (case a__fits => k_is)
    (case l__fits => k_is)
    (case c__fits => k_is)
    (case k__fits => k_is)
    (case a_Paper_init => k_is)
    (case i_Paper_init => k_is)
    (case l_Paper_init => k_is)
    (case c_Paper_init => k_is)
    (case k_Paper_init => k_is)
    (case a_paper_text => k_is)
    (case l_paper_text => k_is)
    (case c_paper_text => k_is)
    (case k_paper_text => k_is)
    (case a_parse_paper => k_is)
    (case l_parse_paper => k_is)
    (case c_parse_paper => k_is)
    (case k_parse_paper => k_is)
    (case a__wrong_line => k_is)
    (case l__wrong_line => k_is)
    (case c__wrong_line => k_is)
    (case k__wrong_line => k_is)
    (case a__rows_of => k_is)
    (case l__rows_of => k_is)
    (case c__rows_of => k_is)
    (case k__rows_of => k_is)
    (case a__link_word => k_is)
    (case l__link_word => k_is)
    (case c__link_word => k_is)
    (case k__link_word => k_is)
    (case a__read_link => k_is)
    (case l__read_link => k_is)
    (case c__read_link => k_is)
    (case k__read_link => k_is)
    (case a__law_row => k_is)
    (case l__law_row => k_is)
    (case c__law_row => k_is)
    (case k__law_row => k_is)
    (case a__law_numbers => k_is)
    (case l__law_numbers => k_is)
    (case c__law_numbers => k_is)
    (case k__law_numbers => k_is)
    (case a_law => k_is)
    (case l_law => k_is)
    (case c_law => k_is)
    (case k_law => k_is)
    (case z_abs => k_is)
    (case z_all => k_is)
    (case z_any => k_is)
    (case z_enumerate => k_is)
    (case z_int => k_is)
    (case z_isinstance => k_is)
    (case z_len => k_is)
    (case z_max => k_is)
    (case z_range => k_is)
    (case z_str => k_is)
    (case z_tuple => k_is)
    (case z_zip => k_is)
    (case z_sorted => k_is)
    (case z_set => k_is)
    (case g_DIGITS => k_is)
    (case g_LETTERS => k_is)
    (case g_LONGEST_NAME => k_is)
    (case g_MAYBE => k_is)
    (case g_MOST_DIGITS => k_is)
    (case g_NEVER => k_is)
    (case g_NO_LINK => k_is)
    (case gq_PAPER_LINES => k_is)
    (case lq_PAPER_LINES => k_is)
    (case g_SURELY => k_is)

