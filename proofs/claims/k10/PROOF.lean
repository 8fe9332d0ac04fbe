import PyProof.Rows.All
import Wide.All
import OpenK.AllK
import Wide.FinOn
import PyProof.EqAt
import PyProof.EqKinds
import PyProof.TupleCall
import HandS.Base
import HandS.Call
import HandS.List
import HandS.ForMost
import HandS.ForExc
import HandS.RaiseMore
import HandS.FStr
import HandS.MakeKwOnly
import HandS.Property
import HandS.IsInst
import HandS.Evl
import HandS.Deep
import HandS.TupSets
import HandS.SetFor
import KE.KExcSuper
import HandS.ExcInit
import HandS.Nested
import HandS.ExcIs
import HandS.ExcField
import HandS.TryMany
import KE.KExcIs
import HandS.ExcOwn
import HandS.Ends
import HandS.Defaults
import PyProof.ReprRoads
import PyProof.Rows.SeqCalls
import KE.LtSeq
import HandS.SortKw
import HandS.Struct
import HandS.TupMul
import HandS.Iter
import HandS.Dict
import HandS.DictComp
import HandS.Walk
import HandS.More
import PyProof.ReprLen
import PyProof.ReprRoom
import PyProof.Rows.ReprShort
import PyProof.FString2
import HandS.Zip
import KE.GoesZip
import KE.GoesMore
import HandS.TupAny
import HandS.Strs
import HandS.TupLe
import KE.RegKIsAll
import KE.RegKSuper
import PySem.Challenge.RW_everyfire_k10_numbers_of_a_fire
set_option Elab.async false
set_option linter.all false
set_option maxRecDepth 100000
set_option maxHeartbeats 4000000
/-! len(set(xs)) of any number of texts -/
namespace EvS
open PySem PySem.Spec PyProof.Rows
/-- the different ones, each where it came first -/
def dd {α : Type} [DecidableEq α] : List α → List α → List α
  | acc, [] => acc
  | acc, x :: r => dd (if x ∈ acc then acc else acc ++ [x]) r
theorem dd_len_le {α : Type} [DecidableEq α] : ∀ (l acc : List α), (dd acc l).length ≤ acc.length + l.length
  | [], acc => Nat.le_refl _
  | x :: r, acc => by
    unfold dd
    by_cases h : x ∈ acc
    · rw [if_pos h]
      have := dd_len_le r acc
      simp only [List.length_cons]
      omega
    · rw [if_neg h]
      have := dd_len_le r (acc ++ [x])
      simp only [List.length_cons, List.length_append, List.length_nil] at this ⊢
      omega
theorem dd_len_eq {α : Type} [DecidableEq α] : ∀ (l acc : List α), acc.Nodup → ((dd acc l).length = acc.length + l.length ↔ (acc ++ l).Nodup)
  | [], acc, h => by simp [dd, h]
  | x :: r, acc, h => by
    unfold dd
    by_cases hx : x ∈ acc
    · rw [if_pos hx]
      have h1 := dd_len_le r acc
      constructor
      · intro e
        simp only [List.length_cons] at e
        omega
      · intro e
        have := (List.nodup_append.mp e).2.2 x hx x (List.mem_cons_self ..)
        exact absurd rfl this
    · rw [if_neg hx]
      have hn : (acc ++ [x]).Nodup := by
        rw [List.nodup_append]
        refine ⟨h, by simp, fun a ha b hb => ?_⟩
        rw [List.mem_singleton] at hb
        subst hb
        exact fun e => hx (e ▸ ha)
      have ih := dd_len_eq r (acc ++ [x]) hn
      simp only [List.length_cons, List.length_append, List.length_nil, List.append_assoc, List.singleton_append] at ih ⊢
      rw [← ih]
      omega
theorem dd_snoc {α : Type} [DecidableEq α] (x : α) : ∀ (l acc : List α), dd acc (l ++ [x]) = (if x ∈ dd acc l then dd acc l else dd acc l ++ [x])
  | [], acc => rfl
  | y :: r, acc => by
    show dd _ (r ++ [x]) = _
    rw [dd_snoc x r]
    rfl
section
variable {prog : Program} {w : World} {A : Around} {R : Result → Shared → Prop} {I : Addr} {fp wr : List Addr} {G : Array GenState → Array GenState → Prop} {n : Nat} {P : Nat → Value → Prop} {St : Nat → Shared → Prop}
variable {κ : Type} [DecidableEq κ] {kd : KeyKind prog w κ}
theorem turnK (W : WalksS prog w A.in1 I fp wr G n P St) (S : Addr) (hSf : S ∉ fp) (ks : List κ) (hlen : ks.length = n) (hmax : n < 4000)
    (hat : ∀ i v k, P i v → ks[i]? = some k → kd.is k v = true ∧ v.scannable = true) :
    ∀ (m i : Nat) (s : Shared), n - i = m → i ≤ n → St i s →
      Heap.SetOf kd s.heap S (fun k => decide (k ∈ dd [] (ks.take i))) (dd [] (ks.take i)).length →
      (∀ s', Moved (S :: wr) G s s' → Heap.SetOf kd s'.heap S (fun k => decide (k ∈ dd [] ks)) (dd [] ks).length → R (.ok (.ret .none)) s') →
      codeAny (model prog w) A (.builtin "set.update.loop" ⟨[.ref S, .ref I], []⟩) R s := by
  have nw : S ∉ wr := fun q => hSf (W.sub _ q)
  have up : ∀ c ∈ wr, c ∈ S :: wr := fun c hc => List.mem_cons_of_mem _ hc
  intro m
  induction m with
  | zero =>
    intro i s hm hi hst hS hR
    obtain rfl : i = n := by omega
    refine codeAny_builtin PyProof.Rows.F.entry_set_update_loop ?_
    rw [Around.under_plainId PyProof.Rows.F.plain_set_update_loop _]
    show wpAny _ A.in1 (pyNext (.ref I) >>= _) _ _ s
    refine wpAny_bind (W.done s _ _ hst fun s1 mv => ?_)
    refine wpAny_pure (hR s1 (mv.mono up) ?_)
    rw [← hlen, List.take_length] at hS
    obtain ⟨o, es, ep, t, ho, more⟩ := hS
    exact ⟨o, es, ep, t, mv.heap S _ nw ho, more⟩
  | succ m ih =>
    intro i s hm hi hst hS hR
    have lt : i < n := by omega
    obtain ⟨k0, hk0⟩ : ∃ k, ks[i]? = some k := ⟨ks[i]'(by omega), List.getElem?_eq_getElem (by omega)⟩
    refine codeAny_builtin PyProof.Rows.F.entry_set_update_loop ?_
    rw [Around.under_plainId PyProof.Rows.F.plain_set_update_loop _]
    show wpAny _ A.in1 (pyNext (.ref I) >>= _) _ _ s
    refine wpAny_bind (W.item i s _ _ lt hst fun v s1 hP hst1 mv => ?_)
    obtain ⟨hv, hsc⟩ := hat i v k0 hP hk0
    have hS1 : Heap.SetOf kd s1.heap S (fun k => decide (k ∈ dd [] (ks.take i))) (dd [] (ks.take i)).length := by
      obtain ⟨o, es, ep, t, ho, more⟩ := hS
      exact ⟨o, es, ep, t, mv.heap S _ nw ho, more⟩
    show wpAny _ A.in1 (holding [v] (setAdd S v) >>= _) _ _ s1
    refine wpAny_bind (wpAny_holding ?_)
    unfold setAdd
    refine wpAny_holding ?_
    refine wpAny_bind (kd.pyHash (k := k0) hv ?_)
    have small : (dd [] (ks.take i)).length + 1 < scanBound := by
      have q := dd_len_le (ks.take i) []
      rw [List.length_take, List.length_nil] at q
      unfold scanBound
      omega
    refine wpAny_setAddHashed_of (knd := kd) (s := { s1 with toks := s1.toks + 1 }) hv hsc hS1 small fun h2 sb hS2 => ?_
    have et : ks.take (i + 1) = ks.take i ++ [k0] := by
      rw [List.take_add_one, hk0] <;> rfl
    have hS3 : Heap.SetOf kd h2 S (fun k => decide (k ∈ dd [] (ks.take (i + 1)))) (dd [] (ks.take (i + 1))).length := by
      rw [et, dd_snoc]
      by_cases hin : k0 ∈ dd [] (ks.take i)
      · rw [if_pos hin]
        rw [if_pos (decide_eq_true hin)] at hS2
        have e : (fun k' => decide (k' ∈ dd [] (ks.take i)) || decide (k' = k0)) = fun k => decide (k ∈ dd [] (ks.take i)) := by
          funext k'
          by_cases q : k' = k0
          · subst q
            simp [hin]
          · simp [q]
        rw [e] at hS2
        exact hS2
      · rw [if_neg hin]
        rw [if_neg (by simpa using hin)] at hS2
        have e : (fun k' => decide (k' ∈ dd [] (ks.take i)) || decide (k' = k0)) = fun k => decide (k ∈ dd [] (ks.take i) ++ [k0]) := by
          funext k'
          simp [List.mem_append]
        rw [e] at hS2
        rw [List.length_append]
        exact hS2
    refine wpAny_pure ⟨plainId_quiet PyProof.Rows.F.plain_set_update_loop _, ih (i + 1) _ (by omega) lt (W.frame _ s1 _ _ hst1 (Nat.le_succ _) fun c hc o e => ?_) hS3 fun s3 mv3 hS4 => ?_⟩
    · rw [sb.2 c (fun z : c = S => hSf (by rw [← z]; exact hc))]
      exact e
    · refine hR s3 (Moved.trans W.gtrans ((mv.mono up).then_heap (Nat.le_succ _) fun c o hc e => ?_) mv3) hS4
      rw [sb.2 c (fun z : c = S => hc (by rw [z]; exact List.mem_cons_self))]
      exact e
end
section
variable {prog : Program} {w : World} {A : Around} {E : Value → Shared → Prop} {s : Shared} {κ : Type} [DecidableEq κ] {kd : KeyKind prog w κ}
def blankSet (led : Bool) : Obj := { cls := .type "set", dict := none, data := .set #[] 0 (.fresh 0 0 led) }
/-- set(l), l a list (isT false) or a tuple (isT true) -/
theorem call_setK {l : Addr} {its : Array Value} {ks : List κ} {Q : Value → Shared → Prop} (hA : A.handled = none) (hl : s.heap.IsList l its ∨ s.heap.IsTuple l its)
    (hlen : ks.length = its.size) (hmax : its.size < 4000) (hat : ∀ (i : Nat) (v : Value) (k : κ), its[i]? = some v → ks[i]? = some k → kd.is k v = true ∧ v.scannable = true)
    (h : ∀ (h' : Heap) (tk : Nat), Heap.SetOf kd h' s.heap.objs.size (fun k => decide (k ∈ dd [] ks)) (dd [] ks).length →
      (∀ c o, c < s.heap.objs.size → s.heap.get? c = some o → h'.get? c = some o) → Q (.ref s.heap.objs.size) { s with heap := h', toks := tk }) :
    wpAny (model prog w) A (call (.type "set") [.ref l]) Q E s := by
  obtain ⟨c, tl, hmro⟩ := PySem.F.called_set.mro
  have hmade := PySem.F.called_set.made
  have hsub := PySem.F.called_set.sub
  refine wpAny_call (codeAny_of_tree ?_)
  show wpAny _ _ (callAny (.type "set") _) _ _ _
  refine wpAny_pure ⟨Code.quiet_builtin _ (by decide +kernel), codeAny_builtin PySem.F.entry_type_call ?_⟩
  rw [Around.under_plain (weight_type_call_type "set" [.ref l] []) rfl]
  have h1 := PySem.F.called_set.notType
  have h2 := PySem.F.called_set.canCreate
  have hct := PySem.F.typeCall_set_1 (.ref l)
  repeat (any_goals (first | assumption | wp_step))
  refine codeAny_mono (code_set_new_1 (.ref l) (E := E) (Q₁ := fun b s₁ => ∃ led : Bool, b = .ref s.heap.objs.size ∧ s₁ = { s with heap := s.heap.push (blankSet led) }) fun led => ⟨led, rfl, rfl⟩) fun r s₁ hr => ?_
  cases r with
  | error e => exact hr
  | ok fl =>
    cases fl with
    | ret b =>
      obtain ⟨led, rfl, rfl⟩ := hr
      have hS : (s.heap.push (blankSet led)).get? s.heap.objs.size = some (blankSet led) := Heap.get?_push_size _ rfl
      have hT : Shared.TypeIs { s with heap := s.heap.push (blankSet led) } (.ref s.heap.objs.size) "set" := ⟨_, hS, rfl⟩
      have hli := PySem.F.called_set.init.lookup
      have hbi := PySem.F.called_set.init.bind (.ref s.heap.objs.size)
      repeat (any_goals (first | assumption | wp_step))
      refine codeAny_mono (codeAny_call_builtin (R := wants (fun r s₂ => r = .none ∧ ∃ h' tk, s₂ = { s with heap := h', toks := tk } ∧
          Heap.SetOf kd h' s.heap.objs.size (fun k => decide (k ∈ dd [] ks)) (dd [] ks).length ∧
          (∀ c o, c < s.heap.objs.size → s.heap.get? c = some o → h'.get? c = some o)) E) PySem.F.called_set.init.plain PySem.F.entry_set_init (check_set_init_1 hT ?_)) fun r₂ s₂ hr₂ => ?_
      · have fin : ∀ (s1 : Shared) (I : Addr), I ≠ s.heap.objs.size → s.heap.objs.size < I → Moved [s.heap.objs.size, I] (fun a b => a = b) { s with heap := (s.heap.push (blankSet led)) } s1 → True := fun _ _ _ _ _ => trivial
        clear fin
        rcases hl with hl | hl
        · obtain ⟨ol, hol, hcl, nl, hdl⟩ := hl
          obtain ⟨ocls, odict, odata, oslots⟩ := ol
          simp only at hcl hdl
          subst hcl; subst hdl
          have hol' : (s.heap.push (blankSet led)).get? l = some { cls := .type "list", dict := odict, data := .seq its nl, slots := oslots } := Heap.get?_push_of_some _ hol
          have hsls := PySem.F.sub_list_set
          have hslf := PySem.F.sub_list_frozenset
          have hne : (Value.type "list" == Value.type "dict") = false := by decide
          have hl1 : (s.heap.push (blankSet led)).IsList l its := ⟨_, hol', rfl, nl, rfl⟩
          unfold Builtin.«set.__init__» noKeywords Builtin.Frozenset.updateFrom
          generalize hPI : pyIter = PI
          wp_walk
          subst hPI
          refine wpAny_pyIter_list hl1 ?_
          refine wpAny_bind (wpAny_runValue ?_)
          have hlS : l < s.heap.objs.size := Heap.lt_size hol
          have h3 : A.in1.in1.in1.handled = none := by simp [hA]
          have nI : l ≠ (s.heap.push (blankSet led)).objs.size := by
            rw [Heap.size_push]; exact Nat.ne_of_lt (Nat.lt_succ_of_lt hlS)
          have nS : s.heap.objs.size ∉ [(s.heap.push (blankSet led)).objs.size, l] := by
            rw [Heap.size_push]; simp only [List.mem_cons, List.mem_singleton, List.not_mem_nil, or_false, not_or]
            exact ⟨Nat.ne_of_lt (Nat.lt_succ_self _), Nat.ne_of_gt hlS⟩
          refine turnK (kd := kd) ((Walks.list h3 _ l nI its).toS) s.heap.objs.size nS ks hlen hmax (fun i v k hv hk => hat i v k hv hk) (its.size - 0) 0 _ (by omega) (Nat.zero_le _) ⟨⟨_, Heap.get?_push_size _ rfl, rfl, rfl⟩, (hl1.push _)⟩ ?hS0 ?hR
          case hS0 =>
            have hget : ((s.heap.push (blankSet led)).push { cls := .type "list_iterator", data := .fields #[.ref l, .int 0 0] }).get? s.heap.objs.size = some (blankSet led) := Heap.get?_push_of_some _ hS
            exact PyProof.Rows.SetOf_congr ((PyProof.Rows.setObjOf_fresh (knd := kd) led).setOf hget (by unfold scanBound; omega)) (fun _ => rfl) rfl
          case hR =>
            intro s' mv hS'
            obtain ⟨h', g', d', tk', os'⟩ := s'
            obtain rfl : g' = s.gens := mv.gens
            obtain rfl : d' = s.drawn := mv.drawn
            obtain rfl : os' = s.os := mv.os
            show wpAny _ _ _ _ _ _
            refine wpAny_pure ?_
            show wpAny _ _ (ret Value.none) _ _ _
            refine wpAny_pure ⟨rfl, h', tk', rfl, hS', fun c o hc e => ?_⟩
            have n1 : c ≠ s.heap.objs.size := Nat.ne_of_lt hc
            have n2 : c ≠ (s.heap.push (blankSet led)).objs.size := by
              rw [Heap.size_push]; exact Nat.ne_of_lt (Nat.lt_succ_of_lt hc)
            exact mv.heap c o (by simp only [List.mem_cons, List.mem_singleton, List.not_mem_nil, or_false, not_or]; exact ⟨n1, n2⟩) (Heap.get?_push_of_some _ (Heap.get?_push_of_some _ e))
        · obtain ⟨ol, hol, hcl, nl, hdl⟩ := hl
          obtain ⟨ocls, odict, odata, oslots⟩ := ol
          simp only at hcl hdl
          subst hcl; subst hdl
          have hol' : (s.heap.push (blankSet led)).get? l = some { cls := .type "tuple", dict := odict, data := .seq its nl, slots := oslots } := Heap.get?_push_of_some _ hol
          have hsls := PySem.F.sub_tuple_set
          have hslf := PySem.F.sub_tuple_frozenset
          have hne : (Value.type "tuple" == Value.type "dict") = false := by decide
          have hl1 : (s.heap.push (blankSet led)).IsTuple l its := ⟨_, hol', rfl, nl, rfl⟩
          unfold Builtin.«set.__init__» noKeywords Builtin.Frozenset.updateFrom
          generalize hPI : pyIter = PI
          wp_walk
          subst hPI
          refine wpAny_pyIter_tuple hl1 ?_
          refine wpAny_bind (wpAny_runValue ?_)
          have hlS : l < s.heap.objs.size := Heap.lt_size hol
          have h3 : A.in1.in1.in1.handled = none := by simp [hA]
          have nI : l ≠ (s.heap.push (blankSet led)).objs.size := by
            rw [Heap.size_push]; exact Nat.ne_of_lt (Nat.lt_succ_of_lt hlS)
          have nS : s.heap.objs.size ∉ [(s.heap.push (blankSet led)).objs.size, l] := by
            rw [Heap.size_push]; simp only [List.mem_cons, List.mem_singleton, List.not_mem_nil, or_false, not_or]
            exact ⟨Nat.ne_of_lt (Nat.lt_succ_self _), Nat.ne_of_gt hlS⟩
          refine turnK (kd := kd) ((Walks.tuple h3 _ l nI its).toS) s.heap.objs.size nS ks hlen hmax (fun i v k hv hk => hat i v k hv hk) (its.size - 0) 0 _ (by omega) (Nat.zero_le _) ⟨⟨_, Heap.get?_push_size _ rfl, rfl, rfl⟩, (hl1.push _)⟩ ?hS0 ?hR
          case hS0 =>
            have hget : ((s.heap.push (blankSet led)).push { cls := .type "tuple_iterator", data := .fields #[.ref l, .int 0 0] }).get? s.heap.objs.size = some (blankSet led) := Heap.get?_push_of_some _ hS
            exact PyProof.Rows.SetOf_congr ((PyProof.Rows.setObjOf_fresh (knd := kd) led).setOf hget (by unfold scanBound; omega)) (fun _ => rfl) rfl
          case hR =>
            intro s' mv hS'
            obtain ⟨h', g', d', tk', os'⟩ := s'
            obtain rfl : g' = s.gens := mv.gens
            obtain rfl : d' = s.drawn := mv.drawn
            obtain rfl : os' = s.os := mv.os
            show wpAny _ _ _ _ _ _
            refine wpAny_pure ?_
            show wpAny _ _ (ret Value.none) _ _ _
            refine wpAny_pure ⟨rfl, h', tk', rfl, hS', fun c o hc e => ?_⟩
            have n1 : c ≠ s.heap.objs.size := Nat.ne_of_lt hc
            have n2 : c ≠ (s.heap.push (blankSet led)).objs.size := by
              rw [Heap.size_push]; exact Nat.ne_of_lt (Nat.lt_succ_of_lt hc)
            exact mv.heap c o (by simp only [List.mem_cons, List.mem_singleton, List.not_mem_nil, or_false, not_or]; exact ⟨n1, n2⟩) (Heap.get?_push_of_some _ (Heap.get?_push_of_some _ e))
      · cases r₂ with
        | error e => exact hr₂
        | ok fl₂ =>
          cases fl₂ with
          | ret r =>
            obtain ⟨rfl, h', tk, rfl, hS', hk'⟩ := hr₂
            repeat (any_goals (first | assumption | wp_step))
            exact h _ _ hS' hk'
          | _ => exact hr₂.elim
    | _ => exact hr.elim
end
end EvS
namespace L2
open PySem PySem.Spec PyProof.Rows EvS
section
variable {X : Cx}
/-- len(set(xs)), xs a list or a tuple of texts -/
def tLenSetS (K : PySem.W.Frag) (ta : TE) : TE := fun σ H Q => ta σ H fun x H1 => ∃ (l : Addr) (xs : List Str), x = .ref l ∧ (SqL K H1 l (xs.map V.str) ∨ SqT K H1 l (xs.map V.str)) ∧ xs.length < 4000 ∧ Q (.int ((dd [] xs).length : Nat)) H1
theorem texts_at : ∀ {xs : List Str} {us : List Value}, Vals (xs.map V.str) us → ∀ (i : Nat) (v : Value) (k : Str), us[i]? = some v → xs[i]? = some k → ∃ t, v = Value.str k t
  | [], _, _, i, v, k, _, h => by simp at h
  | x :: xs, _, .cons r t, 0, v, k, h1, h2 => by
    obtain ⟨tk, rfl⟩ := r
    simp only [List.getElem?_cons_zero, Option.some.injEq] at h1 h2
    subst h1 h2
    exact ⟨tk, rfl⟩
  | x :: xs, _, .cons r t, i + 1, v, k, h1, h2 => by
    simp only [List.getElem?_cons_succ] at h1 h2
    exact texts_at t i v k h1 h2
theorem pe_lenSetS {a : Expr} {ta : TE} {p p2 q pos : Pos} (hc : X.calm = true) (hg : Gl X "len") (hm : X.mg "len" = none) (hg2 : Gl X "set") (hm2 : X.mg "set" = none) (ha : PE X a ta)
    (na : starEach [a] X.env = (false, eval a X.env) :: starEach [] X.env := by rfl) : PE X (.Call (.Name "len" p) [.Call (.Name "set" p2) [a] [] q] [] pos) (tLenSetS X.K ta) := by
  refine ⟨fun pins s σ H Q I h => ?_⟩
  refine Call_ (ld_blt I hg hm boot_len ?_)
  refine PyProof.Rows.callWith_builtin1 (PyProof.Rows.args_cons ?_ rfl) rfl rfl
  refine Call_ (ld_blt I hg2 hm2 boot_set ?_)
  refine PyProof.Rows.callWith_type1 (PyProof.Rows.args_cons (thn (ha.run pins s σ H _ I h) fun v s1 ⟨x, H1, I1, r1, q1⟩ => PyProof.Rows.args_nil ?_) na) na rfl
  obtain ⟨l, xs, rfl, hq, hmax, q1⟩ := q1
  cases r1
  have go : ∀ (its : List Value), Vals (xs.map V.str) its → (s1.heap.IsList l its.toArray ∨ s1.heap.IsTuple l its.toArray) →
      wpAny (model X.prog X.w) X.A (call (.type "set") [.ref l]) (fun v s₂ => wpAny (model X.prog X.w) X.A (spliced (backTo pos (starEach [] X.env))) (fun vs s₃ => wpAny (model X.prog X.w) X.A (call (.builtin "len") (v :: vs)) (EP X pins σ Q) X.xe s₃) X.xe s₂) X.xe s1 := fun its r pl => by
    have hl : its.toArray.size = xs.length := by rw [List.size_toArray, ← r.length, List.length_map]
    refine call_setK (kd := PySem.strKind X.prog X.w) (ks := xs) (I1.ok.hd hc) pl hl.symm (by rw [hl]; exact hmax) (fun i v k hv hk => ?_) fun h' tk hS hk => ?_
    · obtain ⟨t, rfl⟩ := texts_at r i v k (by rw [List.getElem?_toArray] at hv; exact hv) hk
      exact ⟨strKind_is _ _ _ _, rfl⟩
    · refine PyProof.Rows.args_nil ?_
      obtain ⟨o, es, ep, t, ho, hex, hd, _, _, _, hf, hn⟩ := hS
      have I2 : Inv X pins σ H1 { s1 with heap := h', toks := tk } := I1.kept fun c o e => hk c o (Heap.lt_size e) e
      have sm := dd_len_le xs []
      rw [List.length_nil] at sm
      exact call_len_set ho hex hd hf (by rw [hn] <;> omega) ⟨.int ((dd [] xs).length : Nat), H1, I2.tok _, ⟨_, by rw [hn]⟩, q1⟩
  rcases hq with hq | hq
  · obtain ⟨its, r, pl, hz⟩ := I1.list hq
    exact go its r (.inl pl.isList)
  · obtain ⟨its, r, pl, hz⟩ := I1.tuple hq
    exact go its r (.inr pl)
end
end L2

set_option Elab.async false
set_option linter.all false
set_option maxRecDepth 100000
set_option maxHeartbeats 4000000
namespace EvS
open PySem PySem.Spec PyProof.Rows L2
section
variable {X : Cx}
def rTupK (K : PySem.W.Frag) : List V → Hp → VK → Prop := fun xs H Q => ∃ p ys, xs = [.ref p] ∧ ((SqL K H p ys ∧ ∀ l, H l = none → Q (.ref l) (upd H l (.tup ys))) ∨ (SqT K H p ys ∧ Q (.ref p) H))
theorem call_tupK : CallR X (.type "tuple") (rTupK X.K) := call_tuple_of
/-- tuple(xs), xs a list or a tuple -/
def rTupS (K : PySem.W.Frag) : List V → Hp → VK → Prop := fun xs H Q => ∃ p ys, xs = [.ref p] ∧ (SqL K H p ys ∨ SqT K H p ys) ∧ ∀ u H', Evl.Ex H H' → SqT K H' u ys → Q (.ref u) H'
theorem call_tupS : CallR X (.type "tuple") (rTupS X.K) := fun pins s σ H xs us Q I r h => by
  obtain ⟨p, ys, e, hs, q⟩ := h
  refine call_tuple_of pins s σ H xs us Q I r ⟨p, ys, e, ?_⟩
  rcases hs with hs | hs
  · exact .inl ⟨hs, fun l hl => q l _ (Evl.Ex.new hl) (Evl.st_of upd_same)⟩
  · exact .inr ⟨hs, q p H (Evl.Ex.refl H) hs⟩
def rLstK (K : PySem.W.Frag) : List V → Hp → VK → Prop := fun xs H Q => ∃ p ys, xs = [.ref p] ∧ (SqL K H p ys ∨ SqT K H p ys) ∧ ∀ l, H l = none → Q (.ref l) (upd H l (.lst ys))
theorem call_lstK : CallR X (.type "list") (rLstK X.K) := call_list_of
/-- what is never reached -/
theorem pss_any {b : List Stmt} : PSs X b (fun _ _ _ => False) := ⟨fun _ _ _ _ _ _ q => q.elim⟩
theorem ps_any {b : Stmt} : PS X b (fun _ _ _ => False) := ⟨fun _ _ _ _ _ _ q => q.elim⟩
theorem pe_any {e : Expr} : PE X e (fun _ _ _ => False) := ⟨fun _ _ _ _ _ _ q => q.elim⟩
theorem pt_any {e : Expr} : PT X e (fun _ _ _ => False) := ⟨fun _ _ _ _ _ _ q => q.elim⟩
/-- the one way or the other -/
theorem pi_or {tg it : Expr} {w1 w2 : TI} (a : PI X tg it w1) (b : PI X tg it w2) : PI X tg it (fun σ H R => w1 σ H R ∨ w2 σ H R) :=
  ⟨fun pins s σ H R I h => h.elim (fun q => a.run pins s σ H R I q) (fun q => b.run pins s σ H R I q)⟩
theorem pe_or2 {e : Expr} {t1 t2 : TE} (a : PE X e t1) (b : PE X e t2) : PE X e (fun σ H Q => t1 σ H Q ∨ t2 σ H Q) :=
  ⟨fun pins s σ H Q I h => h.elim (fun q => a.run pins s σ H Q I q) (fun q => b.run pins s σ H Q I q)⟩
end
section
variable {X : Cx}
theorem pe_gI {x : Str} {n : Int} {pos : Pos} (hg : Gl X x) (h : ∃ t, X.mg x = some (.int n t)) (hd : (x == ("__debug__" : Str)) = false := by decide) : PE X (.Name x pos) (tC (.int n)) := by
  obtain ⟨t, e⟩ := h
  exact pe_glob hg e ⟨t, rfl⟩ hd
theorem pe_gS {x : Str} {z : Str} {pos : Pos} (hg : Gl X x) (h : ∃ t, X.mg x = some (.str z t)) (hd : (x == ("__debug__" : Str)) = false := by decide) : PE X (.Name x pos) (tC (.str z)) := by
  obtain ⟨t, e⟩ := h
  exact pe_glob hg e ⟨t, rfl⟩ hd
end
/-- a op b op c op d, as a test -/
def tChain3 (r1 r2 r3 : R2) (ta tb tc td : TE) : TE := fun σ H Q => ta σ H fun x H1 => tb σ H1 fun y H2 => r1 x y H2 fun z H3 => ∃ k, z = .bl k ∧ (if k = true then tc σ H3 fun u H4 => r2 y u H4 fun z' H5 => ∃ k', z' = .bl k' ∧ (if k' = true then td σ H5 fun v H6 => r3 u v H6 Q else Q (.bl false) H5) else Q (.bl false) H3)
theorem pt_chain3 {X : Cx} {a b c d : Expr} {ta tb tc td : TE} {pos : Pos} {o1 o2 o3 : CmpOp} {r1 r2 r3 : R2} (h1 : OpR X (compareOp o1) r1) (h2 : OpR X (compareOp o2) r2) (h3 : OpR X (compareOp o3) r3) (ha : PE X a ta) (hb : PE X b tb) (hc : PE X c tc) (hd : PE X d td)
    (hm : lastMarks [o1, o2, o3] [b, c, d] = false := by with_unfolding_all rfl) : PT X (.Compare a [o1, o2, o3] [b, c, d] pos) (tTest (tChain3 r1 r2 r3 ta tb tc td)) := by
  refine ⟨fun pins s σ H Q I h => ?_⟩
  refine isTrue_chain (thn (ha.run pins s σ H _ I h) fun v1 s1 ⟨x, H1, I1, y1, q1⟩ => test_link (thn (hb.run pins s1 σ H1 _ I1 q1) fun v2 s2 ⟨y, H2, I2, y2, q2⟩ => thn (h1 pins s2 σ H2 x y v1 v2 _ I2 y1 y2 q2) fun v3 s3 ⟨z, H3, I3, y3, k, e, q3⟩ => ?_)) hm
  subst e
  cases y3
  refine wpAny_truthy_bool ?_
  cases k with
  | false =>
    obtain ⟨k', e', q'⟩ := q3
    cases e'
    exact ite_ff ⟨H3, I3, q'⟩
  | true =>
    refine ite_tt (test_link (thn (hc.run pins s3 σ H3 _ I3 q3) fun v4 s4 ⟨u, H4, I4, y4, q4⟩ => thn (h2 pins s4 σ H4 y u v2 v4 _ I4 y2 y4 q4) fun v5 s5 ⟨z', H5, I5, y5, k', e', q5⟩ => ?_))
    subst e'
    cases y5
    refine wpAny_truthy_bool ?_
    cases k' with
    | false =>
      obtain ⟨k2, e2, q2'⟩ := q5
      cases e2
      exact ite_ff ⟨H5, I5, q2'⟩
    | true =>
      refine ite_tt (test_last (thn (hd.run pins s5 σ H5 _ I5 q5) fun v6 s6 ⟨v, H6, I6, y6, q6⟩ => thn (h3 pins s6 σ H6 u v v4 v6 _ I6 y4 y6 q6) fun v7 s7 ⟨z2, H7, I7, y7, k2, e2, q7⟩ => ?_))
      subst e2
      cases y7
      exact wpAny_truthy_bool ⟨H7, I7, q7⟩
theorem for_sign {x : Str} {g : TG} {tb : TS} {D : Ends} {σ : L2.St} {H : Hp} (Pv : Nat → L2.St → Hp → Prop) (h0 : Pv 0 σ H)
    (hs : ∀ i c σ H, x.cps[i]? = some c → Pv i σ H → g (.str ⟨#[c]⟩) σ H fun σ2 H2 => tb { D with nx := Pv (i + 1), ct := Pv (i + 1), bk := D.nx } σ2 H2) (hd : ∀ σ H, Pv x.cps.size σ H → D.nx σ H) :
    ∃ W : Nat → Nat → L2.St → Hp → Prop, (∃ m, W 0 m σ H) ∧ ∀ i m σ H, W i m σ H → ((Its x).stop i H ∧ D.nx σ H) ∨
      ((Its x).go i H ∧ ∃ N : L2.St → Hp → Prop, (∀ σ' H', N σ' H' → ∃ m', m' < m ∧ W (i + 1) m' σ' H') ∧ ∀ v H', (Its x).yld i H v H' → g v σ H' fun σ2 H2 => tb { D with nx := N, ct := N, bk := D.nx } σ2 H2) := by
  refine ⟨fun i m σ H => m = x.cps.size - i ∧ i ≤ x.cps.size ∧ Pv i σ H, ⟨x.cps.size, rfl, Nat.zero_le _, h0⟩, ?_⟩
  rintro i m σ H ⟨rfl, hi, p⟩
  by_cases lt : i < x.cps.size
  · refine .inr ⟨lt, Pv (i + 1), fun σ' H' p' => ⟨x.cps.size - (i + 1), by omega, rfl, lt, p'⟩, fun v H' y => ?_⟩
    obtain ⟨rfl, c, hc, rfl⟩ := y
    exact hs i c σ _ hc p
  · obtain rfl : i = x.cps.size := by omega
    exact .inl ⟨Nat.le_refl _, hd σ H p⟩
theorem lc_sign {x : Str} {g : TG} {tt : TT} {te : TE} {vs : List Nat} {σ : L2.St} {H1 : Hp} {D : Addr} {Qd : Hp → Prop} (Pv : Nat → Hp → Prop) (h0 : Pv 0 (upd H1 D (.lst [])))
    (hs : ∀ i c H, x.cps[i]? = some c → Pv i H → g (.str ⟨#[c]⟩) (wipe σ vs) H fun σ2 H2 => wipe σ2 vs = wipe σ vs ∧ tt σ2 H2 fun b H3 =>
      if b = true then te σ2 H3 fun y H4 => ∃ acc, H4 D = some (.lst acc) ∧ acc.length < sizeLine ∧ Pv (i + 1) (upd H4 D (.lst (acc ++ [y]))) else Pv (i + 1) H3) (hd : ∀ H, Pv x.cps.size H → Qd H) :
    ∃ W : Nat → Nat → Hp → Prop, (∃ m, W 0 m (upd H1 D (.lst []))) ∧ ∀ i m H, W i m H → ((Its x).stop i H ∧ Qd H) ∨
      ((Its x).go i H ∧ ∃ Nx : Hp → Prop, (∀ H', Nx H' → ∃ m', m' < m ∧ W (i + 1) m' H') ∧ ∀ v H', (Its x).yld i H v H' → g v (wipe σ vs) H' fun σ2 H2 => wipe σ2 vs = wipe σ vs ∧ tt σ2 H2 fun b H3 =>
        if b = true then te σ2 H3 fun y H4 => ∃ acc, H4 D = some (.lst acc) ∧ acc.length < sizeLine ∧ Nx (upd H4 D (.lst (acc ++ [y]))) else Nx H3) := by
  refine ⟨fun i m H => m = x.cps.size - i ∧ i ≤ x.cps.size ∧ Pv i H, ⟨x.cps.size, rfl, Nat.zero_le _, h0⟩, ?_⟩
  rintro i m H ⟨rfl, hi, p⟩
  by_cases lt : i < x.cps.size
  · refine .inr ⟨lt, Pv (i + 1), fun H' p' => ⟨x.cps.size - (i + 1), by omega, rfl, lt, p'⟩, fun v H' y => ?_⟩
    obtain ⟨rfl, c, hc, rfl⟩ := y
    exact hs i c _ hc p
  · obtain rfl : i = x.cps.size := by omega
    exact .inl ⟨Nat.le_refl _, hd H p⟩
/-- the same of a comprehension without a test -/
theorem lcY_sign {x : Str} {g : TG} {te : TE} {vs : List Nat} {σ : L2.St} {H1 : Hp} {D : Addr} {Qd : Hp → Prop} (Pv : Nat → Hp → Prop) (h0 : Pv 0 (upd H1 D (.lst [])))
    (hs : ∀ i c H, x.cps[i]? = some c → Pv i H → g (.str ⟨#[c]⟩) (wipe σ vs) H fun σ2 H2 => wipe σ2 vs = wipe σ vs ∧ te σ2 H2 fun y H4 => ∃ acc, H4 D = some (.lst acc) ∧ acc.length < sizeLine ∧ Pv (i + 1) (upd H4 D (.lst (acc ++ [y])))) (hd : ∀ H, Pv x.cps.size H → Qd H) :
    ∃ W : Nat → Nat → Hp → Prop, (∃ m, W 0 m (upd H1 D (.lst []))) ∧ ∀ i m H, W i m H → ((Its x).stop i H ∧ Qd H) ∨
      ((Its x).go i H ∧ ∃ Nx : Hp → Prop, (∀ H', Nx H' → ∃ m', m' < m ∧ W (i + 1) m' H') ∧ ∀ v H', (Its x).yld i H v H' → g v (wipe σ vs) H' fun σ2 H2 => wipe σ2 vs = wipe σ vs ∧ tYes σ2 H2 fun b H3 =>
        if b = true then te σ2 H3 fun y H4 => ∃ acc, H4 D = some (.lst acc) ∧ acc.length < sizeLine ∧ Nx (upd H4 D (.lst (acc ++ [y]))) else Nx H3) :=
  lc_sign Pv h0 (fun i c H hc p => hs i c H hc p) hd
theorem lcY_list {K : PySem.W.Frag} {a : Addr} {xs : List V} {g : TG} {te : TE} {vs : List Nat} {σ : L2.St} {H1 : Hp} {D : Addr} {Qd : Hp → Prop} (Pv : Nat → Hp → Prop) (h0 : Pv 0 (upd H1 D (.lst []))) (hl : ∀ i H, i ≤ xs.length → Pv i H → SqL K H a xs)
    (hs : ∀ i x H, xs[i]? = some x → Pv i H → g x (wipe σ vs) H fun σ2 H2 => wipe σ2 vs = wipe σ vs ∧ te σ2 H2 fun y H4 => ∃ acc, H4 D = some (.lst acc) ∧ acc.length < sizeLine ∧ Pv (i + 1) (upd H4 D (.lst (acc ++ [y])))) (hd : ∀ H, Pv xs.length H → Qd H) :
    ∃ W : Nat → Nat → Hp → Prop, (∃ m, W 0 m (upd H1 D (.lst []))) ∧ ∀ i m H, W i m H → ((Itl K a).stop i H ∧ Qd H) ∨
      ((Itl K a).go i H ∧ ∃ Nx : Hp → Prop, (∀ H', Nx H' → ∃ m', m' < m ∧ W (i + 1) m' H') ∧ ∀ x H', (Itl K a).yld i H x H' → g x (wipe σ vs) H' fun σ2 H2 => wipe σ2 vs = wipe σ vs ∧ tYes σ2 H2 fun b H3 =>
        if b = true then te σ2 H3 fun y H4 => ∃ acc, H4 D = some (.lst acc) ∧ acc.length < sizeLine ∧ Nx (upd H4 D (.lst (acc ++ [y]))) else Nx H3) :=
  lc_list Pv h0 hl (fun i c H hc p => hs i c H hc p) hd
theorem lcY_tup {K : PySem.W.Frag} {a : Addr} {xs : List V} {g : TG} {te : TE} {vs : List Nat} {σ : L2.St} {H1 : Hp} {D : Addr} {Qd : Hp → Prop} (Pv : Nat → Hp → Prop) (h0 : Pv 0 (upd H1 D (.lst []))) (hl : ∀ i H, i ≤ xs.length → Pv i H → SqT K H a xs)
    (hs : ∀ i x H, xs[i]? = some x → Pv i H → g x (wipe σ vs) H fun σ2 H2 => wipe σ2 vs = wipe σ vs ∧ te σ2 H2 fun y H4 => ∃ acc, H4 D = some (.lst acc) ∧ acc.length < sizeLine ∧ Pv (i + 1) (upd H4 D (.lst (acc ++ [y])))) (hd : ∀ H, Pv xs.length H → Qd H) :
    ∃ W : Nat → Nat → Hp → Prop, (∃ m, W 0 m (upd H1 D (.lst []))) ∧ ∀ i m H, W i m H → ((Itt K a).stop i H ∧ Qd H) ∨
      ((Itt K a).go i H ∧ ∃ Nx : Hp → Prop, (∀ H', Nx H' → ∃ m', m' < m ∧ W (i + 1) m' H') ∧ ∀ x H', (Itt K a).yld i H x H' → g x (wipe σ vs) H' fun σ2 H2 => wipe σ2 vs = wipe σ vs ∧ tYes σ2 H2 fun b H3 =>
        if b = true then te σ2 H3 fun y H4 => ∃ acc, H4 D = some (.lst acc) ∧ acc.length < sizeLine ∧ Nx (upd H4 D (.lst (acc ++ [y]))) else Nx H3) :=
  lc_tup Pv h0 hl (fun i c H hc p => hs i c H hc p) hd
theorem exc_self {K : PySem.W.Frag} {S : Addr} (h1 : PySem.W.subIn K (.ref S) (.type "BaseException") = some true) (h2 : PySem.W.isClsIn K S = true) (h3 : PySem.W.typeIn K (.ref S) = some (.type "type")) (h4 : PySem.W.subIn K (.ref S) (.ref S) = some true) :
    PySem.W.exmOne K (.ref S) (.ref S) = some true := by
  have e1 : (PySem.W.subIn K (.ref S) (.type "BaseException") == some true) = true := by rw [h1] <;> rfl
  have e2 : ((PySem.W.clsIn K S).isSome && PySem.W.typeIn K (.ref S) == some (.type "type")) = true := by
    have h2' : (PySem.W.clsIn K S).isSome = true := h2
    rw [h2', h3] <;> rfl
  show (if (PySem.W.subIn K (.ref S) (.type "BaseException") == some true) = true then (if ((PySem.W.clsIn K S).isSome && PySem.W.typeIn K (.ref S) == some (.type "type")) = true then PySem.W.subIn K (.ref S) (.ref S) else none) else none) = some true
  rw [if_pos e1, if_pos e2]
  exact h4
end EvS
namespace EvS
open PySem PySem.Spec PyProof.Rows L2
theorem r65 {k : Nat} {A : Around} (r : Room k A) : A.units + 65 < cLine := by have := r.un; omega
theorem blkOk_nest {X : Cx} {s : Shared} {H : Hp} {scope inner : Scope} {C : Addr} {cl : List (Str × Addr)} {fp : List Addr} {own : List (Str × Nat)} {N : List Str} {sc : Scope} (hN : X.N = N) (hs : X.env.scope = sc) (h : blkC N (relS scope sc) inner own = true) :
    BlkOk (X.blk s H scope (compEnvC scope cl C X.env) fp).N (X.blk s H scope (compEnvC scope cl C X.env) fp).env.scope inner own := by
  subst hN hs
  exact blkOk_by h
end EvS

set_option Elab.async false
set_option linter.all false
set_option maxRecDepth 100000
set_option maxHeartbeats 4000000
/-! len(set(xs)), xs a list of different tuples of texts (fewer than 64) -/
namespace TxSet
open PySem PySem.Spec PyProof.Rows L2
section
variable {P : Program} {w : World} {A : Around} {E : Value → Shared → Prop} {s : Shared}
abbrev TwAt (P : Program) (w : World) (h : Heap) (k : List Str) (b : Addr) : Prop := IsTupleKey (PySem.strKind P w) h k b
abbrev hs (P : Program) (w : World) (k : List Str) : Int := tupleKeyHash (PySem.strKind P w) k
abbrev go0 (t : SetTable) (h : Int) : SetTable.Probe := runAt t.mask (SetTable.bits h % (t.mask + 1)) (SetTable.bits h)
theorem words_of {k : List Str} {vs : List Value} (h : ItemsAre (PySem.strKind P w) k vs) : ∀ v ∈ vs, ∃ z t, v = Value.str z t := by
  induction h with
  | nil => exact fun v hv => by cases hv
  | @cons k0 u ks us h1 _ ih =>
    intro v hv
    cases hv with
    | head =>
      obtain ⟨t, e⟩ := Value.isStrOf_shape h1
      exact ⟨k0, t, e⟩
    | tail _ q => exact ih v q
theorem noClass (n : Nat) (z : Str) (t : Tok) : ofAClassStatement n (.str z t) = pure false := by cases n <;> rfl
theorem byVal (n : Nat) (z : Str) (t : Tok) : hashByValue n (.str z t) = pure false := by cases n <;> rfl
theorem noClassT {k : List Str} {b : Addr} {Q : Bool → Shared → Prop} (hk : TwAt P w s.heap k b) (q : Q false s) : wpAny (model P w) A (ofAClassStatement 8 (.ref b)) Q E s := by
  have ty := hk.typeIs
  obtain ⟨o, its, n, ho, _, hd, hi⟩ := hk
  have all := words_of hi
  unfold ofAClassStatement
  refine wpAny_bind (wpAny_typeOf ty ?_)
  dsimp only
  simp only [show (("tuple" : String) == "tuple") = true by decide, if_true, Bool.not_true, Bool.false_eq_true, if_false]
  try refine wpAny_bind (wpAny_pure ?_)
  try simp only [Bool.not_true, Bool.false_eq_true, if_false]
  refine wpAny_bind (m := seqItems? (.ref b)) (wpAny_seqItems ho hd ?_)
  dsimp only
  refine wpAny_bind (m := forIn its _ _) ?_
  rw [← Array.forIn_toList]
  refine wpAny_forIn_list _ (fun l r s' => (∀ v ∈ l, ∃ z t, v = Value.str z t) ∧ r.1 = none ∧ s' = s) _ ?_ ?_ _ _ ⟨all, rfl, rfl⟩
  · rintro v l r s' ⟨hl, hr, rfl⟩
    obtain ⟨z, t, rfl⟩ := hl v List.mem_cons_self
    rw [noClass]
    refine wpAny_bind (wpAny_pure ?_)
    simp only [Bool.false_eq_true, if_false]
    exact wpAny_pure ⟨fun u hu => hl u (List.mem_cons_of_mem _ hu), rfl, rfl⟩
  · rintro ⟨r1, r2⟩ s' ⟨_, hr, rfl⟩
    simp only at hr
    subst hr
    exact wpAny_pure q
theorem byValT {k : List Str} {b : Addr} {Q : Bool → Shared → Prop} (hk : TwAt P w s.heap k b) (q : ∀ v, Q v s) : wpAny (model P w) A (hashByValue 8 (.ref b)) Q E s := by
  have ty := hk.typeIs
  obtain ⟨o, its, n, ho, _, hd, hi⟩ := hk
  have all := words_of hi
  unfold hashByValue
  refine wpAny_bind (wpAny_specialOf ty F.slot_tuple_hash.lookup ?_)
  refine wpAny_bind (m := seqItems? (.ref b)) (wpAny_seqItems ho hd ?_)
  refine wpAny_bind (m := forIn its _ _) ?_
  rw [← Array.forIn_toList]
  refine wpAny_forIn_list _ (fun l r s' => (∀ v ∈ l, ∃ z t, v = Value.str z t) ∧ r.1 = none ∧ s' = s) _ ?_ ?_ _ _ ⟨all, rfl, rfl⟩
  · rintro v l r s' ⟨hl, hr, rfl⟩
    obtain ⟨z, t, rfl⟩ := hl v List.mem_cons_self
    rw [byVal]
    refine wpAny_bind (wpAny_pure ?_)
    simp only [Bool.not_false, if_true]
    exact wpAny_pure (wpAny_pure (q false))
  · rintro ⟨r1, r2⟩ s' ⟨_, hr, rfl⟩
    simp only at hr
    subst hr
    exact wpAny_pure (q true)
/-- nothing of the table is shown -/
theorem hidden {k : List Str} {b : Addr} {Q : Bool → Shared → Prop} (hk : TwAt P w s.heap k b) {ys : List Value} (hy : ∀ y ∈ ys, ∃ c k2, y = Value.ref c ∧ TwAt P w s.heap k2 c) (q : Q false s) :
    wpAny (model P w) A (searchCouldBeSeen (.ref b) ys) Q E s := by
  unfold searchCouldBeSeen
  refine wpAny_bind (wpAny_forIn_list _ (fun l r s' => (∀ y ∈ l, ∃ c k2, y = Value.ref c ∧ TwAt P w s.heap k2 c) ∧ r.1 = none ∧ s' = s) _ ?_ ?_ _ _ ⟨hy, rfl, rfl⟩)
  · rintro v l r s' ⟨hl, hr, rfl⟩
    obtain ⟨c, k2, rfl, hc⟩ := hl v List.mem_cons_self
    have more := fun u hu => hl u (List.mem_cons_of_mem _ hu)
    dsimp only
    by_cases e : (b == c || (carriedByValue (.ref b) && carriedByValue (.ref c))) = true
    · exact wp_if_pos e (wpAny_pure ⟨more, rfl, rfl⟩)
    · refine wp_if_neg e (wpAny_bind (wpAny_eqIsQuiet_tuple hk ?_))
      simp only [Bool.not_true, Bool.false_eq_true, if_false]
      refine wpAny_bind (wpAny_eqIsQuiet_tuple hc ?_)
      simp only [Bool.not_true, Bool.false_eq_true, if_false]
      refine wpAny_bind (noClassT hk ?_)
      simp only [Bool.false_eq_true, if_false]
      refine wpAny_bind (noClassT hc ?_)
      simp only [Bool.false_eq_true, if_false]
      exact wpAny_pure ⟨more, rfl, rfl⟩
  · rintro ⟨r1, r2⟩ s' ⟨_, hr, rfl⟩
    simp only at hr
    subst hr
    exact wpAny_pure q
/-! ### the set as it grows -/
def cells (P : Program) (w : World) (L : List (Addr × List Str)) : List (Int × Value) := L.map fun p => (hs P w p.2, Value.ref p.1)
theorem cells_len (L : List (Addr × List Str)) : (cells P w L).length = L.length := List.length_map ..
structure Bag (P : Program) (w : World) (h : Heap) (a : Addr) (L : List (Addr × List Str)) (es : Array (Int × Value)) (ep : Nat) (t : SetTable) : Prop where
  obj : ∃ o, h.get? a = some o ∧ o.ExactSet ∧ o.data = .set es ep t
  cel : es.toList = cells P w L
  tab : TabOk t (L.map fun p => hs P w p.2)
  key : ∀ p ∈ L, TwAt P w h p.2 p.1
  lrn : w.params.followText "set-order" = true ∨ t.led = true
  rom : L.length * 5 < t.mask * 3
  sml : L.length < 64
variable {a : Addr} {L : List (Addr × List Str)} {es : Array (Int × Value)} {ep : Nat} {t : SetTable}
theorem Bag.size (B : Bag P w s.heap a L es ep t) : es.size = L.length := by
  rw [← Array.length_toList, B.cel, cells_len]
theorem Bag.places (B : Bag P w s.heap a L es ep t) : t.place.toList.length = L.length := by
  rw [Array.length_toList, B.tab.sz, List.length_map]
theorem Bag.fit (B : Bag P w s.heap a L es ep t) : t.fits es.size = true := by
  have q1 := B.places
  have q2 := B.size
  have q3 := B.rom
  rw [Array.length_toList] at q1
  unfold SetTable.fits SetTable.fill
  rw [B.tab.dm, Bool.and_eq_true, beq_iff_eq, decide_eq_true_eq]
  constructor
  · omega
  · show t.place.size + 0 ≤ t.mask
    omega
theorem Bag.cell (B : Bag P w s.heap a L es ep t) {i : Nat} {p : Addr × List Str} (h : L[i]? = some p) : es[i]? = some (hs P w p.2, Value.ref p.1) := by
  rw [← Array.getElem?_toList, B.cel]
  unfold cells
  rw [List.getElem?_map, h]
  rfl
theorem nth_plain (m : Nat) : ∀ (n : Nat) (p : SetTable.Probe), p.dummy = none → (nth m p n).dummy = none
  | 0, _, h => h
  | n + 1, p, h => by
    refine nth_plain m n (adv m p) ?_
    unfold adv
    split <;> exact h
/-- the search for what isn't there ends at the first empty slot of its way -/
theorem seek (B : Bag P w s.heap a L es ep t) {x : Addr} {k : List Str} (hx : TwAt P w s.heap k x) (hu : A.units < cLine) (away : ∀ p ∈ L, p.2 ≠ k) {K : Nat} (hK : K < 10 * SetTable.turns t.mask)
    (hfree : way t.mask (hs P w k) K ∉ t.place.toList) (hbusy : ∀ c, c < K → way t.mask (hs P w k) c ∈ t.place.toList) {Q : SetFound → Shared → Prop} (q : Q (.free (way t.mask (hs P w k) K) false) s) :
    ∀ (f c : Nat) (st : Option SetTable.Probe), st.getD (t.probeStart (hs P w k)) = nth t.mask (go0 t (hs P w k)) c → c ≤ K → K - c < f → wpAny (model P w) A (setSearchFrom a (.ref x) (hs P w k) true f st) Q E s := by
  intro f
  induction f with
  | zero => intro c st _ _ h; exact absurd h (Nat.not_lt_zero _)
  | succ f ih =>
    intro c st hst hc hf
    obtain ⟨o, ho, hex, hd⟩ := B.obj
    rw [setSearchFrom_succ]
    refine wpAny_bind (wpAny_setState_of ho hd B.fit ?_)
    dsimp only
    refine wp_if_neg (by unfold SetTable.gaveWay; rw [mask_odd B.tab.mok]; decide) ?_
    try refine wpAny_bind (wpAny_pure ?_)
    have shift : ∀ n, nth t.mask (nth t.mask (go0 t (hs P w k)) c) n = nth t.mask (go0 t (hs P w k)) (c + n) := fun n => (nth_add t.mask c _ n).symm
    have at_ : ∀ n, (nth t.mask (nth t.mask (go0 t (hs P w k)) c) n).j = way t.mask (hs P w k) (c + n) := fun n => congrArg SetTable.Probe.j (shift n)
    have back : c + (K - c) = K := by omega
    rcases go_spec t B.tab.ris B.tab.dm (fun i => (es[i]?.map (·.1)).getD 0) (hs P w k) (10 * SetTable.turns t.mask) (K - c) _ (nth_plain t.mask c _ rfl) (by omega) (fun n hn => by rw [at_]; exact hbusy _ (by omega)) (by rw [at_, back]; exact hfree) with ⟨n, i, hn, hi, _, _, e⟩ | ⟨_, e⟩
    · have e' : t.probe (fun i => (es[i]?.map (·.1)).getD 0) (hs P w k) (st.getD (t.probeStart (hs P w k))) = some (.candidate (way t.mask (hs P w k) (c + n)) i (nth t.mask (go0 t (hs P w k)) (c + (n + 1)))) := by
        rw [hst, ← at_, ← shift]
        exact e
      rw [e']
      dsimp only
      rw [at_] at hi
      have il : i < L.length := by
        rw [← B.places]
        exact (List.getElem?_eq_some_iff.mp hi).1
      obtain ⟨p, hp⟩ : ∃ p, L[i]? = some p := ⟨_, List.getElem?_eq_getElem il⟩
      have pin := List.mem_of_getElem? hp
      have other := away p pin
      have go : wpAny (model P w) A (searchRest a (.ref x) (hs P w k) true f es t (way t.mask (hs P w k) (c + n)) i (nth t.mask (go0 t (hs P w k)) (c + (n + 1)))) Q E s := by
        unfold searchRest
        rw [B.cell hp]
        dsimp only
        refine wpAny_bind (wpAny_holding (wpAny_eqBool_tuple hu (B.key p pin) hx ?_))
        refine wpAny_bind (wpAny_setState_of ho hd B.fit ?_)
        dsimp only
        refine wp_if_neg (by simp [other]) ?_
        try refine wpAny_bind (wpAny_pure ?_)
        rw [sameMem]
        dsimp only
        simp only [if_true, slot_live B.tab.ris hi, B.cell hp]
        refine wpAny_bind (wpAny_isSame_ref_self (wpAny_bind (wpAny_pure ?_)))
        simp only [if_true]
        refine wp_if_neg (by simp [other]) ?_
        exact ih (c + (n + 1)) _ rfl (by omega) (by omega)
      by_cases hl : t.led = true
      · refine wp_if_neg (by simp [hl]) ?_
        try refine wpAny_bind (wpAny_pure ?_)
        exact go
      · refine wp_if_pos (by simp [hl]) (wpAny_bind (hidden hx (fun y hy => ?_) ?_))
        · obtain ⟨d, hd1, hd2⟩ := List.mem_map.mp hy
          have m1 : d ∈ es.toList := by
            have : d ∈ es ∧ d.1 = hs P w k := by simpa using hd1
            simpa using this.1
          rw [B.cel] at m1
          obtain ⟨p2, m2, e2⟩ := List.mem_map.mp m1
          exact ⟨p2.1, p2.2, by rw [← hd2, ← e2], B.key p2 m2⟩
        · refine wp_if_neg (by decide) ?_
          try refine wpAny_bind (wpAny_pure ?_)
          exact go
    · have e' : t.probe (fun i => (es[i]?.map (·.1)).getD 0) (hs P w k) (st.getD (t.probeStart (hs P w k))) = some (.empty (way t.mask (hs P w k) K) none) := by
        have z := at_ (K - c)
        rw [back] at z
        rw [hst, ← z]
        exact e
      rw [e']
      dsimp only
      exact wpAny_pure q
/-! ### the set grows by one -/
theorem still {h h' : Heap} {k : List Str} {c : Addr} {o : Obj} (hk : TwAt P w h k c) (ho : h.get? a = some o) (hd : o.data = .set es ep t) (sb : Heap.SameBut a h h') : TwAt P w h' k c := by
  obtain ⟨u, its, n, hu, hc, hi, hw⟩ := hk
  refine ⟨u, its, n, ?_, hc, hi, hw⟩
  rw [sb.2 c fun z => ?_]
  · exact hu
  · rw [z, ho] at hu
    rw [← Option.some.inj hu, hd] at hi
    cases hi
theorem range_get {α : Type} (L : List α) : ∀ n, n ≤ L.length → (List.range n).filterMap (fun i => L[i]?) = L.take n
  | 0, _ => rfl
  | n + 1, h => by
    have lt : n < L.length := h
    rw [List.range_succ, List.filterMap_append, range_get L n (Nat.le_of_lt lt), List.take_add_one, List.getElem?_eq_getElem lt]
    simp [List.getElem?_eq_getElem lt]
theorem chosen (hc : es.toList = cells P w L) : ∀ l : List Nat, (∀ i ∈ l, i < L.length) → l.filterMap (fun i => es[i]?) = cells P w (l.filterMap fun i => L[i]?) ∧ (l.filterMap fun i => L[i]?).map (fun p => hs P w p.2) = l.map fun i => (es.map (·.1)).getD i 0
  | [], _ => ⟨rfl, rfl⟩
  | i :: l, h => by
    obtain ⟨e1, e2⟩ := chosen hc l fun j hj => h j (List.mem_cons_of_mem _ hj)
    have il := h i List.mem_cons_self
    have gL : L[i]? = some L[i] := List.getElem?_eq_getElem il
    have gE : es[i]? = some (hs P w (L[i]).2, Value.ref (L[i]).1) := by
      rw [← Array.getElem?_toList, hc]
      unfold cells
      rw [List.getElem?_map, gL]
      rfl
    have gD : (es.map (·.1)).getD i 0 = hs P w (L[i]).2 := by
      have z : (es.map (·.1))[i]? = some (hs P w (L[i]).2) := by
        rw [Array.getElem?_map, gE]
        rfl
      rw [Array.getD_eq_getD_getElem?, z]
      rfl
    rw [List.filterMap_cons_some gE, List.filterMap_cons_some gL, e1, List.map_cons, List.map_cons, e2, gD]
    exact ⟨rfl, rfl⟩
/-- the table is laid anew, larger -/
theorem relaid_new {o : Obj} (ho : s.heap.get? a = some o) (hex : o.ExactSet) (hd : o.data = .set es ep t) (hc : es.toList = cells P w L) (hp : t.place.size = es.size) (hdm : t.dummies = #[]) (hfl : es.size ≤ t.mask)
    (key : ∀ p ∈ L, TwAt P w s.heap p.2 p.1) (ld : w.params.followText "set-order" = true ∨ t.led = true) (few : L.length < 64) {wanted M : Nat} (hw : SetTable.sizeAbove wanted - 1 = M) (hM : MaskOk M) (hw2 : SetTable.sizeAbove wanted ≤ 128)
    (hn : L.length * 5 < M * 3) {Q : Unit → Shared → Prop} (q : ∀ h' L' es' ep' t', Heap.SameBut a s.heap h' → Bag P w h' a L' es' ep' t' → L'.Perm L → Q () { s with heap := h' }) : wpAny (model P w) A (setRelay a wanted) Q E s := by
  have hl : es.size = L.length := by rw [← Array.length_toList, hc, cells_len]
  have hfit : t.fits es.size = true := by
    unfold SetTable.fits SetTable.fill
    rw [hdm, Bool.and_eq_true, beq_iff_eq, decide_eq_true_eq]
    exact ⟨hp, by show t.place.size + 0 ≤ t.mask; omega⟩
  have hsz : (es.map (·.1)).size = L.length := by rw [Array.size_map, hl]
  obtain ⟨t', ord, e, pm, T, em, el, _, _⟩ := relaid_ok t (hs := es.map (·.1)) (wanted := wanted) hw hM (by rw [hsz]; omega)
  rw [hsz] at pm
  obtain ⟨c1, c2⟩ := chosen (P := P) (w := w) (L := L) hc ord.toList fun i hi => List.mem_range.mp (pm.mem_iff.mp hi)
  have pL : (ord.toList.filterMap fun i => L[i]?).Perm L := by
    have z := pm.filterMap fun i => L[i]?
    rw [range_get L L.length (Nat.le_refl _), List.take_length] at z
    exact z
  generalize ord.toList.filterMap (fun i => L[i]?) = L2 at c1 c2 pL
  rw [← c2] at T
  have cl : (ord.filterMap (es[·]?)).toList = cells P w L2 := by first | (rw [Array.toList_filterMap]; exact c1) | simpa using c1
  have sz2 : (ord.filterMap (es[·]?)).size = es.size := by rw [← Array.length_toList, cl, cells_len, pL.length_eq, hl]
  rw [setRelay_eq]
  refine wpAny_bind (wpAny_setState_of ho hd hfit ?_)
  dsimp only
  refine wp_if_neg (by rw [sizeLine_eq]; omega) ?_
  try refine wpAny_bind (wpAny_pure ?_)
  rw [e]
  dsimp only
  refine wpAny_bind ?_
  refine wp_if_neg (by rw [sz2]; simp) ?_
  try refine wpAny_bind (wpAny_pure ?_)
  refine wpAny_pure ?_
  dsimp only
  refine wpAny_storeSet_of ho hd ?_ (by rw [sz2, hl, sizeLine_eq]; omega)
  have sb : Heap.SameBut a s.heap (s.heap.update a (Obj.putSet (ord.filterMap (es[·]?)) t')) := Heap.SameBut.update ..
  refine q _ L2 (ord.filterMap (es[·]?)) (ep + 1) t' sb ⟨⟨_, store_at ho hd, ⟨hex.1, hex.2.1, hex.2.2⟩, rfl⟩, cl, T, fun p hp => still (key p (pL.mem_iff.mp hp)) ho hd sb, by rw [el]; exact ld, by rw [pL.length_eq, em]; exact hn, by rw [pL.length_eq]; exact few⟩ pL
theorem add_new (B : Bag P w s.heap a L es ep t) {x : Addr} {k : List Str} (hx : TwAt P w s.heap k x) (hu : A.units < cLine) (away : ∀ p ∈ L, p.2 ≠ k) (few : L.length + 1 < 64) {Q : Bool → Shared → Prop}
    (q : ∀ h' L' es' ep' t', Heap.SameBut a s.heap h' → Bag P w h' a L' es' ep' t' → L'.Perm ((x, k) :: L) → Q true { s with heap := h' }) : wpAny (model P w) A (setAddHashed a (.ref x) (hs P w k)) Q E s := by
  obtain ⟨o, ho, hex, hd⟩ := B.obj
  have hl := B.size
  have rom := B.rom
  have lenT : (L.map fun p => hs P w p.2).length = L.length := List.length_map ..
  obtain ⟨K, hK, hfree, hbusy⟩ := B.tab.first (by rw [lenT]; omega) (hs P w k)
  have big : K < 100000 := by
    have z : 10 * SetTable.turns t.mask ≤ 1420 := by
      unfold SetTable.turns
      rcases B.tab.mok with e | e | e <;> omega
    omega
  unfold setAddHashed
  refine wpAny_holding ?_
  rw [show (100000 : Nat) = 99999 + 1 from rfl, setAddHashedIn_succ]
  refine wpAny_bind (wpAny_setState_of ho hd B.fit ?_)
  dsimp only
  refine wp_if_neg (by simp [byScan, Value.scannable]) ?_
  try refine wpAny_bind (wpAny_pure ?_)
  refine wpAny_bind (m := setSearch a (.ref x) (hs P w k) true) ?_
  unfold setSearch
  refine seek B hx hu away hK hfree hbusy ?_ 100000 0 none rfl (Nat.zero_le _) (by omega)
  dsimp only
  refine wpAny_bind (wpAny_setState_of ho hd B.fit ?_)
  dsimp only
  obtain ⟨g1, g2, g3, g4, g5, _, _, _, g9⟩ := B.tab.put hfree hbusy
  generalize hpt : t.put (way t.mask (hs P w k) K) = pt at g1 g3 g4 g5 g9 ⊢
  obtain ⟨t1, p⟩ := pt
  dsimp only at g1 g3 g4 g5 g9 ⊢
  subst g1
  generalize SetTable.below t.place (way t.mask (hs P w k) K) = p at g2 g3 ⊢
  have pm : (L.take p ++ (x, k) :: L.drop p).Perm ((x, k) :: L) := put_perm L p (x, k)
  have cl : (SetTable.insertAt es p (hs P w k, Value.ref x)).toList = cells P w (L.take p ++ (x, k) :: L.drop p) := by
    rw [SetTable.toList_insertAt, B.cel]
    unfold cells
    rw [List.map_append, List.map_cons, List.map_take, List.map_drop]
  have ht : (L.take p ++ (x, k) :: L.drop p).map (fun p => hs P w p.2) = (L.map fun p => hs P w p.2).take p ++ hs P w k :: (L.map fun p => hs P w p.2).drop p := by
    rw [List.map_append, List.map_cons, List.map_take, List.map_drop]
  rw [← ht] at g3
  rw [lenT] at g9
  generalize L.take p ++ (x, k) :: L.drop p = L1 at pm cl g3
  have len1 : L1.length = L.length + 1 := pm.length_eq
  have sz1 : (SetTable.insertAt es p (hs P w k, Value.ref x)).size = L.length + 1 := by rw [← Array.length_toList, cl, cells_len, len1]
  generalize SetTable.insertAt es p (hs P w k, Value.ref x) = es1 at cl sz1 ⊢
  -- behind the question whether its hash goes by value
  have rest : ∀ t2 : SetTable, TabOk t2 (L1.map fun p => hs P w p.2) → t2.mask = t.mask → t2.led = t.led → t2.fill = L.length + 1 → wpAny (model P w) A (do
      storeSet a es1 t2
      if !false && t2.tooFull then setRelay a (SetTable.grown (es.size + 1))
      return true) Q E s := fun t2 T2 m2 l2 f2 => by
    refine wpAny_bind (wpAny_storeSet_of ho hd ?_ (by rw [sz1, sizeLine_eq]; omega))
    have sb : Heap.SameBut a s.heap (s.heap.update a (Obj.putSet es1 t2)) := Heap.SameBut.update ..
    have ho1 := store_at (es' := es1) (t' := t2) ho hd
    generalize s.heap.update a (Obj.putSet es1 t2) = h1 at sb ho1 ⊢
    have key1 : ∀ p ∈ L1, TwAt P w h1 p.2 p.1 := fun p hp => by
      rcases List.mem_cons.mp (pm.mem_iff.mp hp) with e | hp
      · rw [e]
        exact still hx ho hd sb
      · exact still (B.key p hp) ho hd sb
    have ld1 : w.params.followText "set-order" = true ∨ t2.led = true := by rw [l2]; exact B.lrn
    by_cases hf : t2.tooFull = true
    · have full : (L.length + 1) * 5 ≥ t2.mask * 3 := by
        have z := hf
        unfold SetTable.tooFull at z
        rw [decide_eq_true_eq, f2] at z
        exact z
      have places : t2.place.size = es1.size := by
        have z := T2.sz
        rw [List.length_map, len1] at z
        rw [z, sz1]
      have two : (t.mask = 7 ∧ L.length = 4) ∨ (t.mask = 31 ∧ L.length = 18) := by
        rw [m2] at full
        rcases B.tab.mok with e | e | e <;> rw [e] at full rom
        · exact .inl ⟨e, by omega⟩
        · exact .inr ⟨e, by omega⟩
        · omega
      have laid : ∀ M, SetTable.sizeAbove (SetTable.grown (es.size + 1)) - 1 = M → MaskOk M → SetTable.sizeAbove (SetTable.grown (es.size + 1)) ≤ 128 → (L.length + 1) * 5 < M * 3 →
          wpAny (model P w) A (setRelay a (SetTable.grown (es.size + 1))) (fun _ s' => wpAny (model P w) A (pure true) Q E s') E { s with heap := h1 } := fun M z1 z2 z3 z4 => by
        refine relaid_new (s := { s with heap := h1 }) ho1 ⟨hex.1, hex.2.1, hex.2.2⟩ rfl cl places T2.dm (by rw [sz1, m2]; rcases two with ⟨y1, y2⟩ | ⟨y1, y2⟩ <;> omega) key1 ld1 (by rw [len1]; exact few) z1 z2 z3 (by rw [len1]; exact z4) ?_
        exact fun h2 L2 es2 ep2 t3 sb2 B2 pm2 => wpAny_pure (q h2 L2 es2 ep2 t3 (sb.trans sb2) B2 (pm2.trans pm))
      have fin : wpAny (model P w) A (setRelay a (SetTable.grown (es.size + 1))) (fun _ s' => wpAny (model P w) A (pure true) Q E s') E { s with heap := h1 } := by
        rcases two with ⟨_, y⟩ | ⟨_, y⟩
        · exact laid 31 (by rw [hl, y, size_20]) (.inr (.inl rfl)) (by rw [hl, y, size_20]; decide) (by omega)
        · exact laid 127 (by rw [hl, y, size_76]) (.inr (.inr rfl)) (by rw [hl, y, size_76]; decide) (by omega)
      first
        | (refine wpAny_bind ?_; refine wp_if_pos (by simp [hf]) ?_; exact fin)
        | (refine wp_if_pos (by simp [hf]) ?_; refine wpAny_bind ?_; exact fin)
    · have done := q h1 L1 es1 (ep + 1) t2 sb ⟨⟨_, ho1, ⟨hex.1, hex.2.1, hex.2.2⟩, rfl⟩, cl, T2, key1, ld1, (by
          have z := hf
          unfold SetTable.tooFull at z
          rw [decide_eq_true_eq, f2] at z
          rw [len1]
          omega), by rw [len1]; exact few⟩ pm
      first
        | (refine wp_if_neg (by simp [hf]) ?_; exact wpAny_pure done)
        | (refine wpAny_bind ?_; refine wp_if_neg (by simp [hf]) ?_; refine wpAny_pure ?_; exact wpAny_pure done)
  have both : ∀ v : Bool, wpAny (model P w) A (do
      storeSet a es1 (if v then t1 else { t1 with plain := false })
      if !false && (if v then t1 else { t1 with plain := false }).tooFull then setRelay a (SetTable.grown (es.size + 1))
      return true) Q E s := fun v => by
    cases v with
    | true => exact rest t1 g3 g4 g5 g9
    | false => exact rest { t1 with plain := false } ⟨g3.ris, g3.dm, g3.sz, g3.mok, g3.bd, g3.reach⟩ g4 g5 g9
  by_cases hpl : t1.plain = true
  · first
      | (refine wpAny_bind ?_; refine wp_if_pos hpl ?_; exact byValT hx both)
      | exact wp_if_pos hpl (wpAny_bind (byValT hx both))
  · first
      | (refine wpAny_bind ?_; refine wp_if_neg hpl ?_; exact wpAny_pure (both true))
      | exact wp_if_neg hpl (wpAny_bind (wpAny_pure (both true)))
/-! ### set(xs) -/
def fresh0 (w : World) : Obj := { cls := .type "set", dict := none, data := .set #[] 0 (.fresh 0 0 (!w.params.followText "set-order")) }
theorem bag0 {h : Heap} (ho : h.get? a = some (fresh0 w)) : Bag P w h a [] #[] 0 (.fresh 0 0 (!w.params.followText "set-order")) where
  obj := ⟨_, ho, ⟨rfl, rfl, rfl⟩, rfl⟩
  cel := rfl
  tab := ⟨List.Pairwise.nil, rfl, rfl, .inl rfl, fun x hx => (by cases hx), fun i h j hi => (by simp at hi)⟩
  key := fun p hp => (by cases hp)
  lrn := by
    show _ ∨ (!w.params.followText "set-order") = true
    cases w.params.followText "set-order"
    · exact .inr rfl
    · exact .inl rfl
  rom := by
    show 0 * 5 < 7 * 3
    decide
  sml := by
    show 0 < 64
    decide
theorem there {h h' : Heap} {k : List Str} {c : Addr} (hk : TwAt P w h k c) (kp : ∀ b o, h.get? b = some o → h'.get? b = some o) : TwAt P w h' k c := by
  obtain ⟨u, its, n, hu, more⟩ := hk
  exact ⟨u, its, n, kp c u hu, more⟩
theorem grow {I : Addr} {fp wr : List Addr} {G : Array GenState → Array GenState → Prop} {n : Nat} {Pv : Nat → Value → Prop} {St : Nat → Shared → Prop} {R : Result → Shared → Prop}
    (W : WalksS P w A.in1 I fp wr G n Pv St) (S : Addr) (nf : S ∉ fp) (ks : List (Addr × List Str)) (hn : ks.length = n) (few : n < 64) (diff : (ks.map (·.2)).Nodup) (hat : ∀ i v, Pv i v → ∃ p, ks[i]? = some p ∧ v = .ref p.1)
    (g : Heap) (hk : ∀ p ∈ ks, TwAt P w g p.2 p.1) (gS : g.get? S = none) (gw : ∀ b ∈ wr, g.get? b = none) (hu : A.in1.units < cLine) :
    ∀ (m i : Nat) (s : Shared), n - i = m → i ≤ n → St i s → (∀ b o, g.get? b = some o → s.heap.get? b = some o) → (∃ L es ep t, Bag P w s.heap S L es ep t ∧ L.Perm (ks.take i)) →
      (∀ s' L es ep t, Moved (S :: wr) G s s' → Bag P w s'.heap S L es ep t → L.Perm ks → R (.ok (.ret .none)) s') → codeAny (model P w) A (.builtin "set.update.loop" ⟨[.ref S, .ref I], []⟩) R s := by
  have nw : S ∉ wr := fun q => nf (W.sub _ q)
  have up : ∀ c ∈ wr, c ∈ S :: wr := fun c hc => List.mem_cons_of_mem _ hc
  have onward : ∀ {s s' : Shared}, Moved wr G s s' → (∀ b o, g.get? b = some o → s.heap.get? b = some o) → ∀ b o, g.get? b = some o → s'.heap.get? b = some o := fun mv kp b o e => by
    refine mv.heap b o (fun hb => ?_) (kp b o e)
    rw [gw b hb] at e
    cases e
  have hold : ∀ {s s' : Shared} {L : List (Addr × List Str)} {es : Array (Int × Value)} {ep : Nat} {t : SetTable} {i : Nat}, Moved wr G s s' → (∀ b o, g.get? b = some o → s'.heap.get? b = some o) → L.Perm (ks.take i) → Bag P w s.heap S L es ep t → Bag P w s'.heap S L es ep t := fun {s s' L es ep t i} mv kp pm B => by
    obtain ⟨o, ho, more⟩ := B.obj
    exact ⟨⟨o, mv.heap S o nw ho, more⟩, B.cel, B.tab, fun p hp => there (hk p (List.mem_of_mem_take (pm.mem_iff.mp hp))) kp, B.lrn, B.rom, B.sml⟩
  intro m
  induction m with
  | zero =>
    intro i s hm hi hst kp ⟨L, es, ep, t, B, pm⟩ hR
    obtain rfl : i = n := by omega
    refine codeAny_builtin F.entry_set_update_loop ?_
    rw [Around.under_plainId F.plain_set_update_loop _]
    refine wpAny_bind (m := pyNext (.ref I)) (W.done s _ _ hst fun s1 mv => ?_)
    have B1 := hold mv (onward mv kp) pm B
    rw [← hn, List.take_length] at pm
    exact wpAny_pure (hR s1 L es ep t (mv.mono up) B1 pm)
  | succ m ih =>
    intro i s hm hi hst kp ⟨L, es, ep, t, B, pm⟩ hR
    have lt : i < n := by omega
    refine codeAny_builtin F.entry_set_update_loop ?_
    rw [Around.under_plainId F.plain_set_update_loop _]
    refine wpAny_bind (m := pyNext (.ref I)) (W.item i s _ _ lt hst fun v s1 hP hst1 mv => ?_)
    obtain ⟨p, hp, rfl⟩ := hat i v hP
    have kp1 := onward mv kp
    have B1 := hold mv kp1 pm B
    have hx : TwAt P w s1.heap p.2 p.1 := there (hk p (List.mem_of_getElem? hp)) kp1
    have nxt : ks.take (i + 1) = ks.take i ++ [p] := by
      rw [List.take_add_one, hp]
      rfl
    have away : ∀ q ∈ L, q.2 ≠ p.2 := fun q hq e => by
      have d := diff.sublist (((List.take_sublist (i + 1) ks).map (·.2)))
      rw [nxt, List.map_append, List.nodup_append] at d
      exact d.2.2 q.2 (List.mem_map.mpr ⟨q, pm.mem_iff.mp hq, rfl⟩) p.2 (by simp) e
    have ll : L.length ≤ i := by
      rw [pm.length_eq, List.length_take]
      omega
    show wpAny _ A.in1 (holding [Value.ref p.1] (setAdd S (.ref p.1)) >>= _) _ _ s1
    refine wpAny_bind (wpAny_holding ?_)
    unfold setAdd
    refine wpAny_holding (wpAny_bind (wpAny_pyHash_tuple hu hx ?_))
    refine add_new (s := { s1 with toks := s1.toks + (p.2.length + 1) }) B1 hx hu away (by omega) fun h2 L2 es2 ep2 t2 sb B2 pm2 => ?_
    have pm3 : L2.Perm (ks.take (i + 1)) := by
      rw [nxt]
      exact pm2.trans ((pm.cons p).trans (List.perm_append_singleton p (ks.take i)).symm)
    have kp2 : ∀ b o, g.get? b = some o → h2.get? b = some o := fun b o e => by
      refine (sb.2 b fun z => ?_).trans (kp1 b o e)
      rw [z, gS] at e
      cases e
    refine wpAny_pure ⟨plainId_quiet F.plain_set_update_loop _, ih (i + 1) _ (by omega) lt (W.frame _ s1 _ _ hst1 (Nat.le_add_right _ _) fun c hc o e => ?_) kp2 ⟨L2, es2, ep2, t2, B2, pm3⟩ fun s3 L3 es3 ep3 t3 mv3 B3 pm4 => ?_⟩
    · rw [sb.2 c (fun z : c = S => nf (by rw [← z]; exact hc))]
      exact e
    · refine hR s3 L3 es3 ep3 t3 (Moved.trans W.gtrans ((mv.mono up).then_heap (Nat.le_add_right _ _) fun c o hc e => ?_) mv3) B3 pm4
      rw [sb.2 c (fun z : c = S => hc (by rw [z]; exact List.mem_cons_self))]
      exact e
theorem call_setT {l : Addr} {its : Array Value} (ks : List (Addr × List Str)) {Q : Value → Shared → Prop} (hA : A.handled = none) (hl : s.heap.IsList l its) (hit : its.toList = ks.map fun p => Value.ref p.1) (hk : ∀ p ∈ ks, TwAt P w s.heap p.2 p.1)
    (few : ks.length < 64) (diff : (ks.map (·.2)).Nodup) (hu : A.units + 3 < cLine)
    (q : ∀ (h' : Heap) (tk : Nat) L es ep t, Bag P w h' s.heap.objs.size L es ep t → L.Perm ks → (∀ c o, c < s.heap.objs.size → s.heap.get? c = some o → h'.get? c = some o) → Q (.ref s.heap.objs.size) { s with heap := h', toks := tk }) :
    wpAny (model P w) A (call (.type "set") [.ref l]) Q E s := by
  have hlen : ks.length = its.size := by
    have z := congrArg List.length hit
    rw [Array.length_toList, List.length_map] at z
    exact z.symm
  obtain ⟨c, tl, hmro⟩ := PySem.F.called_set.mro
  have hmade := PySem.F.called_set.made
  have hsub := PySem.F.called_set.sub
  refine wpAny_call (codeAny_of_tree ?_)
  show wpAny _ _ (callAny (.type "set") _) _ _ _
  refine wpAny_pure ⟨Code.quiet_builtin _ (by decide +kernel), codeAny_builtin PySem.F.entry_type_call ?_⟩
  rw [Around.under_plain (weight_type_call_type "set" [.ref l] []) rfl]
  have h1 := PySem.F.called_set.notType
  have h2 := PySem.F.called_set.canCreate
  have hct := PySem.F.typeCall_set_1 (.ref l)
  repeat (any_goals (first | assumption | wp_step))
  refine codeAny_mono (code_set_led1 (.ref l) (E := E) (Q₁ := fun b s₁ => b = .ref s.heap.objs.size ∧ s₁ = { s with heap := s.heap.push (fresh0 w) }) ⟨rfl, rfl⟩) fun r s₁ hr => ?_
  cases r with
  | error e => exact hr
  | ok fl =>
    cases fl with
    | ret b =>
      obtain ⟨rfl, rfl⟩ := hr
      have hS : (s.heap.push (fresh0 w)).get? s.heap.objs.size = some (fresh0 w) := Heap.get?_push_size _ rfl
      have hT : Shared.TypeIs { s with heap := s.heap.push (fresh0 w) } (.ref s.heap.objs.size) "set" := ⟨_, hS, rfl⟩
      have hli := PySem.F.called_set.init.lookup
      have hbi := PySem.F.called_set.init.bind (.ref s.heap.objs.size)
      repeat (any_goals (first | assumption | wp_step))
      refine codeAny_mono (codeAny_call_builtin (R := wants (fun r s₂ => r = .none ∧ ∃ h' tk L es ep t, s₂ = { s with heap := h', toks := tk } ∧ Bag P w h' s.heap.objs.size L es ep t ∧ L.Perm ks ∧
          (∀ c o, c < s.heap.objs.size → s.heap.get? c = some o → h'.get? c = some o)) E) PySem.F.called_set.init.plain PySem.F.entry_set_init (check_set_init_1 hT ?_)) fun r₂ s₂ hr₂ => ?_
      · obtain ⟨ol, hol, hcl, nl, hdl⟩ := hl
        obtain ⟨ocls, odict, odata, oslots⟩ := ol
        simp only at hcl hdl
        subst hcl; subst hdl
        have hol' : (s.heap.push (fresh0 w)).get? l = some { cls := .type "list", dict := odict, data := .seq its nl, slots := oslots } := Heap.get?_push_of_some _ hol
        have hsls := PySem.F.sub_list_set
        have hslf := PySem.F.sub_list_frozenset
        have hne : (Value.type "list" == Value.type "dict") = false := by decide
        have hl1 : (s.heap.push (fresh0 w)).IsList l its := ⟨_, hol', rfl, nl, rfl⟩
        unfold Builtin.«set.__init__» noKeywords Builtin.Frozenset.updateFrom
        generalize hPI : pyIter = PI
        wp_walk
        subst hPI
        refine wpAny_pyIter_list hl1 ?_
        refine wpAny_bind (wpAny_runValue ?_)
        have hlS : l < s.heap.objs.size := Heap.lt_size hol
        have h3 : A.in1.in1.in1.handled = none := by simp [hA]
        have nI : l ≠ (s.heap.push (fresh0 w)).objs.size := by
          rw [Heap.size_push]; exact Nat.ne_of_lt (Nat.lt_succ_of_lt hlS)
        have nS : s.heap.objs.size ∉ [(s.heap.push (fresh0 w)).objs.size, l] := by
          rw [Heap.size_push]; simp only [List.mem_cons, List.mem_singleton, List.not_mem_nil, or_false, not_or]
          exact ⟨Nat.ne_of_lt (Nat.lt_succ_self _), Nat.ne_of_gt hlS⟩
        have none_of : ∀ b, s.heap.objs.size ≤ b → s.heap.get? b = none := fun b hb => by
          cases z : s.heap.get? b with
          | none => rfl
          | some o => exact absurd (Nat.lt_of_lt_of_le (Heap.lt_size z) hb) (Nat.lt_irrefl _)
        have hat : ∀ (i : Nat) (v : Value), its[i]? = some v → ∃ p, ks[i]? = some p ∧ v = .ref p.1 := fun i v hv => by
          have z : its.toList[i]? = some v := by rw [Array.getElem?_toList]; exact hv
          rw [hit, List.getElem?_map] at z
          cases y : ks[i]? with
          | none =>
            rw [y] at z
            cases z
          | some p =>
            rw [y] at z
            exact ⟨p, rfl, (Option.some.inj z).symm⟩
        refine grow ((Walks.list h3 _ l nI its).toS) s.heap.objs.size nS ks hlen (by rw [← hlen]; exact few) diff hat s.heap hk (none_of _ (Nat.le_refl _)) (fun b hb => none_of b (by
            rw [List.mem_singleton.mp hb, Heap.size_push]
            exact Nat.le_succ _)) hu (its.size - 0) 0 _ (by omega) (Nat.zero_le _) ⟨⟨_, Heap.get?_push_size _ rfl, rfl, rfl⟩, (hl1.push _)⟩ (fun b o e => Heap.get?_push_of_some _ (Heap.get?_push_of_some _ e)) ?hS0 ?hR
        case hS0 =>
          have hget : ((s.heap.push (fresh0 w)).push { cls := .type "list_iterator", data := .fields #[.ref l, .int 0 0] }).get? s.heap.objs.size = some (fresh0 w) := Heap.get?_push_of_some _ hS
          exact ⟨[], #[], 0, _, bag0 hget, by rw [List.take_zero]⟩
        case hR =>
          intro s' L es ep t mv B pm
          obtain ⟨h', g', d', tk', os'⟩ := s'
          obtain rfl : g' = s.gens := mv.gens
          obtain rfl : d' = s.drawn := mv.drawn
          obtain rfl : os' = s.os := mv.os
          show wpAny _ _ _ _ _ _
          refine wpAny_pure ?_
          show wpAny _ _ (ret Value.none) _ _ _
          refine wpAny_pure ⟨rfl, h', tk', L, es, ep, t, rfl, B, pm, fun c o hc e => ?_⟩
          have n1 : c ≠ s.heap.objs.size := Nat.ne_of_lt hc
          have n2 : c ≠ (s.heap.push (fresh0 w)).objs.size := by
            rw [Heap.size_push]; exact Nat.ne_of_lt (Nat.lt_succ_of_lt hc)
          exact mv.heap c o (by simp only [List.mem_cons, List.mem_singleton, List.not_mem_nil, or_false, not_or]; exact ⟨n1, n2⟩) (Heap.get?_push_of_some _ (Heap.get?_push_of_some _ e))
      · cases r₂ with
        | error e => exact hr₂
        | ok fl₂ =>
          cases fl₂ with
          | ret r =>
            obtain ⟨rfl, h', tk, L, es, ep, t, rfl, B, pm, hk'⟩ := hr₂
            repeat (any_goals (first | assumption | wp_step))
            exact q _ _ _ _ _ _ B pm hk'
          | _ => exact hr₂.elim
    | _ => exact hr.elim
end
section
variable {X : Cx}
/-- len(set(xs)), xs a list of different tuples of texts -/
def tLenSetT (K : PySem.W.Frag) (ta : TE) : TE := fun σ H Q => ta σ H fun x H1 => ∃ (l : Addr) (ks : List (Addr × List Str)), x = .ref l ∧ SqL K H1 l (ks.map fun p => V.ref p.1) ∧ (∀ p ∈ ks, SqT K H1 p.1 (p.2.map V.str)) ∧ ks.length < 64 ∧ (ks.map (·.2)).Nodup ∧ Q (.int (ks.length : Nat)) H1
theorem words_is {P : Program} {w : World} : ∀ {k : List Str} {us : List Value}, Vals (k.map V.str) us → ItemsAre (PySem.strKind P w) k us
  | [], _, .nil => .nil
  | z :: k, _, .cons r t => by
    obtain ⟨tk, rfl⟩ := r
    exact .cons (strKind_is _ _ _ _) (words_is t)
theorem refs_is : ∀ {ks : List (Addr × List Str)} {us : List Value}, Vals (ks.map fun p => V.ref p.1) us → us = ks.map fun p => Value.ref p.1
  | [], _, .nil => rfl
  | p :: ks, _, .cons r t => by
    cases r
    rw [List.map_cons, ← refs_is t]
theorem pe_lenSetT {a : Expr} {ta : TE} {p p2 q pos : Pos} {k : Nat} (hr : Room k X.A) (hc : X.calm = true) (hg : Gl X "len") (hm : X.mg "len" = none) (hg2 : Gl X "set") (hm2 : X.mg "set" = none) (ha : PE X a ta)
    (na : starEach [a] X.env = (false, eval a X.env) :: starEach [] X.env := by rfl) : PE X (.Call (.Name "len" p) [.Call (.Name "set" p2) [a] [] q] [] pos) (tLenSetT X.K ta) := by
  refine ⟨fun pins s σ H Q I h => ?_⟩
  refine Call_ (ld_blt I hg hm boot_len ?_)
  refine PyProof.Rows.callWith_builtin1 (PyProof.Rows.args_cons ?_ rfl) rfl rfl
  refine Call_ (ld_blt I hg2 hm2 boot_set ?_)
  refine PyProof.Rows.callWith_type1 (PyProof.Rows.args_cons (thn (ha.run pins s σ H _ I h) fun v s1 ⟨x, H1, I1, r1, q1⟩ => PyProof.Rows.args_nil ?_) na) na rfl
  obtain ⟨l, ks, rfl, hq, ht, few, diff, q1⟩ := q1
  cases r1
  obtain ⟨its, r, pl, hz⟩ := I1.list hq
  have hu := hr.units
  refine call_setT (P := X.prog) (w := X.w) ks (I1.ok.hd hc) pl.isList (by simpa using refs_is r) (fun p hp => ?_) few diff (by omega) fun h' tk L es ep t B pm hk => ?_
  · obtain ⟨ts, rt, pt, _⟩ := I1.tuple (ht p hp)
    obtain ⟨o, ho, hcl, n, hd⟩ := pt
    exact ⟨o, ts.toArray, n, ho, hcl, hd, words_is rt⟩
  · refine PyProof.Rows.args_nil ?_
    obtain ⟨o, ho, hex, hd⟩ := B.obj
    have I2 : Inv X pins σ H1 { s1 with heap := h', toks := tk } := I1.kept fun c o e => hk c o (Heap.lt_size e) e
    have hn : es.size = ks.length := by
      have z : es.size = L.length := by rw [← Array.length_toList, B.cel, cells_len]
      rw [z, pm.length_eq]
    refine call_len_set ho hex hd (B.fit (s := { s1 with heap := h', toks := tk })) (by rw [hn] <;> omega) ⟨.int (ks.length : Nat), H1, I2.tok _, ⟨_, by rw [hn]⟩, q1⟩
end
end TxSet

set_option Elab.async false
set_option linter.all false
set_option maxRecDepth 100000
set_option maxHeartbeats 4000000
/-! An own exception's __init__ over ValueError: super().__init__(e), then one more statement. -/
namespace SupX
open PySem PySem.Spec PyProof.Rows L2 NdefX LamX
/-- the body of such an __init__ -/
abbrev supBody (e : Expr) (st2 : Stmt) (p0 p1 p2 p3 p4 : Pos) : List Stmt :=
  [.Expr (.Call (.Attribute (.Call (.Name "super" p0) [] [] p1) "__init__" p2) [e] [] p3) p4, st2]
abbrev supF (name qual : Str) (params : Arguments) (body : List Stmt) (scope : Scope) (cc cda : Addr) : NF := ⟨name, qual, params, body, scope, [("__class__", cc)], cda⟩
/-- what the written part says of it -/
structure SupC (P : Program) (K : PySem.W.Frag) (mg : Str → Option Value) (C f cc cda : Addr) (name qual arg2 : Str) (params : Arguments) (body : List Stmt) (scope : Scope) (fd : FuncData) : Prop where
  lk : ∃ (oc : Value) (od : Option Addr) (dV kV doc pm : Value) (an : Option Addr) (ct : Value) (osl : Array (Option Value)), fd = PySem.W.fnX name qual params body scope [("__class__", cc)] dV kV doc pm an (.ref cda) ct ∧ K.lookup f = some ⟨oc, od, .func fd, osl⟩
  hcd : PySem.W.codeIn K (.ref cda) qual = true
  code : ∃ (ccl : Value) (cdd : Option Addr) (vs : Array Value) (ccs : Array (Option Value)) (file : Str) (tf : Tok), K.lookup cda = some ⟨ccl, cdd, .fields vs, ccs⟩ ∧ vs[2]? = some (.str file tf) ∧ ((P.main.file : Str) == file) = true
  cell : ∃ (cl : Value) (cld : Option Addr) (csl : Array (Option Value)), K.lookup cc = some ⟨cl, cld, .cell (some (.ref C)), csl⟩
  S : NScope ["self", arg2, "__class__"] ["self", arg2] ["__class__"] scope
  hp : ∃ ar : Arg, (params.posonlyargs ++ params.args).head? = some ar ∧ ar.arg = "self"
  hsup : scope.names.lookup ("super" : Str) = some .globalImplicit
  T : OexC K C
  cls : ∃ cd, PySem.W.clsIn K C = some cd
  sub : PySem.W.mroIn K C (.ref C) = some true
  ve : PySem.W.subIn K (.ref C) (.type "ValueError") = some true
  along : PySem.W.ks_superIn K C C "__init__" = some (some (.builtin "ValueError.__init__"))
  opq : PySem.W.nsIn K cStatics "thirdparty.any" = some none
  msup : mg "super" = none
  top : (P.main.scope.names.lookup ("super" : Str)).isSome = false
section
variable {P : Program} {w : World} {K : PySem.W.Frag} {mg : Str → Option Value} {base : Heap} {CX : CXT} {k : Nat}
/-- the built-in __init__ by its method-wrapper, upon an exception that is being made -/
theorem call_mw {X : Cx} {pins : List (Addr × Obj)} {σ : L2.St} {H : Hp} {s : Shared} {a C u : Addr} {us : List Value} {A : Around} {E : Value → Shared → Prop} {Q : Value → Shared → Prop} (T : OexC X.K C) (I : Inv X pins σ H s) (e : H a = some (exo a C none)) (hl : us.length ≤ sizeLine)
    (hu : s.heap.get? u = some (PySem.W.kxs_mw "ValueError.__init__" a)) (h : ∀ s', Inv X pins σ H s' → Q .none s') : wpAny (model X.prog X.w) A (call (.ref u) us) Q E s := by
  obtain ⟨nm, q, N, bs, bm, sn, sub, ab, col, dd, k0, k1, k2, k3, k5, hC, hbm⟩ := T.cls
  obtain ⟨t1, ho⟩ := exo_at I.hok e
  have hC' := I.kIn _ _ hC
  obtain ⟨hh, g, d, t, os⟩ := s
  refine wpAny_call (codeAny_of_tree ?_)
  show wpAny _ A.in1 (callAny (.ref u) ⟨us, []⟩) _ _ _
  simp only [callAny]
  refine wpAny_bind (wpAny_load hu ?_)
  simp only [PySem.W.kxs_mw, show (Value.type "method-wrapper" == Value.type "method" || Value.type "method-wrapper" == Value.type "builtin_function_or_method" || Value.type "method-wrapper" == Value.type "method-wrapper") = true by decide, if_true]
  refine PySem.W.KFB.if_so (by decide) ?_
  refine wpAny_bind (PySem.W.check_bound_init PySem.F.excBase_ValueError.toExcCallFacts hC' ho rfl ?_)
  refine wpAny_bind (wpAny_pure (wpAny_pure ?_))
  refine ⟨plainId_quiet PySem.F.excBase_ValueError.init.plain _, codeAny_builtin PySem.F.excBase_ValueError.initEntry ?_⟩
  refine PySem.W.exc_init_tree (cls := .ref C) (t0 := t1) (dv := none) (c2 := .none) (c3 := .none) (b4 := .bool false) ho hl (fun h' k hx _ => ?_)
  have J := I.write (t' := t) (x := a) (e := a) (o := exo a C none) (by rw [e]; exact True.intro) (.inl rfl) k ⟨_, hx⟩ (exo_ok hx)
  have eu : upd H a (exo a C none) = H := by
    funext b
    by_cases hb : b = a
    · rw [hb, upd_same, e]
    · rw [upd_ne hb]
  rw [eu] at J
  exact h _ J
theorem callWith_mw {M : Model} {A : Around} {E : Value → Shared → Prop} {s : Shared} {i : String} {u x : Addr} {pos : Pos} {env : Env} {e : Expr} {Q : Value → Shared → Prop}
    (h : wpAny M A (spliced (backTo pos (starEach [e] env))) (fun vs s₁ => PySem.W.KxsAt i u x s₁.heap ∧ wpAny M A (call (.ref u) vs) Q E s₁) E s)
    (he : starEach [e] env = [(false, eval e env)]) : wpAny M A (callWith pos (.ref u) [] (backTo pos (starEach [e] env)) []) Q E s := by
  rw [he] at h ⊢
  refine PySem.W.kxs_callWith (i := i) (x := x) rfl ?_
  exact PySem.Calls.evalArgs_plain h
/-- THE RULE: such an __init__ as a def -/
theorem sup_ok {C f cc cda : Addr} {name qual arg2 : Str} {params : Arguments} {e : Expr} {st2 : Stmt} {p0 p1 p2 p3 p4 : Pos} {scope : Scope} {fd : FuncData} {sp : Sp} (W0 : SupC P K mg C f cc cda name qual arg2 params (supBody e st2 p0 p1 p2 p3 p4) scope fd)
    (len : ∀ vs H Q E, sp vs H Q E → vs.length = 2)
    (hbody : ∀ (A : Around) (outer : List Env) (s : Shared) (H : Hp) (vs : List V) (Q : VK) (E : XK), Room k (A.deeper (envF (supF name qual params (supBody e st2 p0 p1 p2 p3 p4) scope cc cda) f s.heap.objs.size)) → sp vs H Q E →
      ∃ (a : Addr) (y : V) (ta : TA) (t2 : TS), vs = [.ref a, y] ∧ H a = some (exo a C none) ∧ PA (ncx CX P w K mg base ["self", arg2, "__class__"] (supF name qual params (supBody e st2 p0 p1 p2 p3 p4) scope cc cda) f A outer s H E) [e] ta ∧
        PS (ncx CX P w K mg base ["self", arg2, "__class__"] (supF name qual params (supBody e st2 p0 p1 p2 p3 p4) scope cc cda) f A outer s H E) st2 t2 ∧
        ta (startF ["self", arg2, "__class__"] vs [none]) H fun ws H1 => ws.length ≤ 1000 ∧ H1 a = some (exo a C none) ∧ t2 { nx := fun _ H' => Q .non H', rt := Q } (startF ["self", arg2, "__class__"] vs [none]) H1)
    (he : ∀ env : Env, starEach [e] env = [(false, eval e env)]) (hcall : ∀ env : Env, ∃ pl : Sem Bool, eval (.Call (.Attribute (.Call (.Name "super" p0) [] [] p1) "__init__" p2) [e] [] p3) env = (do
      let ov ← attributeBase (.Call (.Name "super" p0) [] [] p1) "__init__" env (eval (.Call (.Name "super" p0) [] [] p1) env)
      standAt p2.atName
      let (f, first) ← holding [ov] (getMethod ov "__init__" pl)
      callWith p3 f first (backTo p3 (starEach [e] env)) [])) : FnOk P w K mg base CX (k + 1) f fd ["self", arg2] sp := by
  obtain ⟨⟨oc, od, dV, kV, doc, pm, an, ct, osl, rfl, lk⟩, hcd, ⟨ccl, cdd, cvs, ccs, file, tf, hcode, hvs, hfile⟩, ⟨cl, cld, csl, hcell⟩, S, ⟨ar, hp1, hp2⟩, hsup, T, ⟨cd, hcls⟩, hsub, hve, halong, hopq, msup, htop⟩ := W0
  refine ⟨len, fun A outer s H args us vs Q E hr e0 hb r hsp => ?_⟩
  have hl := len _ _ _ _ hsp
  have KX : K.In s.heap := e0.mod.kin.keeps fun b o e => (e0.bs b o e).1
  have lim : s.heap.NoLimit := e0.mod.nolimit.keeps fun b o e => (e0.bs b o e).1
  refine PySem.ks_codeAny_call_defAt (body := supBody e st2 p0 p1 p2 p3 p4) hr.depth (KX _ _ lk) rfl lim (PySem.W.codeRec_of KX hcd) rfl hb S.nocell (fun ⟨n, _⟩ hy => S.par n (List.of_mem_zip hy).1) (fun h₁ hns kp => ?_) S.co S.gen S.kind
  obtain ⟨a, y, ta, t2, rfl, ea, hPA, hPS, hq⟩ := hbody A outer s H vs Q E (hr.deeper _) hsp
  have kb : ∀ b o, base.get? b = some o → H b = none := fun b o z => (e0.bs b o z).2
  have kcell : s.heap.IsCell cc (some (.ref C)) := ⟨_, KX _ _ hcell, rfl⟩
  have nocc : H cc = none := kb cc _ (e0.mod.kin _ _ hcell)
  have CA : CellsAt (supF name qual params (supBody e st2 p0 p1 p2 p3 p4) scope cc cda).cl ["__class__"] [none] s.heap H := by
    have one : ∀ {y c}, List.lookup y [(("__class__" : Str), cc)] = some c → y = "__class__" ∧ c = cc := fun {y c} z => by
      rw [List.lookup_cons] at z
      by_cases q : (y == ("__class__" : Str)) = true
      · rw [q] at z
        exact ⟨eq_of_beq q, (Option.some.inj z).symm⟩
      · rw [Bool.not_eq_true] at q
        rw [q] at z
        cases z
    refine ⟨rfl, fun y c z => ?_, fun x y c z1 z2 => (one z1).1.trans (one z2).1.symm, fun i y hi => ?_⟩
    · obtain ⟨_, rfl⟩ := one z
      exact ⟨nocc, _, kcell⟩
    · cases i with
      | zero =>
        obtain rfl := Option.some.inj hi
        exact ⟨cc, by rw [List.lookup_cons, show (("__class__" : Str) == ("__class__" : Str)) = true from beq_self_eq_true _], fun v hv => by simp at hv⟩
      | succ i => simp at hi
  have I : L2.Inv (ncx CX P w K mg base ["self", arg2, "__class__"] (supF name qual params (supBody e st2 p0 p1 p2 p3 p4) scope cc cda) f A outer s H E) [] (startF ["self", arg2, "__class__"] [.ref a, y] [none]) H { s with heap := h₁, toks := s.toks + (((["self", arg2] : List Str).zip us)).length } := inv_startN (F := supF name qual params (supBody e st2 p0 p1 p2 p3 p4) scope cc cda) S hr.hd e0 hl r CA hns kp
  have K1 : K.In h₁ := KX.keeps kp
  obtain ⟨ua, uy, rfl, ra, ry⟩ : ∃ ua uy, us = [ua, uy] ∧ ua = Value.ref a ∧ RelV y uy := by
    cases r with
    | cons h1 h2 =>
      cases h2 with
      | cons h3 h4 =>
        cases h4
        exact ⟨_, _, rfl, h1, h3⟩
  subst ra
  have hself : ((["self", arg2] : List Str).zip [Value.ref a, uy]).reverse.lookup ar.arg = some (.ref a) := by
    rw [hp2]
    have nd := S.nd
    exact zip_look (i := 0) (ps := (["self", arg2] : List Str)) (us := [Value.ref a, uy]) (by
      have q := nd.sublist (List.take_sublist 2 (["self", arg2, "__class__"] : List Str))
      exact q) rfl rfl
  obtain ⟨t1, hoe⟩ := exo_at I.hok ea
  obtain ⟨oC, hC1, hC2⟩ : ∃ oC, h₁.get? C = some oC ∧ oC.data = .cls cd := by
    unfold PySem.W.clsIn at hcls
    split at hcls
    · rename_i c d cd' sl ho
      cases hcls
      exact ⟨_, K1 _ _ ho, rfl⟩
    · cases hcls
  have hself2 : scope.names.lookup ar.arg = some .local := by rw [hp2]; exact S.par "self" List.mem_cons_self
  obtain ⟨mb, hm1, hm2⟩ := I.mod.blt
  obtain ⟨pl, hpl⟩ := hcall (envF (supF name qual params (supBody e st2 p0 p1 p2 p3 p4) scope cc cda) f s.heap.objs.size)
  refine PySem.ks_wpAt_execs_cons (PySem.ks_wpAt_Expr_any (PySem.ks_wpAt_MethodCall ?_ hpl) (hi := I.quiet))
  refine PySem.ks_wpAt_super_base (f := f) hsup (S.frk "__class__" List.mem_cons_self) (by decide) rfl (kp _ _ (KX _ _ lk)) rfl hp1 rfl (K1 _ _ hcode) rfl hvs hfile htop ?_
  refine PySem.W.ks_loadName_global S.kind hsup (Calls.loadGlobal_builtin (I.mod.glob.keeps I.bk) msup (hm1.keeps I.bk) ((hm2 "super" (by decide)).trans (show bootBuiltins "super" = some (.type "super") by decide +kernel)) ⟨rfl, ?_⟩)
  refine wpAny_loadName_free S.kind (S.frk "__class__" List.mem_cons_self) rfl ⟨_, K1 _ _ hcell, rfl⟩ ?_
  refine wpAny_loadName_local S.kind hself2 hns hself ?_
  refine PySem.ks_wpAny_isType_cls hC1 hC2 ⟨rfl, ?_⟩
  refine PySem.ks_wpAny_call_super hC1 hC2 hoe rfl (fun c z => by cases z) (PySem.W.looks_mroIn K1 hsub) (fun h2 hso k2 => ?_)
  have K2 : K.In h2 := K1.keeps k2
  have I2 := I.kept (h' := h2) (t' := s.toks + (((["self", arg2] : List Str).zip [Value.ref a, uy])).length) k2
  have IA : PySem.W.InstAt h2 a _ C none := ⟨k2 _ _ hoe, rfl, rfl, trivial⟩
  have halong' : PySem.W.alongIn K "__init__" ((cd.mro.dropWhile (· != .ref C)).drop 1) = some (some (.builtin "ValueError.__init__")) := by
    unfold PySem.W.ks_superIn at halong
    rw [hcls] at halong
    exact halong
  refine PySem.W.kxs_getMethod PySem.W.kxs_ValueError hso (PySem.W.looks_opaque K2 hopq) (l₀ := cd.mro) (fun A Q E s k q => wpAny_bind ((PySem.W.looks_clsIn K2 hcls) A _ E s k (wpAny_pure q))) rfl K2 halong' (IA.type.andThen (PySem.W.looks_subIn K2 hve)) (PySem.W.ks_ne K2 IA hcls) (by decide) ?_
  have k3 : ∀ b o, h2.get? b = some o → (h2.push (PySem.W.kxs_mw "ValueError.__init__" a)).get? b = some o := fun b o z => Heap.get?_push_of_some _ z
  have I3 := I2.kept (h' := h2.push (PySem.W.kxs_mw "ValueError.__init__" a)) (t' := s.toks + (((["self", arg2] : List Str).zip [Value.ref a, uy])).length + 1) k3
  have hu : (h2.push (PySem.W.kxs_mw "ValueError.__init__" a)).get? h2.objs.size = some (PySem.W.kxs_mw "ValueError.__init__" a) := Heap.get?_push_size _ rfl
  have I4 := I3.pins_of (pins' := [(h2.objs.size, PySem.W.kxs_mw "ValueError.__init__" a)]) fun p hp => by
    obtain rfl := List.mem_singleton.mp hp
    refine ⟨hu, I2.hok.fresh (Nat.le_refl _), fun z => ?_, I2.nofs (Nat.le_refl _), fun v z => by cases z⟩
    have := I2.lt
    rw [← z] at this
    exact absurd this (Nat.lt_irrefl _)
  refine callWith_mw (i := "ValueError.__init__") (x := a) (thn (hPA.run p3 _ _ _ H _ I4 hq) fun us' s5 ⟨vs', H5, I5, r5, hlen, ea5, q5⟩ => ⟨(I5.pin _ (List.mem_append_right _ List.mem_cons_self)).1, ?_⟩) (he _)
  have hlen' : us'.length ≤ sizeLine := by
    rw [← Paired.length r5, sizeLine_eq]
    omega
  refine call_mw (X := ncx CX P w K mg base ["self", arg2, "__class__"] (supF name qual params (supBody e st2 p0 p1 p2 p3 p4) scope cc cda) f A outer s H E) T I5 ea5 hlen' (I5.pin _ (List.mem_append_right _ List.mem_cons_self)).1 (fun s6 I6 => ?_)
  have I7 := I6.pins_of (pins' := []) fun p hp => by cases hp
  refine wpAt_of_wpAny (wpAny_mono ((pss_one hPS).run [] s6 _ H5 _ I7 q5) (fun fl s' hs => ?_) fun e s' hs => hs)
  have fin : ∀ {σ' : L2.St} {H' : Hp} {v : V} {u : Value}, L2.Inv (ncx CX P w K mg base ["self", arg2, "__class__"] (supF name qual params (supBody e st2 p0 p1 p2 p3 p4) scope cc cda) f A outer s H E) [] σ' H' s' → L2.RelV v u → Q v H' → CE outer P w H s Q u s' :=
    fun {σ' H' v u} J rv q => ⟨v, H', J.os, J.bare, J.base, J.hok, rv, q⟩
  cases fl with
  | ret u =>
    obtain ⟨v, σ', H', J, rv, q⟩ := hs
    exact fin J rv q
  | next =>
    obtain ⟨σ', H', J, q⟩ := hs
    exact fin (v := V.non) (u := Value.none) J rfl q
  | brk =>
    obtain ⟨_, _, _, q⟩ := hs
    exact False.elim q
  | cont =>
    obtain ⟨_, _, _, q⟩ := hs
    exact False.elim q
end
end SupX

set_option Elab.async false
set_option linter.all false
set_option maxRecDepth 100000
set_option maxHeartbeats 4000000
namespace SupX
open PySem PySem.Spec PyProof.Rows L2 NdefX LamX
/-- isinstance(e, c), e the exception that the suite holds, with or without a dict of its own -/
def rIsX (K : PySem.W.Frag) (a : Addr) (cls : Value) (d : Option Addr) : List V → Hp → VK → Prop := fun xs H Q => ∃ (c : V) (cv : Value) (b : Bool) (D : Addr), xs = [.ref a, c] ∧ cls = .ref D ∧ ExcC K D ∧ (∀ u, L2.RelV c u → u = cv) ∧ PySem.W.kitOne K (.ref D) cv = some b ∧ (∀ dd, d = some dd → ∃ fs, H dd = some (.xd fs)) ∧ Q (.bl b) H
theorem call_isX {X : Cx} {a : Addr} {cls : Value} {d : Option Addr} {oe : Obj} {pn : List (Addr × Obj)} (hz : Zc cls d oe) (hf : ∃ vs, oe.data = .fields vs) : CallR (X.suite a ((a, oe) :: pn)) (.builtin "isinstance") (rIsX X.K a cls d) := by
  intro pins s σ H xs us Q I r h
  obtain ⟨c, cv, b, D, rfl, rfl, C, hcv, e, hd, q⟩ := h
  cases r with
  | cons rx rr =>
    cases rr with
    | cons rt rr =>
      cases rr
      cases rx
      obtain rfl := hcv _ rt
      obtain ⟨hget, _⟩ := I.pin (a, oe) (List.mem_append_left _ List.mem_cons_self)
      obtain ⟨vs, hv⟩ := hf
      obtain ⟨od, J⟩ : ∃ od, PySem.W.InstAt s.heap a oe D od := by
        have no : PySem.W.notCls oe = true := by unfold PySem.W.notCls; rw [hv]
        cases hdd : d with
        | none => exact ⟨none, hget, hz.1, no, by rw [hz.2, hdd]; trivial⟩
        | some dd =>
          obtain ⟨fs, hx⟩ := hd dd hdd
          have hx' : ObjOk X.prog X.w H s.heap dd (.xd fs) := I.hok dd _ hx
          obtain ⟨mA, ⟨o, es, ep, ho, _⟩, _⟩ := hx'
          exact ⟨some o, hget, hz.1, no, by rw [hz.2, hdd]; exact ho⟩
      have hcl : (PySem.W.clsIn X.K D).isSome = true := by
        obtain ⟨cd, hc, _⟩ := PySem.W.any_some C.hd
        rw [hc]
        rfl
      exact PySem.W.kia_one (PySem.W.kitx_exc hcl C.hg C.hk C.hs C.ha C.hn C.ht C.hm) I.kIn J e (fun z => nomatch z) fun tk => ⟨.bl b, H, I.kept (t' := tk) fun _ _ z => z, rfl, q⟩
/-- such an __init__ that keeps its one argument as the field fld -/
def spKeep (C : Addr) (fld : Str) : Sp := fun vs H Q _ => ∃ (a : Addr) (y : V), vs = [.ref a, y] ∧ (∃ z : Str, y = .str z ∧ z.length ≤ 100000 ∨ ∃ i : Int, y = .int i ∧ i.natAbs.log2 < 1920) ∧ H a = some (exo a C none) ∧
  ∀ dx, H dx = none → dx ≠ a → Q .non (upd (upd H dx (exd dx [(fld, y)])) a (exo a C (some dx)))
/-- C(e): what its making asks behind the argument -/
theorem keep_post {C : Addr} {fld : Str} {y : V} {H1 : Hp} {Q : XK} (hy : ∃ z : Str, y = .str z ∧ z.length ≤ 100000 ∨ ∃ i : Int, y = .int i ∧ i.natAbs.log2 < 1920) (q : ∀ d H', H1 d = none → Evl.Ex H1 H' → H' d = some (.xd [(fld, y)]) → Q (.ref C) (some d) H') :
    ([y] : List V).length ≤ 1000 ∧ ∀ a, H1 a = none → spKeep C fld (.ref a :: ([y] ++ [])) (upd H1 a (exo a C none))
      (fun v H2 => v = .non ∧ ∃ (d : Addr) (fs : List (Str × V)), H2 a = some (exo a C (some d)) ∧ H2 d = some (exd d fs) ∧ H1 d = none ∧ Q (.ref C) (some d) (upd (L2.del H2 a) d (.xd fs))) (fun _ _ _ => False) := by
  refine ⟨by show 1 ≤ 1000; decide, fun a ha => ⟨a, y, rfl, hy, upd_same, fun dx hd ne => ⟨rfl, dx, [(fld, y)], upd_same, ?_, ?_, ?_⟩⟩⟩
  · rw [upd_ne ne, upd_same]
  · rw [upd_ne ne] at hd
    exact hd
  · have hd1 : H1 dx = none := by rw [upd_ne ne] at hd; exact hd
    refine q dx _ hd1 (fun b o hb => ?_) upd_same
    have nb : b ≠ dx := fun z => by rw [z, hd1] at hb; cases hb
    have na : b ≠ a := fun z => by rw [z, ha] at hb; cases hb
    rw [upd_ne nb, L2.del_ne na, upd_ne na, upd_ne nb, upd_ne na]
    exact hb
theorem pmk_keep {X : Cx} {x : Str} {C fI : Addr} {k : Nat} {fd : FuncData} {e : Expr} {es : List Expr} {ta : TA} {p pos : Pos} {ps : List Str} {fld : Str} (T : OexC X.K C) (iC : PySem.W.findIn X.K (.ref C) "__init__" = some (some (.ref fI))) (tI : PySem.W.typeIn X.K (.ref fI) = some (.type "function"))
    (F1 : FnOk X.prog X.w X.K X.mg X.base CX0 k fI fd ps (spKeep C fld)) (hr : Room (k + 1) X.A) (hb : Binds X.K fd ps []) (hg : Gl X x) (hm : X.mg x = some (.ref C)) (ha : PA X (e :: es) ta)
    (hdb : (x == ("__debug__" : Str)) = false := by decide) (he : starEach (e :: es) X.env = (false, eval e X.env) :: starEach es X.env := by rfl) (hpl : (backTo pos (starEach es X.env)).any (·.1) = false := by rfl) :
    PMk X (.Call (.Name x p) (e :: es) [] pos) (tMkO C (spKeep C fld) [] ta) :=
  pmk_oex T iC tI F1 hr hb .nil pass0 hg hm ha hdb he hpl
end SupX

set_option Elab.async false
set_option linter.all false
set_option maxRecDepth 100000
set_option maxHeartbeats 4000000
namespace SupX
open PySem PySem.Spec PyProof.Rows L2
/-- o.m(..) where a wish may look at the caller's slots -/
def tMeT (C : Addr) (m : Str) (sp : Sp) (E : L2.St → XK) (ta : TE) (t : TA) : TE := fun σ H Q =>
  ta σ H fun x H1 => ∃ a dx fs, x = .ref a ∧ H1 a = some (.ins C dx fs) ∧ fs.lookup m = none ∧ t σ H1 fun vs H2 => sp (.ref a :: vs) H2 Q (E σ)
theorem pe_metT {X : Cx} {CX : CXT} {k : Nat} {f C : Addr} {fd : FuncData} {ps : List Str} {sp : Sp} {E : L2.St → XK} {m : Str} {pos apos : Pos} {e o : Expr} {es : List Expr} {ta : TE} {t : TA} {pl : Sem Bool}
    (he : PE X o ta) (c : Cls X.K C) (hm : Meth X.K C m f) (F : FnOk X.prog X.w X.K X.mg X.base CX k f fd ps sp) (hr : Room k X.A) (hb : Binds X.K fd ps []) (hx : ∀ σ, PassesAt CX X σ (E σ)) (ha : PA X (e :: es) t)
    (hst : starEach (e :: es) X.env = (false, eval e X.env) :: starEach es X.env := by rfl) (hpl : (backTo pos (starEach es X.env)).any (·.1) = false := by rfl)
    (ht : eval (.Call (.Attribute o m apos) (e :: es) [] pos) X.env = (do
      let ov ← eval o X.env
      standAt apos.atName
      let (f, first) ← holding [ov] (getMethod ov m pl)
      callWith pos f first (backTo pos (starEach (e :: es) X.env)) (backToKw pos (keywordEach [] X.env))) := by rfl) :
    PE X (.Call (.Attribute o m apos) (e :: es) [] pos) (tMeT C m sp E ta t) := by
  constructor
  intro pins s σ H Q I h
  apply PySem.W.methodCall_KW (pl := pl) _ ht
  apply thn (he.run pins s σ H _ I h)
  rintro u s1 ⟨x, H1, I1, rx, a, dx, fs, rfl, ea, l, q⟩
  cases rx
  apply getmeth_ok I1 ea c hm l
  refine PySem.W.callWith_K (first := [.ref a]) (h₀ := X.base) I.ok.mod.kin hm.kp ?_ hst hpl
  apply thn (ha.run pos pins s1 σ H1 _ I1 q)
  rintro us s2 ⟨vs, H2, I2, r, q2⟩
  exact ⟨I2.kIn, run_fnS (us := .ref a :: us) (vs := .ref a :: vs) F hr hb (hx σ) I2 (.cons rfl r) q2⟩
end SupX

set_option Elab.async false
set_option linter.all false
set_option maxRecDepth 100000
set_option maxHeartbeats 4000000
/-! Tuples whose object is known: their methods can be found. -/
namespace TupX
open PySem PySem.Spec PyProof.Rows L2
/-- a tuple whose object is known to be bare -/
def Bare (H : Hp) (a : Addr) (xs : List V) : Prop := ∃ o : Obj, H a = some (.frz o (.tup xs)) ∧ o.cls = .type "tuple" ∧ o.dict = none
theorem Bare.ex {H H' : Hp} {a : Addr} {xs : List V} (e : Evl.Ex H H') (h : Bare H a xs) : Bare H' a xs := by
  obtain ⟨o, h1, h2⟩ := h
  exact ⟨o, e _ _ h1, h2⟩
theorem Bare.sq {K : PySem.W.Frag} {H : Hp} {a : Addr} {xs : List V} (h : Bare H a xs) : SqT K H a xs := by
  obtain ⟨o, h1, _⟩ := h
  exact .inl (.inr ⟨o, h1⟩)
/-- tuple(a list) -/
def rTupF (K : PySem.W.Frag) : List V → Hp → VK → Prop := fun xs H Q => ∃ p ys, xs = [.ref p] ∧ SqL K H p ys ∧ ∀ l H', H l = none → Evl.Ex H H' → Bare H' l ys → Q (.ref l) H'
theorem call_tupF {X : Cx} : CallR X (.type "tuple") (rTupF X.K) := by
  intro pins s σ H xs us Q I r h
  obtain ⟨p, ys, rfl, hq, q⟩ := h
  obtain ⟨u, rfl, rx⟩ := vals1 r
  cases rx
  obtain ⟨its, vs, pl, hz⟩ := I.list hq
  have hlen := vs.length
  apply call_tuple_list pl.isList _ (by simp only [List.size_toArray] <;> omega)
  intro h' kp
  have I1 : Inv X pins σ H { s with heap := h' } := I.kept (t' := s.toks) kp
  have fr : H h'.objs.size = none := I1.hok.fresh (Nat.le_refl _)
  refine ⟨.ref h'.objs.size, upd H h'.objs.size (.frz { cls := .type "tuple", data := .seq its.toArray } (.tup ys)), I1.laid (t' := s.toks) (fun b o e => Heap.get?_push_of_some _ e) (Nat.le_refl _) ⟨?_, hz, its, vs, IsTup.new _ _⟩, rfl, q _ _ fr (Evl.Ex.new fr) ⟨_, upd_same, rfl, rfl⟩⟩
  exact Heap.get?_push_size _ rfl
/-- the receiver of a tuple's method -/
theorem bare_ty {X : Cx} {pins : List (Addr × Obj)} {σ : L2.St} {H : Hp} {s : Shared} {p : Addr} {xs : List V} (I : Inv X pins σ H s) (h : Bare H p xs) : s.TypeIs (.ref p) "tuple" ∧ ∀ a, Value.ref p = .ref a → ∃ ob, s.heap.get? a = some ob ∧ ob.dict = none := by
  obtain ⟨o, h1, hc, hd⟩ := h
  have g : s.heap.get? p = some o := (I.hok p _ h1).1
  exact ⟨⟨o, g, hc⟩, fun a e => by cases e; exact ⟨o, g, hd⟩⟩
def tBMt (r : V → List V → Hp → VK → Prop) (to : TE) (t : TA) : TE := fun σ H Q => to σ H fun x H1 => ∃ (p : Addr) (ys : List V), x = .ref p ∧ Bare H1 p ys ∧ t σ H1 fun xs H2 => r x xs H2 Q
theorem pe_bmT {X : Cx} {o e : Expr} {es : List Expr} {to : TE} {t : TA} {name : Str} {apos cpos : Pos} {id : String} {r : V → List V → Hp → VK → Prop} (pa : PlainAttrs "tuple") (slot : Slot "tuple" name id) (hty : typeOf (.builtin id) = pure (.type "method_descriptor")) (hm : MtR X id r) (ho : PE X o to) (ha : PA X (e :: es) t)
    (hbase : attributeBase o name X.env (eval o X.env) = eval o X.env := by rfl)
    (hfew : ((backTo cpos (starEach (e :: es) X.env)).all (fun x => !x.1) && (backToKw cpos (keywordEach [] X.env)).all (fun x => x.1.isSome)
      && decide ((e :: es).length + ([] : List Keyword).length + (if ([] : List Keyword).isEmpty then 0 else 1) < 30)) = true := by rfl)
    (hline : (apos.endLine == cpos.line) = true := by rfl) (hs : starEach (e :: es) X.env = (false, eval e X.env) :: starEach es X.env := by rfl) (hplain : (backTo cpos (starEach es X.env)).any (·.1) = false := by rfl) :
    PE X (.Call (.Attribute o name apos) (e :: es) [] cpos) (tBMt r to t) := by
  constructor
  intro pins s σ H Q I h
  apply wpAny_Call_method_late hbase hfew hline rfl
  apply thn (ho.run pins s σ H _ I h)
  rintro v s1 ⟨x, H1, I1, r1, p, ys, rfl, hb, q1⟩
  cases r1
  obtain ⟨h1, h2⟩ := bare_ty I1 hb
  refine ⟨"tuple", id, pa, slot, hty, h1, h2, ?_⟩
  have hA := ha.run cpos pins s1 σ H1 _ I1 q1
  rw [hs] at hA ⊢
  refine Calls.callWith_builtin (by show (false || (backTo cpos (starEach es X.env)).any (·.1)) = false; rw [hplain] <;> rfl) (Calls.evalArgs_plain ?_)
  apply thn hA
  rintro us s2 ⟨vs, H2, I2, r2, q2⟩
  exact hm pins s2 σ H2 (.ref p) vs (.ref p) us Q I2 rfl r2 q2
end TupX

set_option Elab.async false
set_option linter.all false
set_option maxRecDepth 100000
set_option maxHeartbeats 4000000
/-! repr in a law's own body: there it is known that no display is under way. -/
namespace GrdX
open PySem PySem.Spec PyProof.Rows L2 EvS
def rRepr (K : PySem.W.Frag) : List V → Hp → VK → Prop := fun xs H Q => ∃ (a : Addr) (d : PyData), xs = [.ref a] ∧ Dp K H (.ref a) d ∧ d.showable = true ∧ d.hasDict = false ∧ d.depth ≤ 20 ∧ d.shown.length ≤ sizeLine ∧ Q (.str d.shown) H
theorem call_repr {X : Cx} (hg : X.A.guards = some []) (hu : X.A.units + 64 < cLine) : CallR X (.builtin "repr") (rRepr X.K) := by
  intro pins s σ H xs us Q I r h
  obtain ⟨a, d, rfl, dp, hs, hd, dd, hz, q⟩ := h
  obtain ⟨u, rfl, rx⟩ := vals1 r
  obtain ⟨as, rd⟩ := Dp.reads I d (.ref a) u dp rx
  cases rx
  exact repr_of_reads' rd hs (PyData.noDict_hsm hd) hg (by omega) (fun _ _ e => e) (fun h' u tk hk => ⟨.str d.shown, H, I.kept hk, ⟨_, rfl⟩, q⟩) hz
/-- what a law's def promises where the claim itself calls it -/
def Says (P : Program) (w : World) (K : PySem.W.Frag) (mg : Str → Option Value) (base : Heap) (CX : CXT) (f : Addr) (sp : Sp) : Prop :=
  ∀ (s : Shared) (H : Hp) (u : Value) (v : V) (Q : VK) (E : XK), Env0 P w K mg base callerA [] s H → RelV v u → sp [v] H Q E → codeAny (model P w) callerA (.call (.ref f) ⟨[u], []⟩) (CR CX [] P w H s Q E) s
theorem says_at {CX : CXT} {P : Program} {w : World} {K : PySem.W.Frag} {mg : Str → Option Value} {base : Heap} {x qual p : Str} {params : Arguments} {body : List Stmt} {scope : Scope} {f : Addr} {fd : FuncData} {N : List Str} {k : Nat} {sp : Sp}
    {oc od dV kV doc pm an cdv ct osl} (look : K.lookup f = some ⟨oc, od, .func (PySem.W.fnOf x qual params body scope dV kV doc pm an cdv ct), osl⟩) (code : PySem.W.codeIn K cdv qual = true) (same : fd = PySem.W.fnOf x qual params body scope dV kV doc pm an cdv ct) (S : FnScope N [p] scope) (bind : ∀ (s : Shared) (u : Value), BindsTo s fd ⟨[u], []⟩ [(p, u)]) (room : Room (k + 1) callerA)
    (run : ∀ (s : Shared) (H : Hp) (v : V) (Q : VK) (E : XK), Room k (callerA.deeper (envOfC qual scope s.heap.objs.size f cdv)) → sp [v] H Q E →
      ∃ t, PSs (cxOf CX P w K mg base N qual scope f cdv callerA [] s H E) body t ∧ t { nx := fun _ G => Q .non G, rt := Q } (start N [v]) H) : Says P w K mg base CX f sp := by
  intro s H u v Q E env rel wish
  subst same
  have keep : ∀ {b : Addr} {o : Obj}, base.get? b = some o → s.heap.get? b = some o := fun g => (env.bs _ _ g).1
  have inK : K.In s.heap := env.mod.kin.keeps fun _ _ g => keep g
  have place : ∀ y ∈ [(p, u)], scope.names.lookup y.1 = some .local ∨ (scope.names.lookup y.1 = some .cell ∧ ((cellsFrom (s.heap.objs.size + 1) scope.names []).lookup y.1).isSome = true) := by
    intro y hy
    rw [List.mem_singleton.mp hy]
    exact (S.par p (List.mem_singleton.mpr rfl)).imp id fun c => ⟨c, PySem.W.cellsFrom_some _ _ _ (.inl c)⟩
  apply codeAny_call_function room.depth (inK _ _ look) rfl S.co S.gen rfl (PySem.W.codeRec_of inK code)
  apply bind s u
  apply wpAny_newFunctionEnv_cells S.kind place
  rintro en rfl s1 call
  constructor
  · exact (env.mod.nolimit.keeps fun _ _ g => keep g).keeps call.toInCall.keep
  apply codeAny_func
  obtain ⟨t, holds, ends⟩   := run s H v Q E (room.deeper _) wish
  apply wpAny_mono (holds.run [] s1 _ H _ (inv_start S room.hd env rfl (.cons rel .nil) call) ends)
  · intro fl s2 got
    match fl, got with
    | .ret _, ⟨v2, _, G, J, r2, q2⟩ => exact ⟨v2, G, J.os, J.bare, J.base, J.hok, r2, q2⟩
    | .next, ⟨_, G, J, q2⟩ => exact ⟨.non, G, J.os, J.bare, J.base, J.hok, rfl, q2⟩
    | .brk, ⟨_, _, _, q2⟩ => exact False.elim q2
    | .cont, ⟨_, _, _, q2⟩ => exact False.elim q2
  · exact fun _ _ z => z
theorem says_of {CX : CXT} {P : Program} {w : World} {K : PySem.W.Frag} {mg : Str → Option Value} {base : Heap} {x qual p : Str} {params : Arguments} {body : List Stmt} {scope : Scope} {dvs : List V} {kws : List (Str × V)} {f : Addr} {fd : FuncData} {N : List Str} {k : Nat} {sp : Sp}
    (D : FunD K x qual params body scope dvs kws f fd) (S : FnScope N [p] scope) (bind : ∀ (s : Shared) (u : Value), BindsTo s fd ⟨[u], []⟩ [(p, u)]) (room : Room (k + 1) callerA)
    (run : ∀ (cdv : Value) (s : Shared) (H : Hp) (v : V) (Q : VK) (E : XK), Room k (callerA.deeper (envOfC qual scope s.heap.objs.size f cdv)) → sp [v] H Q E →
      ∃ t, PSs (cxOf CX P w K mg base N qual scope f cdv callerA [] s H E) body t ∧ t { nx := fun _ G => Q .non G, rt := Q } (start N [v]) H) : Says P w K mg base CX f sp := by
  obtain ⟨oc, od, dV, kV, doc, pm, an, cdv, ct, osl, e, look, code, _⟩ := D.ex
  exact says_at (e ▸ look) code e S bind room (run cdv)
theorem says_fun {P : Program} {w : World} {K : PySem.W.Frag} {mg : Str → Option Value} {base : Heap} {x qual p : Str} {st : Stmt} {f : Addr} {fd : FuncData} {N : List Str} {k : Nat} {sp : Sp}
    (D : Fun K x qual st f fd) (S : FnScope N [p] (defScope st)) (bind : ∀ (s : Shared) (u : Value), BindsTo s fd ⟨[u], []⟩ [(p, u)]) (room : Room (k + 1) callerA)
    (run : ∀ (cdv : Value) (s : Shared) (H : Hp) (v : V) (Q : VK) (E : XK), Room k (callerA.deeper (envOfC qual (defScope st) s.heap.objs.size f cdv)) → sp [v] H Q E →
      ∃ t, PSs (cxOf CX0 P w K mg base N qual (defScope st) f cdv callerA [] s H E).nox (defBody st) t ∧ t { nx := fun _ G => Q .non G, rt := Q } (start N [v]) H) : Says P w K mg base CX0 f sp := by
  obtain ⟨oc, od, kV, doc, pm, an, cdv, ct, osl, e, look, code⟩ := D.ex
  refine says_at (e ▸ look) code e S bind room fun s H v Q E hr wish => ?_
  obtain ⟨t, holds, ends⟩ := run cdv s H v Q E hr wish
  exact ⟨t, holds.nox, ends⟩
/-- the script stands alone in an abstract heap, or it is an object of the module -/
theorem script {P : Program} {w : World} {K : PySem.W.Frag} {h : Heap} {a : Addr} {vs : List Value} {ns : List Int} (inK : K.In h) (at_ : h.get? a = some { cls := .type "list", data := .seq vs.toArray }) (are : IntsAre vs ns) (few : ns.length ≤ sizeLine) :
    ∃ H : Hp, SqL K H a (ns.map V.int) ∧ HOk P w H h ∧ ∀ b, H b = none ∨ (b = a ∧ K.lookup a = none ∧ ∃ o xs, H b = some (.frz o (.lst xs))) := by
  have size : (ns.map V.int).length ≤ sizeLine := by rw [List.length_map]; exact few
  cases look : K.lookup a with
  | some o =>
    have same := inK a o look
    rw [at_] at same
    injection same with same
    subst same
    exact ⟨fun _ => none, .inr ⟨_, vs.toArray, _, look, rfl, rfl, rfl, by rw [List.size_toArray, are.length]; exact few, vals_ints are⟩, (fun b o z => nomatch z), fun b => .inl rfl⟩
  | none =>
    let one : Hp := fun b => if b = a then some (.frz { cls := .type "list", data := .seq vs.toArray } (.lst (ns.map V.int))) else none
    have here : one a = some (.frz { cls := .type "list", data := .seq vs.toArray } (.lst (ns.map V.int))) := if_pos rfl
    have else_ : ∀ b, b ≠ a → one b = none := fun b n => if_neg n
    refine ⟨one, .inl (.inr ⟨_, here⟩), fun b o z => ?_, fun b => ?_⟩
    · rcases Classical.em (b = a) with rfl | n
      · rw [here] at z
        injection z with z
        subst z
        exact ⟨at_, size, vs, _, vals_ints are, at_⟩
      · rw [else_ b n] at z
        exact nomatch z
    · rcases Classical.em (b = a) with rfl | n
      · exact .inr ⟨rfl, rfl, _, _, here⟩
      · exact .inl (else_ b n)
theorem law_says {P : Program} {w : World} {K : PySem.W.Frag} {mg mb : Str → Option Value} {f a : Addr} {sp : Sp} {s : Shared} {vs : List Value} {ns : List Int} (inK : K.In s.heap) (glob : s.heap.Ns mainGlobals mg) (blt : s.heap.Ns builtinsNs mb) (boot : ∀ x : Str, x ≠ "__name__" → mb x = bootBuiltins x)
    (lim : s.heap.NoLimit) (gens : s.gens = #[]) (at_ : s.heap.get? a = some { cls := .type "list", data := .seq vs.toArray }) (are : IntsAre vs ns) (few : ns.length ≤ sizeLine) (say : ∀ base : Heap, K.In base → base.Ns mainGlobals mg → Says P w K mg base CX0 f sp)
    (wish : ∀ H : Hp, SqL K H a (ns.map V.int) → sp [.ref a] H (fun v _ => v = .bl true) fun _ _ _ => False) :
    codeAny (model P w) callerA (.call (.ref f) ⟨[.ref a], []⟩) (fun r s' => r = .ok (.ret (.bool true)) ∧ OldK s.heap s'.heap ∧ s'.os = s.os ∧ AllBare s'.gens) s := by
  obtain ⟨H, seq, ok, only⟩ := script (P := P) (w := w) inK at_ are few
  have free : ∀ {b : Addr} {o : Obj}, s.heap.get? b = some o → (b = a → K.lookup a = none → False) → H b = none := fun {b o} g n => (only b).elim id fun z => (n z.1 z.2.1).elim
  have dict : ∀ {b : Addr} {m : Str → Option Value}, s.heap.Ns b m → (hidT s.heap H).Ns b m := by
    rintro b m ⟨o, es, ep, g, d, r⟩
    refine ⟨o, es, ep, hidT_get g (free g fun z _ => ?_), d, r⟩
    rw [z, at_] at g
    injection g with g
    rw [← g] at d
    exact nomatch d
  have inB : K.In (hidT s.heap H) := fun b o g => hidT_get (inK b o g) (free (inK b o g) fun z n => by rw [z, n] at g; exact nomatch g)
  obtain ⟨mc, lim1, lim2⟩ := lim
  have env : Env0 P w K mg (hidT s.heap H) callerA [] s H := ⟨rfl, ⟨inB, dict glob, ⟨mb, dict blt, boot⟩, ⟨mc, dict lim1, lim2⟩⟩, fun _ _ g => of_hidT g, Nat.le_of_eq (hidT_size _ _), trivial, (fun b hb => nomatch hb), ok, .of_eq gens⟩
  apply codeAny_mono (say _ inB (dict glob) s H (.ref a) (.ref a) _ _ env rfl (wish H seq))
  intro r s' got
  match r, got with
  | .error _, z => exact False.elim z
  | .ok (.next), z => exact False.elim z
  | .ok (.brk), z => exact False.elim z
  | .ok (.cont), z => exact False.elim z
  | .ok (.ret u), ⟨v, G, os, bare, un, ok', rel, q⟩ =>
    have q : v = .bl true := q
    subst q
    have rel : u = Value.bool true := rel
    subst rel
    refine ⟨rfl, OldK.of_keep fun b o g => ?_, os, bare⟩
    rcases only b with n | ⟨_, _, oo, xs, t⟩
    · exact un.keep b o g n (by intro z; exact nomatch z) (by simp)
    · have before := (ok b _ t).1
      rw [g] at before
      injection before with before
      subst before
      exact (ok' b _ (un.frzs b _ _ t)).1
theorem walk {l : PySem.W.OpenLaw} {n : Nat} {q : Program} {loose : List Str} {XP : (Str → Option Value) → Heap → Prop} {YP : World → Heap → Prop} {d : DefRec} {K : Params → PySem.W.Frag} {sp : World → Sp} (most : l.most = some n) (small : n ≤ sizeLine) (plain : d.params.defaults = [])
    (part : ∀ (w : World) (h : Heap), YP w h → (K w.params).In h)
    (say : ∀ (w : World) (mg : Str → Option Value) (f : Addr) (h : Heap), (K w.params).In h → h.Ns mainGlobals mg → mg d.name = some (.ref f) → ∀ base : Heap, (K w.params).In base → base.Ns mainGlobals mg → Says l.prog w (K w.params) mg base CX0 f (sp w))
    (wish : ∀ (w : World) (H : Hp) (a : Addr) (ns : List Int), ns.length ≤ n → SqL (K w.params) H a (ns.map V.int) → sp w [.ref a] H (fun v _ => v = .bl true) fun _ _ _ => False) : PySem.W.WalkO q loose XP YP l.row.toRowW d [] (fun f vs => PySem.call f vs) := by
  apply Att.attach_call most plain
  intro w s0 s1 mg mb f o pm cd doc a vs ns G Y ho hd hcd hmg hobj are len gens
  exact law_says (part w _ Y) G.T.g G.T.b G.T.builtins G.T.nolimit gens hobj are (Nat.le_trans len small) (say w mg f _ (part w _ Y) G.T.g hmg) fun H sq => wish w H a ns len sq
end GrdX

set_option Elab.async false
set_option linter.all false
set_option maxRecDepth 100000
set_option maxHeartbeats 4000000
namespace MinD
open PySem L2 PySem.Spec PyProof.Rows
open AutoSeq1 (wpAny_loadPart')
theorem argBest_succ (bt : Nat → Nat → Bool) (j : Nat) : argBest bt (j + 1) = if bt (j + 1) (argBest bt j) = true then j + 1 else argBest bt j := by
  first | rfl | (show _ = _; simp [argBest])
/-- the items are compared so while the heap is good -/
def CmpG (prog : Program) (w : World) (A : Around) (P : Nat → Value → Prop) (bt : Nat → Nat → Bool) (Gd : Heap → Prop) : Prop := ∀ (i j : Nat) (vi vj : Value) (s : Shared) (Q E : Value → Shared → Prop), P i vi → P j vj → Gd s.heap → Q (.bool (bt i j)) s → wpAny (model prog w) A (richCompare .Lt vi vj) Q E s
def Keeps (wr : List Addr) (S : Addr) (Gd : Heap → Prop) : Prop := ∀ h h' : Heap, Gd h → (∀ b o, b ∉ wr → b ≠ S → h.get? b = some o → h'.get? b = some o) → Gd h'
section
variable {prog : Program} {w : World} {A : Around} {R : Result → Shared → Prop} {I : Addr} {fp wr : List Addr} {n : Nat} {P : Nat → Value → Prop} {St : Nat → Heap → Prop} {kw : List (Str × Value)} {Gd : Heap → Prop}
theorem loopD (W : Walks prog w A.in1 I fp wr n P St) (bt : Nat → Nat → Bool) (S : Addr) (hS : S ∉ fp) (C : CmpG prog w A.in1 P bt Gd) (hG : Keeps wr S Gd) :
    ∀ (k j : Nat) (s : Shared) (vb : Value) (c : Nat), n - (j + 1) = k → j + 1 ≤ n → St (j + 1) s.heap → Gd s.heap → P (argBest bt j) vb → s.heap.get? S = some { cls := .type "list", data := .seq #[vb, vb] c } →
      (∀ (v : Value) (h' : Heap) (tk : Nat), P (argBest bt (n - 1)) v → (∀ b o, b ∉ wr → b ≠ S → s.heap.get? b = some o → h'.get? b = some o) → R (.ok (.ret v)) { heap := h', gens := s.gens, drawn := s.drawn, toks := tk, os := s.os }) →
      codeAny (model prog w) A (.builtin "min.loop" ⟨[.ref I, .none, .ref S], kw⟩) R s := by
  intro k
  induction k with
  | zero =>
    intro j s vb c hk hj st gd pb hs K
    refine codeAny_builtin F.entry_min_loop ?_
    rw [Around.under_plainId F.plain_min_loop]
    obtain ⟨hp, g, d, tk, os⟩ := s
    unfold Builtin.«min.loop»

    have nx := fun Q E => W.done ⟨hp, g, d, tk, os⟩ Q E (by rw [show n = j + 1 by omega]; exact st)
    wp_step
    refine wpAny_bind ?_
    wp_step
    refine wpAny_bind ?_
    refine PySem.wpAny_loadPart' hs ?_
    wp_step
    wp_step
    wp_step
    refine wpAny_tryCatch ?_
    refine nx _ _ fun h' tk' fr => ?_
    dsimp only
    have hs' : h'.get? S = some { cls := .type "list", data := .seq #[vb, vb] c } := fr S _ (fun z => hS (W.sub S z)) hs
    wp_walk using (wpAny_updateSeq hs' rfl (hz := by decide) (_hz' := by decide)), PySem.wpAny_loadPart' hs'
    refine K vb _ _ (by rw [show n - 1 = j by omega]; exact pb) fun b o hb hne ho => ?_
    exact (Heap.get?_update_ne h' b S _ hne).trans (fr b o hb ho)
  | succ k ih =>
    intro j s vb c hk hj st gd pb hs K
    refine codeAny_builtin F.entry_min_loop ?_
    rw [Around.under_plainId F.plain_min_loop]
    obtain ⟨hp, g, d, tk, os⟩ := s
    unfold Builtin.«min.loop»
    have nx := fun Q E => W.item (j + 1) ⟨hp, g, d, tk, os⟩ Q E (by omega) st
    wp_step
    refine wpAny_bind ?_
    wp_step
    refine wpAny_bind ?_
    refine PySem.wpAny_loadPart' hs ?_
    wp_step
    wp_step
    wp_step
    refine wpAny_tryCatch ?_
    refine nx _ _ fun v h' tk' pv st' fr => ?_
    dsimp only
    have hs' : h'.get? S = some { cls := .type "list", data := .seq #[vb, vb] c } := fr S _ (fun z => hS (W.sub S z)) hs
    have gd' : Gd h' := hG _ _ gd fun b o hb _ ho => fr b o hb ho
    have cmp := fun Q E => C (j + 1) (argBest bt j) v vb ⟨h', g, d, tk', os⟩ Q E pv pb gd'
    wp_walk using PySem.wpAny_loadPart' hs'
    refine wpAny_tryCatch ?_
    wp_walk using cmp _ _
    cases e : bt (j + 1) (argBest bt j) with
    | true =>
      wp_walk using (wpAny_updateSeq hs' rfl (hz := by decide) (_hz' := by decide)), PySem.wpAny_loadPart' hs'
      refine ⟨plainId_quiet F.plain_min_loop _, ih (j + 1) _ v _ (by omega) (by omega) (W.frame _ _ _ st' fun b hb o ho => Heap.get?_update_of_ne _ (fun z => hS (z ▸ hb)) ho) (hG _ _ gd' fun b o _ hne ho => (Heap.get?_update_ne h' b S _ hne).trans ho) (by rw [argBest_succ, e]; exact pv) (Heap.get?_update_self (Obj.mapSeq fun _ => #[v, v]) hs' rfl) fun u h2 tk2 pu fr2 => K u h2 tk2 pu fun b o hb hne ho => ?_⟩
      exact fr2 b o hb hne ((Heap.get?_update_ne h' b S _ hne).trans (fr b o hb ho))
    | false =>
      wp_walk using PySem.wpAny_loadPart' hs'
      exact ⟨plainId_quiet F.plain_min_loop _, ih (j + 1) _ vb c (by omega) (by omega) st' gd' (by rw [argBest_succ, e]; exact pb) hs' fun u h2 tk2 pu fr2 => K u h2 tk2 pu fun b o hb hne ho => fr2 b o hb hne (fr b o hb ho)⟩
theorem firstD (W : Walks prog w A.in1 I fp wr n P St) (bt : Nat → Nat → Bool) (S : Addr) (hS : S ∉ fp) (C : CmpG prog w A.in1 P bt Gd) (hG : Keeps wr S Gd) (pos : 0 < n) {s : Shared} {c : Nat} (st : St 0 s.heap) (gd : Gd s.heap) (hs : s.heap.get? S = some { cls := .type "list", data := .seq #[] c })
    (K : ∀ (v : Value) (h' : Heap) (tk : Nat), P (argBest bt (n - 1)) v → (∀ b o, b ∉ wr → b ≠ S → s.heap.get? b = some o → h'.get? b = some o) → R (.ok (.ret v)) { heap := h', gens := s.gens, drawn := s.drawn, toks := tk, os := s.os }) :
    codeAny (model prog w) A (.builtin "min.loop" ⟨[.ref I, .none, .ref S], kw⟩) R s := by
  refine codeAny_builtin F.entry_min_loop ?_
  rw [Around.under_plainId F.plain_min_loop]
  obtain ⟨hp, g, d, tk, os⟩ := s
  unfold Builtin.«min.loop»
  have nx := fun Q E => W.item 0 ⟨hp, g, d, tk, os⟩ Q E pos st
  wp_step
  refine wpAny_bind ?_
  wp_step
  refine wpAny_bind ?_
  refine PySem.wpAny_loadPart' hs ?_
  wp_step
  wp_step
  wp_step
  refine wpAny_tryCatch ?_
  refine nx _ _ fun v h' tk' pv st' fr => ?_
  dsimp only
  have hs' : h'.get? S = some { cls := .type "list", data := .seq #[] c } := fr S _ (fun z => hS (W.sub S z)) hs
  wp_walk using (wpAny_updateSeq hs' rfl (hz := by decide) (_hz' := by decide)), PySem.wpAny_loadPart' hs'
  refine ⟨plainId_quiet F.plain_min_loop _, loopD W bt S hS C hG _ 0 _ v _ rfl (by omega) (W.frame _ _ _ st' fun b hb o ho => Heap.get?_update_of_ne _ (fun z => hS (z ▸ hb)) ho) (hG _ _ (hG _ _ gd fun b o hb _ ho => fr b o hb ho) fun b o _ hne ho => (Heap.get?_update_ne h' b S _ hne).trans ho) pv (Heap.get?_update_self (Obj.mapSeq fun _ => #[v, v]) hs' rfl) fun u h2 tk2 pu fr2 => K u h2 tk2 pu fun b o hb hne ho => ?_⟩
  exact fr2 b o hb hne ((Heap.get?_update_ne h' b S _ hne).trans (fr b o hb ho))
theorem noneD (W : Walks prog w A.in1 I fp wr 0 P St) (S : Addr) (hS : S ∉ fp) {x : Str} {dv : Value} {s : Shared} {c : Nat} (st : St 0 s.heap) (hs : s.heap.get? S = some { cls := .type "list", data := .seq #[] c })
    (K : ∀ (h' : Heap) (tk : Nat), (∀ b o, b ∉ wr → s.heap.get? b = some o → h'.get? b = some o) → R (.ok (.ret dv)) { heap := h', gens := s.gens, drawn := s.drawn, toks := tk, os := s.os }) :
    codeAny (model prog w) A (.builtin "min.loop" ⟨[.ref I, .none, .ref S], [(x, dv)]⟩) R s := by
  refine codeAny_builtin F.entry_min_loop ?_
  rw [Around.under_plainId F.plain_min_loop]
  obtain ⟨hp, g, d, tk, os⟩ := s
  unfold Builtin.«min.loop»
  have nx := fun Q E => W.done ⟨hp, g, d, tk, os⟩ Q E st
  wp_step
  refine wpAny_bind ?_
  wp_step
  refine wpAny_bind ?_
  refine PySem.wpAny_loadPart' hs ?_
  wp_step
  wp_step
  wp_step
  refine wpAny_tryCatch ?_
  refine nx _ _ fun h' tk' fr => ?_
  dsimp only
  wp_walk
  exact K _ _ fr
theorem best_is (bt : Nat → Nat → Bool) (val : Nat → Nat → Prop) (tr : ∀ a b c, val a b → val b c → val a c) (re : ∀ a, val a a) (yes : ∀ i j, bt i j = true → val i j) (no : ∀ i j, bt i j = false → val j i) : ∀ n, argBest bt n ≤ n ∧ ∀ j, j ≤ n → val (argBest bt n) j
  | 0 => ⟨Nat.le_refl _, fun j hj => by
    obtain rfl : j = 0 := by omega
    exact re _⟩
  | n + 1 => by
    obtain ⟨h1, h2⟩ := best_is bt val tr re yes no n
    rw [argBest_succ]
    cases e : bt (n + 1) (argBest bt n) with
    | true =>
      rw [if_pos rfl]
      refine ⟨Nat.le_refl _, fun j hj => ?_⟩
      by_cases c : j = n + 1
      · rw [c]; exact re _
      · exact tr _ _ _ (yes _ _ e) (h2 j (by omega))
    | false =>
      rw [if_neg (by decide)]
      refine ⟨by omega, fun j hj => ?_⟩
      by_cases c : j = n + 1
      · rw [c]; exact no _ _ e
      · exact h2 j (by omega)
theorem args_min (a dv : Value) : checkBuiltinCall "min" ⟨[a], [("default", dv)]⟩ = pure () := by kernel_rfl
/-- min(l, default=d) -/
theorem call_min {a : Addr} {items : Array Value} {s : Shared} {dv : Value} {bt : Nat → Nat → Bool} {Q E : Value → Shared → Prop} (hh : A.handled = none) (L : s.heap.IsList a items)
    (C : CmpG prog w A.in1 (fun i v => items[i]? = some v) bt Gd) (gd : Gd s.heap) (hG : ∀ h h' : Heap, Gd h → (∀ b o, b < s.heap.objs.size → h.get? b = some o → h'.get? b = some o) → Gd h')
    (K0 : items.size = 0 → ∀ (h' : Heap) (tk : Nat), (∀ b o, s.heap.get? b = some o → h'.get? b = some o) → Q dv { heap := h', gens := s.gens, drawn := s.drawn, toks := tk, os := s.os })
    (K : ∀ (v : Value) (h' : Heap) (tk : Nat), 0 < items.size → items[argBest bt (items.size - 1)]? = some v → (∀ b o, s.heap.get? b = some o → h'.get? b = some o) → Q v { heap := h', gens := s.gens, drawn := s.drawn, toks := tk, os := s.os }) :
    wpAny (model prog w) A (call (.builtin "min") [.ref a] [("default", dv)]) Q E s := by
  refine PySem.wpAny_call (codeAny_call_builtin_code (plainId_quiet (by decide +kernel) _) (wpAny_of_eq (args_min _ _) ?_))
  refine codeAny_builtin F.entry_min ?_
  obtain ⟨hp, g, d, tk, os⟩ := s
  unfold Builtin.min
  wp_walk using wpAny_pyIter_list L
  refine ⟨plainId_quiet F.plain_min_loop _, ?_⟩
  have z1 : (hp.push ⟨.type "list_iterator", none, .fields #[.ref a, .int 0 0], #[]⟩).objs.size = hp.objs.size + 1 := Heap.size_push ..
  have gI : (hp.push ⟨.type "list_iterator", none, .fields #[.ref a, .int 0 0], #[]⟩).get? hp.objs.size = some ⟨.type "list_iterator", none, .fields #[.ref a, .int 0 0], #[]⟩ := Heap.get?_push_size _ rfl
  have gS := Heap.get?_push_size (hp.push ⟨.type "list_iterator", none, .fields #[.ref a, .int 0 0], #[]⟩) (o := ⟨.type "list", none, .seq #[] 0, #[]⟩) rfl
  have up : ∀ b o, hp.get? b = some o → ((hp.push ⟨.type "list_iterator", none, .fields #[.ref a, .int 0 0], #[]⟩).push ⟨.type "list", none, .seq #[] 0, #[]⟩).get? b = some o := fun b o h => Heap.get?_push_of_some _ (Heap.get?_push_of_some _ h)
  have gI2 := Heap.get?_push_of_some ⟨.type "list", none, .seq #[] 0, #[]⟩ gI
  obtain ⟨oa, ha, hac, hn, had⟩ := L
  have la : a < hp.objs.size := Heap.lt_size ha
  have st : Heap.IsListIter ((hp.push ⟨.type "list_iterator", none, .fields #[.ref a, .int 0 0], #[]⟩).push ⟨.type "list", none, .seq #[] 0, #[]⟩) hp.objs.size a 0 ∧ Heap.IsList ((hp.push ⟨.type "list_iterator", none, .fields #[.ref a, .int 0 0], #[]⟩).push ⟨.type "list", none, .seq #[] 0, #[]⟩) a items := ⟨⟨_, gI2, rfl, rfl⟩, ⟨oa, up _ _ ha, hac, hn, had⟩⟩
  have W := Walks.list (prog := prog) (w := w) (A := A.in1) hh hp.objs.size a (Nat.ne_of_lt la) items
  rw [z1] at gS
  have nS : hp.objs.size + 1 ∉ [hp.objs.size, a] := fun h => by
    rcases List.mem_cons.mp h with z | z
    · omega
    · exact absurd (List.mem_singleton.mp z) (Nat.ne_of_gt (Nat.lt_succ_of_lt la))
  have old : ∀ {h' : Heap}, (∀ b o, b ∉ [hp.objs.size] → b ≠ hp.objs.size + 1 → ((hp.push ⟨.type "list_iterator", none, .fields #[.ref a, .int 0 0], #[]⟩).push ⟨.type "list", none, .seq #[] 0, #[]⟩).get? b = some o → h'.get? b = some o) → ∀ b o, hp.get? b = some o → h'.get? b = some o := fun {h'} f b o h => by
    have lt : b < hp.objs.size := Heap.lt_size h
    exact f b o (fun z => Nat.ne_of_lt lt (List.mem_singleton.mp z)) (Nat.ne_of_lt (Nat.lt_succ_of_lt lt)) (up b o h)
  show codeAny (model prog w) A (.builtin "min.loop" ⟨[.ref hp.objs.size, .none, .ref (hp.push ⟨.type "list_iterator", none, .fields #[.ref a, .int 0 0], #[]⟩).objs.size], [("default", dv)]⟩) _ _
  rw [z1]
  by_cases e : items.size = 0
  · rw [e] at W
    exact noneD W _ nS st gS fun h' tk' f => K0 e h' tk' (old fun b o h1 _ h => f b o h1 h)
  · refine firstD W bt _ nS C (fun h h' gd f => hG h h' gd fun b o lt => f b o (fun z => Nat.ne_of_lt lt (List.mem_singleton.mp z)) (Nat.ne_of_lt (Nat.lt_succ_of_lt lt))) (by omega) st (hG _ _ gd fun b o _ h => up b o h) gS fun v h' tk' pv f => K v h' tk' (by omega) pv (old f)
theorem args_min1 (a : Value) : checkBuiltinCall "min" ⟨[a], []⟩ = pure () := by kernel_rfl
/-- min(l) -/
theorem call_min1 {a : Addr} {items : Array Value} {s : Shared} {bt : Nat → Nat → Bool} {Q E : Value → Shared → Prop} (hh : A.handled = none) (L : s.heap.IsList a items)
    (C : CmpG prog w A.in1 (fun i v => items[i]? = some v) bt Gd) (gd : Gd s.heap) (hG : ∀ h h' : Heap, Gd h → (∀ b o, b < s.heap.objs.size → h.get? b = some o → h'.get? b = some o) → Gd h')
    (pos : 0 < items.size)
    (K : ∀ (v : Value) (h' : Heap) (tk : Nat), 0 < items.size → items[argBest bt (items.size - 1)]? = some v → (∀ b o, s.heap.get? b = some o → h'.get? b = some o) → Q v { heap := h', gens := s.gens, drawn := s.drawn, toks := tk, os := s.os }) :
    wpAny (model prog w) A (call (.builtin "min") [.ref a] []) Q E s := by
  refine PySem.wpAny_call (codeAny_call_builtin_code (plainId_quiet (by decide +kernel) _) (wpAny_of_eq (args_min1 _) ?_))
  refine codeAny_builtin F.entry_min ?_
  obtain ⟨hp, g, d, tk, os⟩ := s
  unfold Builtin.min
  wp_walk using wpAny_pyIter_list L
  refine ⟨plainId_quiet F.plain_min_loop _, ?_⟩
  have z1 : (hp.push ⟨.type "list_iterator", none, .fields #[.ref a, .int 0 0], #[]⟩).objs.size = hp.objs.size + 1 := Heap.size_push ..
  have gI : (hp.push ⟨.type "list_iterator", none, .fields #[.ref a, .int 0 0], #[]⟩).get? hp.objs.size = some ⟨.type "list_iterator", none, .fields #[.ref a, .int 0 0], #[]⟩ := Heap.get?_push_size _ rfl
  have gS := Heap.get?_push_size (hp.push ⟨.type "list_iterator", none, .fields #[.ref a, .int 0 0], #[]⟩) (o := ⟨.type "list", none, .seq #[] 0, #[]⟩) rfl
  have up : ∀ b o, hp.get? b = some o → ((hp.push ⟨.type "list_iterator", none, .fields #[.ref a, .int 0 0], #[]⟩).push ⟨.type "list", none, .seq #[] 0, #[]⟩).get? b = some o := fun b o h => Heap.get?_push_of_some _ (Heap.get?_push_of_some _ h)
  have gI2 := Heap.get?_push_of_some ⟨.type "list", none, .seq #[] 0, #[]⟩ gI
  obtain ⟨oa, ha, hac, hn, had⟩ := L
  have la : a < hp.objs.size := Heap.lt_size ha
  have st : Heap.IsListIter ((hp.push ⟨.type "list_iterator", none, .fields #[.ref a, .int 0 0], #[]⟩).push ⟨.type "list", none, .seq #[] 0, #[]⟩) hp.objs.size a 0 ∧ Heap.IsList ((hp.push ⟨.type "list_iterator", none, .fields #[.ref a, .int 0 0], #[]⟩).push ⟨.type "list", none, .seq #[] 0, #[]⟩) a items := ⟨⟨_, gI2, rfl, rfl⟩, ⟨oa, up _ _ ha, hac, hn, had⟩⟩
  have W := Walks.list (prog := prog) (w := w) (A := A.in1) hh hp.objs.size a (Nat.ne_of_lt la) items
  rw [z1] at gS
  have nS : hp.objs.size + 1 ∉ [hp.objs.size, a] := fun h => by
    rcases List.mem_cons.mp h with z | z
    · omega
    · exact absurd (List.mem_singleton.mp z) (Nat.ne_of_gt (Nat.lt_succ_of_lt la))
  have old : ∀ {h' : Heap}, (∀ b o, b ∉ [hp.objs.size] → b ≠ hp.objs.size + 1 → ((hp.push ⟨.type "list_iterator", none, .fields #[.ref a, .int 0 0], #[]⟩).push ⟨.type "list", none, .seq #[] 0, #[]⟩).get? b = some o → h'.get? b = some o) → ∀ b o, hp.get? b = some o → h'.get? b = some o := fun {h'} f b o h => by
    have lt : b < hp.objs.size := Heap.lt_size h
    exact f b o (fun z => Nat.ne_of_lt lt (List.mem_singleton.mp z)) (Nat.ne_of_lt (Nat.lt_succ_of_lt lt)) (up b o h)
  show codeAny (model prog w) A (.builtin "min.loop" ⟨[.ref hp.objs.size, .none, .ref (hp.push ⟨.type "list_iterator", none, .fields #[.ref a, .int 0 0], #[]⟩).objs.size], []⟩) _ _
  rw [z1]
  refine firstD W bt _ nS C (fun h h' gd f => hG h h' gd fun b o lt => f b o (fun z => Nat.ne_of_lt lt (List.mem_singleton.mp z)) (Nat.ne_of_lt (Nat.lt_succ_of_lt lt))) pos st (hG _ _ gd fun b o _ h => up b o h) gS fun v h' tk' pv f => K v h' tk' pos pv (old f)
end
end MinD

set_option linter.all false
/-! A binary heap, without any program: what the sifting of heapq keeps. -/
namespace HeapP
variable {α : Type}
/-- the order of the items: le x y where not y < x -/
structure Ord (lt : α → α → Bool) : Prop where
  asym : ∀ x y, lt x y = true → lt y x = false
  tr : ∀ x y z, lt y x = false → lt z y = false → lt z x = false
def par (i : Nat) : Nat := (i - 1) / 2
theorem par_lt {i : Nat} (h : 0 < i) : par i < i := by unfold par; omega
theorem par_left (i : Nat) : par (2 * i + 1) = i := by unfold par; omega
theorem par_right (i : Nat) : par (2 * i + 2) = i := by unfold par; omega
theorem kid {i p : Nat} (h : 0 < i) (e : par i = p) : i = 2 * p + 1 ∨ i = 2 * p + 2 := by unfold par at e; omega
def swp (f : Nat → α) (i j : Nat) : Nat → α := fun k => if k = i then f j else if k = j then f i else f k
theorem swp_l (f : Nat → α) (i j : Nat) : swp f i j i = f j := by unfold swp; rw [if_pos rfl]
theorem swp_r (f : Nat → α) {i j : Nat} (h : i ≠ j) : swp f i j j = f i := by unfold swp; rw [if_neg (fun e => h e.symm), if_pos rfl]
theorem swp_o (f : Nat → α) {i j k : Nat} (h1 : k ≠ i) (h2 : k ≠ j) : swp f i j k = f k := by unfold swp; rw [if_neg h1, if_neg h2]
/-- the items from top on stand in order: each is no less than the one above it, where that one is at top or behind it -/
def Heap (lt : α → α → Bool) (top n : Nat) (f : Nat → α) : Prop := ∀ i, 0 < i → i < n → top ≤ par i → lt (f i) (f (par i)) = false
/-- the same but at the place pos, whose item may be less or greater: what is below it is no less than what is above it -/
def Hole (lt : α → α → Bool) (top n pos : Nat) (f : Nat → α) : Prop :=
  (∀ i, 0 < i → i < n → top ≤ par i → i ≠ pos → par i ≠ pos → lt (f i) (f (par i)) = false) ∧
  (∀ c, 0 < c → c < n → par c = pos → 0 < pos → top ≤ par pos → lt (f c) (f (par pos)) = false)
/-- the same where the item is no greater than what is below it -/
def Low (lt : α → α → Bool) (top n pos : Nat) (f : Nat → α) : Prop :=
  (∀ i, 0 < i → i < n → top ≤ par i → i ≠ pos → lt (f i) (f (par i)) = false) ∧
  (∀ c, 0 < c → c < n → par c = pos → 0 < pos → top ≤ par pos → lt (f c) (f (par pos)) = false)
theorem hole_of_heap {lt : α → α → Bool} {top n : Nat} {f g : Nat → α} (h : Heap lt (top + 1) n f) (e : ∀ i, i ≠ top → i < n → g i = f i) : Hole lt top n top g := by
  refine ⟨fun i h0 hn ht hi hp => ?_, fun c h0 hn hc hp ht => ?_⟩
  · rw [e i hi hn, e (par i) hp (by have := par_lt h0; omega)]
    exact h i h0 hn (by omega)
  · have := par_lt hp
    omega
/-- one step down: the lesser of the two below comes up -/
theorem hole_down {lt : α → α → Bool} (O : Ord lt) {top n pos c : Nat} {f : Nat → α} (h : Hole lt top n pos f) (tp : top ≤ pos) (hc0 : 0 < c) (hc : c < n) (pc : par c = pos) (least : ∀ d, 0 < d → d < n → par d = pos → lt (f d) (f c) = false) :
    Hole lt top n c (swp f c pos) := by
  have ne : c ≠ pos := by have := par_lt hc0; omega
  refine ⟨fun i h0 hn ht hi hp => ?_, fun d h0 hn hd _ ht => ?_⟩
  · by_cases e1 : i = pos
    · have pp : par i ≠ pos := by have := par_lt h0; omega
      have pc' : par i ≠ c := by have := par_lt h0; have := par_lt hc0; omega
      subst e1
      rw [swp_r f ne, swp_o f pc' pp]
      exact h.2 c hc0 hc pc (by omega) ht
    · by_cases e2 : par i = pos
      · rw [swp_o f hi e1, e2, swp_r f ne]
        exact least i h0 hn e2
      · rw [swp_o f hi e1, swp_o f hp e2]
        exact h.1 i h0 hn ht e1 e2
  · have dn : d ≠ pos := by have := par_lt h0; have := par_lt hc0; omega
    have dc : d ≠ c := by have := par_lt h0; omega
    rw [swp_o f dc dn, pc, swp_r f ne]
    have cp := par_lt hc0
    rw [← hd]
    exact h.1 d h0 hn (by omega) dn (by rw [hd]; exact ne)
/-- at a place without any below it -/
theorem low_of_hole {lt : α → α → Bool} {top n pos : Nat} {f : Nat → α} (h : Hole lt top n pos f) (leaf : ∀ c, 0 < c → c < n → par c ≠ pos) : Low lt top n pos f :=
  ⟨fun i h0 hn ht hi => h.1 i h0 hn ht hi (leaf i h0 hn), fun c h0 hn hc => absurd hc (leaf c h0 hn)⟩
/-- one step up -/
theorem low_up {lt : α → α → Bool} (O : Ord lt) {top n pos : Nat} {f : Nat → α} (h : Low lt top n pos f) (h0 : 0 < pos) (hn : pos < n) (tp : top ≤ par pos) (less : lt (f pos) (f (par pos)) = true) :
    Low lt top n (par pos) (swp f (par pos) pos) := by
  have ne : par pos ≠ pos := by have := par_lt h0; omega
  have lp := par_lt h0
  have down : lt (f (par pos)) (f pos) = false := O.asym _ _ less
  refine ⟨fun i i0 hi ht hp => ?_, fun c c0 hc pc pp ht => ?_⟩
  · by_cases e1 : i = pos
    · rw [e1, swp_r f ne, swp_l]
      exact down
    · by_cases e2 : par i = par pos
      · rw [swp_o f hp e1, e2, swp_l]
        exact O.tr _ _ _ down (by rw [← e2]; exact h.1 i i0 hi ht e1)
      · by_cases e3 : par i = pos
        · rw [swp_o f hp e1, e3, swp_r f ne]
          exact h.2 i i0 hi e3 h0 tp
        · rw [swp_o f hp e1, swp_o f e2 e3]
          exact h.1 i i0 hi ht e1
  · have q := par_lt pp
    have gp1 : par (par pos) ≠ par pos := by omega
    have gp2 : par (par pos) ≠ pos := by omega
    have up : lt (f (par pos)) (f (par (par pos))) = false := h.1 (par pos) pp (by omega) ht (by omega)
    rw [swp_o f gp1 gp2]
    by_cases e1 : c = pos
    · rw [e1, swp_r f ne]
      exact up
    · rw [swp_o f (by have := par_lt c0; omega) e1]
      exact O.tr _ _ _ up (by rw [← pc]; exact h.1 c c0 hc (by rw [pc]; exact tp) e1)
/-- where the sifting stops -/
theorem heap_of_low {lt : α → α → Bool} {top n pos : Nat} {f : Nat → α} (h : Low lt top n pos f) (stop : 0 < pos → top ≤ par pos → lt (f pos) (f (par pos)) = false) : Heap lt top n f := fun i h0 hn ht => by
  by_cases e : i = pos
  · rw [e] at h0 ht ⊢
    exact stop h0 ht
  · exact h.1 i h0 hn ht e
/-- the first item of a heap is the least -/
theorem first_least {lt : α → α → Bool} (O : Ord lt) (irr : ∀ x, lt x x = false) {n : Nat} {f : Nat → α} (h : Heap lt 0 n f) : ∀ i, i < n → lt (f i) (f 0) = false := by
  intro i
  induction i using Nat.strongRecOn with
  | _ i ih =>
    intro hn
    by_cases z : i = 0
    · rw [z]; exact irr _
    · have p := par_lt (i := i) (by omega)
      exact O.tr _ _ _ (ih (par i) p (by omega)) (h i (by omega) hn (Nat.zero_le _))
/-- an item more -/
theorem low_push {lt : α → α → Bool} {n : Nat} {f : Nat → α} (h : Heap lt 0 n f) : Low lt 0 (n + 1) n f :=
  ⟨fun i h0 hn ht hi => h i h0 (by omega) ht, fun c h0 hn hc => by have := par_lt h0; omega⟩
/-- no two places from the half on stand above one another -/
theorem heap_half {lt : α → α → Bool} {n : Nat} (f : Nat → α) : Heap lt (n / 2) n f := fun i h0 hn ht => by
  unfold par at ht
  omega
theorem leaf_half {n pos : Nat} (h : ¬ pos < n / 2) : ∀ c, 0 < c → c < n → par c ≠ pos := fun c h0 hn e => by
  unfold par at e
  omega
end HeapP

set_option Elab.async false
set_option linter.all false
set_option maxRecDepth 100000
set_option maxHeartbeats 4000000
namespace HeapM
open PySem L2 PySem.Spec PyProof.Rows
open AutoSeq1 (wpAny_loadPart')
theorem entry_sift : entryFor table "_heapq.heapify.sift" = some Builtin.«_heapq.heapify.sift» := entryFor_of_tree (by kernel_rfl)
theorem entry_push : entryFor table "_heapq.heappush" = some Builtin.«_heapq.heappush» := entryFor_of_tree (by kernel_rfl)
theorem entry_pop : entryFor table "_heapq.heappop" = some Builtin.«_heapq.heappop» := entryFor_of_tree (by kernel_rfl)
theorem entry_heapify : entryFor table "_heapq.heapify" = some Builtin.«_heapq.heapify» := entryFor_of_tree (by kernel_rfl)
theorem leaf_step {prog : Program} {w : World} {A : Around} {R : PySem.Fin → Shared → Prop} {E : Value → Shared → Prop} {s : Shared} {a : Addr} {xs : Array Value} {n pos top : Nat} {res : Value} {t1 t2 t3 : Tok} {after : Int}
    (h : s.heap.get? a = some { cls := .type "list", data := .seq xs n }) (hl : ¬ pos < xs.size / 2) (q : R (.again (.builtin "_heapq.heapify.sift" ⟨[.ref a, .bool false, .bool false, rawInt pos, rawInt top, res, rawInt after], []⟩)) s) :
    wpAny (model prog w) A (Builtin.«_heapq.heapify.sift» ⟨[.ref a, .bool false, .bool true, .int pos t1, .int top t2, res, .int after t3], []⟩) R E s := by
  obtain ⟨hp, g, d, tk, os⟩ := s
  have e1 : ((pos : Int)).toNat = pos := rfl
  have e2 : ((top : Int)).toNat = top := rfl
  unfold Builtin.«_heapq.heapify.sift»
  dsimp only
  refine wpAny_bind ?_
  wp_walk using wpAny_loadPart' h
  exact q
/-- a child comes up -/
theorem down_step {prog : Program} {w : World} {A : Around} {R : PySem.Fin → Shared → Prop} {E : Value → Shared → Prop} {s : Shared} {a : Addr} {xs : Array Value} {n pos top : Nat} {res : Value} {t1 t2 t3 : Tok} {after : Int} {lt : Value → Value → Bool}
    (h : s.heap.get? a = some { cls := .type "list", data := .seq xs n }) (hz : xs.size ≤ 100000) (hl : pos < xs.size / 2)
    (hlt : ∀ x y, x ∈ xs → y ∈ xs → SeqAt.RcLt A s x y (lt x y))
    (q : ∀ c (hc : c < xs.size) (hp : pos < xs.size), 0 < c → HeapP.par c = pos → (∀ d (hd : d < xs.size), 0 < d → HeapP.par d = pos → d ≠ c → lt xs[d] xs[c] = false ∨ lt xs[c] xs[d] = true) →
      R (.again (.builtin "_heapq.heapify.sift" ⟨[.ref a, .bool false, .bool true, rawInt c, rawInt top, res, rawInt after], []⟩)) { s with heap := s.heap.update a (Obj.mapSeq fun ys => (ys.setIfInBounds c xs[pos]).setIfInBounds pos xs[c]) }) :
    wpAny (model prog w) A (Builtin.«_heapq.heapify.sift» ⟨[.ref a, .bool false, .bool true, .int pos t1, .int top t2, res, .int after t3], []⟩) R E s := by
  have hp0 : pos < xs.size := by omega
  have hl0 : 2 * pos + 1 < xs.size := by omega
  have gl : xs[2 * pos + 1]? = some xs[2 * pos + 1] := by simp [hl0]
  have gp : xs[pos]? = some xs[pos] := by simp [hp0]
  obtain ⟨hp, g, d, tk, os⟩ := s
  unfold Builtin.«_heapq.heapify.sift»
  dsimp only
  refine wpAny_bind ?_
  wp_walk using wpAny_loadPart' h
  have ep : ((pos : Int)).toNat = pos := rfl
  have et : ((top : Int)).toNat = top := rfl
  rw [ep, et]
  by_cases two : 2 * pos + 1 + 1 < xs.size
  · have gr : xs[2 * pos + 1 + 1]? = some xs[2 * pos + 1 + 1] := by simp [two]
    rw [if_pos two]
    wp_walk using wpAny_loadPart' h
    rw [gl]
    wp_walk using wpAny_loadPart' h
    rw [gr]
    have cmp := hlt _ _ (Array.getElem_mem hl0) (Array.getElem_mem two) prog w
    wp_walk using cmp _ _, wpAny_loadPart' h
    cases e : lt xs[2 * pos + 1] xs[2 * pos + 1 + 1] with
    | true =>
      rw [if_neg (by decide)]
      refine wpAny_bind ?_
      wp_walk using wpAny_loadPart' h
      rw [gl]
      wp_walk using wpAny_loadPart' h
      rw [gp]
      have z1 : xs.size ≤ sizeLine := by rw [sizeLine_eq]; omega
      have z2 : ((xs.setIfInBounds (2 * pos + 1) xs[pos]).setIfInBounds pos xs[2 * pos + 1]).size ≤ sizeLine + 1 := by rw [Array.size_setIfInBounds, Array.size_setIfInBounds, sizeLine_eq]; omega
      wp_walk using (wpAny_updateSeq h rfl (hz := z1) (_hz' := z2)), wpAny_loadPart' h
      refine q (2 * pos + 1) hl0 hp0 (by omega) (HeapP.par_left pos) fun d hd d0 pd ne => .inr ?_
      rcases HeapP.kid d0 pd with z | z
      · exact absurd z ne
      · subst z; exact e
    | false =>
      rw [if_pos (show (!false) = true from rfl)]
      refine wpAny_bind ?_
      wp_walk using wpAny_loadPart' h
      rw [gr]
      wp_walk using wpAny_loadPart' h
      rw [gp]
      have z1 : xs.size ≤ sizeLine := by rw [sizeLine_eq]; omega
      have z2 : ((xs.setIfInBounds (2 * pos + 1 + 1) xs[pos]).setIfInBounds pos xs[2 * pos + 1 + 1]).size ≤ sizeLine + 1 := by rw [Array.size_setIfInBounds, Array.size_setIfInBounds, sizeLine_eq]; omega
      wp_walk using (wpAny_updateSeq h rfl (hz := z1) (_hz' := z2)), wpAny_loadPart' h
      refine q (2 * pos + 1 + 1) two hp0 (by omega) (HeapP.par_right pos) fun d hd d0 pd ne => .inl ?_
      rcases HeapP.kid d0 pd with z | z
      · subst z; exact e
      · exact absurd z ne
  · rw [if_neg two]
    refine wpAny_bind ?_
    wp_walk using wpAny_loadPart' h
    rw [gl]
    wp_walk using wpAny_loadPart' h
    rw [gp]
    have z1 : xs.size ≤ sizeLine := by rw [sizeLine_eq]; omega
    have z2 : ((xs.setIfInBounds (2 * pos + 1) xs[pos]).setIfInBounds pos xs[2 * pos + 1]).size ≤ sizeLine + 1 := by rw [Array.size_setIfInBounds, Array.size_setIfInBounds, sizeLine_eq]; omega
    wp_walk using (wpAny_updateSeq h rfl (hz := z1) (_hz' := z2)), wpAny_loadPart' h
    refine q (2 * pos + 1) hl0 hp0 (by omega) (HeapP.par_left pos) fun d hd d0 pd ne => ?_
    rcases HeapP.kid d0 pd with z | z
    · exact absurd z ne
    · omega
/-- an item goes up -/
theorem up_step {prog : Program} {w : World} {A : Around} {R : PySem.Fin → Shared → Prop} {E : Value → Shared → Prop} {s : Shared} {a : Addr} {xs : Array Value} {n pos top : Nat} {res : Value} {t1 t2 t3 : Tok} {after : Int} {lt : Value → Value → Bool}
    (h : s.heap.get? a = some { cls := .type "list", data := .seq xs n }) (hz : xs.size ≤ 100000) (hp : pos < xs.size) (tp : top < pos) (hp2 : (pos - 1) / 2 < xs.size)
    (hlt : ∀ x y, x ∈ xs → y ∈ xs → SeqAt.RcLt A s x y (lt x y))
    (yes : lt xs[pos] xs[(pos - 1) / 2] = true → R (.again (.builtin "_heapq.heapify.sift" ⟨[.ref a, .bool false, .bool false, rawInt ((pos - 1) / 2 : Nat), rawInt top, res, rawInt after], []⟩)) { s with heap := s.heap.update a (Obj.mapSeq fun ys => (ys.setIfInBounds ((pos - 1) / 2) xs[pos]).setIfInBounds pos xs[(pos - 1) / 2]) })
    (no : lt xs[pos] xs[(pos - 1) / 2] = false → R (if after < 0 then .done (.ret res) else .again (.builtin "_heapq.heapify.sift" ⟨[.ref a, .bool false, .bool true, rawInt after.toNat, rawInt after.toNat, res, rawInt (after - 1)], []⟩)) s) :
    wpAny (model prog w) A (Builtin.«_heapq.heapify.sift» ⟨[.ref a, .bool false, .bool false, .int pos t1, .int top t2, res, .int after t3], []⟩) R E s := by
  have gp : xs[pos]? = some xs[pos] := by simp [hp]
  have gq : xs[(pos - 1) / 2]? = some xs[(pos - 1) / 2] := by simp [hp2]
  obtain ⟨hh, g, d, tk, os⟩ := s
  unfold Builtin.«_heapq.heapify.sift»
  dsimp only
  refine wpAny_bind ?_
  wp_walk using wpAny_loadPart' h
  have ep : ((pos : Int)).toNat = pos := rfl
  have et : ((top : Int)).toNat = top := rfl
  rw [ep, et, gp]
  wp_walk using wpAny_loadPart' h
  rw [gq]
  have cmp := hlt _ _ (Array.getElem_mem hp) (Array.getElem_mem hp2) prog w
  wp_walk using cmp _ _, wpAny_loadPart' h
  cases e : lt xs[pos] xs[(pos - 1) / 2] with
  | true =>
    rw [if_pos (show true = true from rfl)]
    refine wpAny_bind ?_
    wp_walk using wpAny_loadPart' h
    rw [gq]
    wp_walk using wpAny_loadPart' h
    rw [gp]
    have z1 : xs.size ≤ sizeLine := by rw [sizeLine_eq]; omega
    have z2 : ((xs.setIfInBounds ((pos - 1) / 2) xs[pos]).setIfInBounds pos xs[(pos - 1) / 2]).size ≤ sizeLine + 1 := by rw [Array.size_setIfInBounds, Array.size_setIfInBounds, sizeLine_eq]; omega
    wp_walk using (wpAny_updateSeq h rfl (hz := z1) (_hz' := z2)), wpAny_loadPart' h
    exact yes e
  | false =>
    rw [if_neg Bool.false_ne_true]
    have no := no e
    by_cases a0 : after < 0
    · rw [if_pos a0] at no ⊢
      wp_walk
      exact no
    · rw [if_neg a0] at no ⊢
      wp_walk
      exact no
/-- the sifting is at its top -/
theorem stop_step {prog : Program} {w : World} {A : Around} {R : PySem.Fin → Shared → Prop} {E : Value → Shared → Prop} {s : Shared} {a : Addr} {xs : Array Value} {n pos top : Nat} {res : Value} {t1 t2 t3 : Tok} {after : Int}
    (h : s.heap.get? a = some { cls := .type "list", data := .seq xs n }) (tp : ¬ top < pos)
    (no : R (if after < 0 then .done (.ret res) else .again (.builtin "_heapq.heapify.sift" ⟨[.ref a, .bool false, .bool true, rawInt after.toNat, rawInt after.toNat, res, rawInt (after - 1)], []⟩)) s) :
    wpAny (model prog w) A (Builtin.«_heapq.heapify.sift» ⟨[.ref a, .bool false, .bool false, .int pos t1, .int top t2, res, .int after t3], []⟩) R E s := by
  obtain ⟨hh, g, d, tk, os⟩ := s
  unfold Builtin.«_heapq.heapify.sift»
  dsimp only
  refine wpAny_bind ?_
  wp_walk using wpAny_loadPart' h
  have tp' : ¬ ((pos : Int)).toNat > ((top : Int)).toNat := tp
  first | rw [if_neg tp'] | skip
  by_cases a0 : after < 0
  · rw [if_pos a0] at no ⊢
    wp_walk
    exact no
  · rw [if_neg a0] at no ⊢
    wp_walk
    exact no
end HeapM

set_option Elab.async false
set_option linter.all false
set_option maxRecDepth 100000
set_option maxHeartbeats 4000000
namespace HeapM
open PySem L2 PySem.Spec PyProof.Rows
def fn (xs : Array Value) : Nat → Value := fun k => xs.toList.getD k .none
theorem fn_at {xs : Array Value} {k : Nat} (h : k < xs.size) : fn xs k = xs[k] := by
  unfold fn
  rw [List.getD_eq_getElem?_getD, List.getElem?_eq_getElem (by simpa using h)]
  simp
def swapped (xs : Array Value) (i j : Nat) (x y : Value) : Array Value := (xs.setIfInBounds i x).setIfInBounds j y
theorem swapped_size (xs : Array Value) (i j : Nat) (x y : Value) : (swapped xs i j x y).size = xs.size := by
  unfold swapped; rw [Array.size_setIfInBounds, Array.size_setIfInBounds]
theorem swapped_list (xs : Array Value) (i j : Nat) (x y : Value) : (swapped xs i j x y).toList = (xs.toList.set i x).set j y := by
  unfold swapped; rw [Array.toList_setIfInBounds, Array.toList_setIfInBounds]
theorem swapped_fn {xs : Array Value} {i j : Nat} (hi : i < xs.size) (hj : j < xs.size) (ne : i ≠ j) : fn (swapped xs i j xs[j] xs[i]) = HeapP.swp (fn xs) i j := by
  funext k
  have li : i < xs.toList.length := by simpa using hi
  have lj : j < xs.toList.length := by simpa using hj
  unfold fn HeapP.swp
  rw [swapped_list, List.getD_eq_getElem?_getD]
  by_cases e1 : k = j
  · subst e1
    rw [List.getElem?_set_self (by rw [List.length_set]; exact lj), if_neg (fun z => ne z.symm), if_pos rfl]
    exact (fn_at hi).symm
  · rw [List.getElem?_set_ne (fun z => e1 z.symm)]
    by_cases e2 : k = i
    · subst e2
      rw [List.getElem?_set_self li, if_pos rfl]
      exact (fn_at hj).symm
    · rw [List.getElem?_set_ne (fun z => e2 z.symm), if_neg e2, if_neg e1]
      rfl
theorem swapped_perm {xs : Array Value} {i j : Nat} (hi : i < xs.size) (hj : j < xs.size) : (swapped xs i j xs[j] xs[i]).toList.Perm xs.toList := by
  rw [swapped_list]
  have li : i < xs.toList.length := by simpa using hi
  have lj : j < xs.toList.length := by simpa using hj
  have := List.set_set_perm (as := xs.toList) li lj
  simpa using this
/-- a place below or at top -/
inductive Sub (top : Nat) : Nat → Prop
  | refl : Sub top top
  | step {p : Nat} : 0 < p → Sub top (HeapP.par p) → Sub top p
theorem Sub.le {top p : Nat} (h : Sub top p) : top ≤ p := by
  induction h with
  | refl => exact Nat.le_refl _
  | step h0 _ ih => have := HeapP.par_lt h0; omega
theorem Sub.up {top p : Nat} (h : Sub top p) (lt : top < p) : Sub top (HeapP.par p) := by
  cases h with
  | refl => omega
  | step _ h => exact h
/-- the same state but for the list at a -/
def Sb (a : Addr) (s s' : Shared) : Prop := ∃ h', s' = { s with heap := h' } ∧ Heap.SameBut a s.heap h'
theorem Sb.refl {a : Addr} {s : Shared} : Sb a s s := ⟨s.heap, rfl, Heap.SameBut.refl ..⟩
theorem Sb.upd {a : Addr} {s s' : Shared} {f : Obj → Obj} (h : Sb a s s') : Sb a s { s' with heap := s'.heap.update a f } := by
  obtain ⟨h', rfl, sb⟩ := h
  exact ⟨_, rfl, sb.trans (Heap.SameBut.update ..)⟩
theorem Sb.heap {a : Addr} {s s' : Shared} (h : Sb a s s') : Heap.SameBut a s.heap s'.heap := by
  obtain ⟨h', rfl, sb⟩ := h
  exact sb
def LS (h : Heap) (a : Addr) (xs : Array Value) : Prop := ∃ n, h.get? a = some { cls := .type "list", data := .seq xs n }
/-- what is behind the sifting -/
def After (prog : Program) (w : World) (A : Around) (R : Result → Shared → Prop) (a : Addr) (res : Value) (after : Int) (s' : Shared) : Prop :=
  if after < 0 then R (.ok (.ret res)) s' else codeAny (model prog w) A (.builtin "_heapq.heapify.sift" ⟨[.ref a, .bool false, .bool true, rawInt after.toNat, rawInt after.toNat, res, rawInt (after - 1)], []⟩) R s'
theorem sift_plain : plainId "_heapq.heapify.sift" = true := by decide +kernel
section
variable {prog : Program} {w : World} {A : Around} {R : Result → Shared → Prop} {a : Addr} {res : Value} {after : Int} {lt : Value → Value → Bool} {top : Nat} {s0 : Shared} {xs0 : Array Value}
theorem go_up (O : HeapP.Ord lt) (hz : xs0.size ≤ 100000)
    (hlt : ∀ (args : Args) (s' : Shared), Sb a s0 s' → ∀ x y, x ∈ xs0.toList → y ∈ xs0.toList → SeqAt.RcLt (A.under (.builtin "_heapq.heapify.sift" args)) s' x y (lt x y))
    (K : ∀ ys s', LS s'.heap a ys → ys.toList.Perm xs0.toList → HeapP.Heap lt top ys.size (fn ys) → Sb a s0 s' → After prog w A R a res after s') :
    ∀ (pos : Nat) (xs : Array Value) (s : Shared), LS s.heap a xs → xs.toList.Perm xs0.toList → Sb a s0 s → pos < xs.size → Sub top pos → HeapP.Low lt top xs.size pos (fn xs) →
      codeAny (model prog w) A (.builtin "_heapq.heapify.sift" ⟨[.ref a, .bool false, .bool false, rawInt pos, rawInt top, res, rawInt after], []⟩) R s := by
  intro pos
  induction pos using Nat.strongRecOn with
  | _ pos ih =>
    intro xs s ⟨n, h⟩ pm sb hp sub low
    have sz : xs.size = xs0.size := by have := pm.length_eq; simpa using this
    refine codeAny_builtin entry_sift ?_
    have fin : ∀ s', After prog w A R a res after s' → (match (if after < 0 then PySem.Fin.done (.ret res) else .again (.builtin "_heapq.heapify.sift" ⟨[.ref a, .bool false, .bool true, rawInt after.toNat, rawInt after.toNat, res, rawInt (after - 1)], []⟩)) with
        | .done f => R (.ok f) s'
        | .again c' => c'.quiet = true ∧ codeAny (model prog w) A c' R s') := fun s' k => by
      unfold After at k
      by_cases a0 : after < 0
      · rw [if_pos a0] at k ⊢; exact k
      · rw [if_neg a0] at k ⊢; exact ⟨plainId_quiet sift_plain _, k⟩
    by_cases tp : top < pos
    · have h0 : 0 < pos := by omega
      have pl := HeapP.par_lt h0
      have hp2 : (pos - 1) / 2 < xs.size := by show HeapP.par pos < _; omega
      refine up_step (lt := lt) h (by omega) hp tp hp2 (fun x y hx hy => hlt _ s sb x y (pm.mem_iff.mp (by simpa using hx)) (pm.mem_iff.mp (by simpa using hy))) (fun less => ?_) (fun no => ?_)
      · refine ⟨plainId_quiet sift_plain _, ?_⟩
        have ne : HeapP.par pos ≠ pos := by omega
        have g := Heap.get?_update_self (Obj.mapSeq fun ys => (ys.setIfInBounds ((pos - 1) / 2) xs[pos]).setIfInBounds pos xs[(pos - 1) / 2]) h rfl
        refine ih (HeapP.par pos) pl (swapped xs (HeapP.par pos) pos xs[pos] xs[(pos - 1) / 2]) _ ⟨_, g⟩ ((swapped_perm hp2 hp).trans pm) sb.upd (by rw [swapped_size]; exact hp2) (sub.up tp) ?_
        show HeapP.Low lt top (swapped xs ((pos - 1) / 2) pos xs[pos] xs[(pos - 1) / 2]).size (HeapP.par pos) (fn (swapped xs ((pos - 1) / 2) pos xs[pos] xs[(pos - 1) / 2]))
        rw [swapped_size, swapped_fn hp2 hp ne]
        refine HeapP.low_up O low h0 hp (sub.up tp).le ?_
        rw [fn_at hp]
        show lt xs[pos] (fn xs ((pos - 1) / 2)) = true
        rw [fn_at hp2]
        exact less
      · refine fin s (K xs s ⟨n, h⟩ pm (HeapP.heap_of_low low fun _ _ => ?_) sb)
        rw [fn_at hp]
        show lt xs[pos] (fn xs ((pos - 1) / 2)) = false
        rw [fn_at hp2]
        exact no
    · refine stop_step h tp (fin s (K xs s ⟨n, h⟩ pm (HeapP.heap_of_low low fun q0 q => ?_) sb))
      have := HeapP.par_lt q0
      omega
theorem go_down (O : HeapP.Ord lt) (irr : ∀ x, lt x x = false) (hz : xs0.size ≤ 100000)
    (hlt : ∀ (args : Args) (s' : Shared), Sb a s0 s' → ∀ x y, x ∈ xs0.toList → y ∈ xs0.toList → SeqAt.RcLt (A.under (.builtin "_heapq.heapify.sift" args)) s' x y (lt x y))
    (K : ∀ ys s', LS s'.heap a ys → ys.toList.Perm xs0.toList → HeapP.Heap lt top ys.size (fn ys) → Sb a s0 s' → After prog w A R a res after s') :
    ∀ (m pos : Nat) (xs : Array Value) (s : Shared), xs.size - pos = m → LS s.heap a xs → xs.toList.Perm xs0.toList → Sb a s0 s → pos < xs.size → Sub top pos → HeapP.Hole lt top xs.size pos (fn xs) →
      codeAny (model prog w) A (.builtin "_heapq.heapify.sift" ⟨[.ref a, .bool false, .bool true, rawInt pos, rawInt top, res, rawInt after], []⟩) R s := by
  intro m
  induction m using Nat.strongRecOn with
  | _ m ih =>
    intro pos xs s hm ⟨n, h⟩ pm sb hp sub hole
    have sz : xs.size = xs0.size := by have := pm.length_eq; simpa using this
    refine codeAny_builtin entry_sift ?_
    by_cases hl : pos < xs.size / 2
    · refine down_step (lt := lt) h (by omega) hl (fun x y hx hy => hlt _ s sb x y (pm.mem_iff.mp (by simpa using hx)) (pm.mem_iff.mp (by simpa using hy))) fun c hc _ c0 pc least => ?_
      refine ⟨plainId_quiet sift_plain _, ?_⟩
      have cp := HeapP.par_lt c0
      have ne : c ≠ pos := by omega
      have g := Heap.get?_update_self (Obj.mapSeq fun ys => (ys.setIfInBounds c xs[pos]).setIfInBounds pos xs[c]) h rfl
      refine ih (xs.size - c) (by omega) c (swapped xs c pos xs[pos] xs[c]) _ (by rw [swapped_size]) ⟨_, g⟩ ((swapped_perm hc hp).trans pm) sb.upd (by rw [swapped_size]; exact hc) (.step c0 (by rw [pc]; exact sub)) ?_
      rw [swapped_size, swapped_fn hc hp ne]
      refine HeapP.hole_down O hole sub.le c0 hc pc fun d d0 hd pd => ?_
      rw [fn_at hd, fn_at hc]
      by_cases e : d = c
      · subst e; exact irr _
      · rcases least d hd d0 pd e with q | q
        · exact q
        · exact O.asym _ _ q
    · refine leaf_step h hl ⟨plainId_quiet sift_plain _, ?_⟩
      exact go_up O hz hlt K pos xs s ⟨n, h⟩ pm sb hp sub (HeapP.low_of_hole hole (HeapP.leaf_half hl))
end
end HeapM

set_option Elab.async false
set_option linter.all false
set_option maxRecDepth 100000
set_option maxHeartbeats 4000000
namespace HeapM
open PySem L2 PySem.Spec PyProof.Rows
open AutoSeq1 (wpAny_loadPart')
theorem sub0 : ∀ p, Sub 0 p := fun p => by
  induction p using Nat.strongRecOn with
  | _ p ih =>
    by_cases z : p = 0
    · subst z; exact .refl
    · exact .step (by omega) (ih _ (HeapP.par_lt (by omega)))
theorem ends_perm {α : Type} (L : List α) (h : 2 ≤ L.length) : (L[0] :: L.dropLast.set 0 (L[L.length - 1])).Perm L := by
  match L, h with
  | x :: y :: t, _ =>
    have e : (x :: y :: t).dropLast = x :: (y :: t).dropLast := rfl
    rw [e, List.set_cons_zero]
    show (x :: (x :: y :: t)[(x :: y :: t).length - 1] :: (y :: t).dropLast).Perm (x :: y :: t)
    refine .cons x ?_
    have e2 : (x :: y :: t)[(x :: y :: t).length - 1] = (y :: t).getLast (by simp) := by
      rw [List.getLast_eq_getElem]
      simp
    rw [e2]
    have e3 := List.dropLast_concat_getLast (l := y :: t) (by simp)
    have e4 : ((y :: t).getLast (by simp) :: (y :: t).dropLast).Perm ((y :: t).dropLast ++ [(y :: t).getLast (by simp)]) := (List.perm_append_singleton _ _).symm
    rwa [e3] at e4
section
variable {prog : Program} {w : World} {A : Around} {R : Result → Shared → Prop} {a : Addr} {lt : Value → Value → Bool} {s : Shared} {xs : Array Value} {v : Value}
theorem push_any (O : HeapP.Ord lt) (hz : xs.size < 1000) (h : LS s.heap a xs) (hh : HeapP.Heap lt 0 xs.size (fn xs))
    (hlt : ∀ (args : Args) (s' : Shared), Sb a s s' → ∀ x y, x ∈ (xs.push v).toList → y ∈ (xs.push v).toList → SeqAt.RcLt (A.under (.builtin "_heapq.heapify.sift" args)) s' x y (lt x y))
    (K : ∀ ys s', LS s'.heap a ys → ys.toList.Perm (xs.push v).toList → HeapP.Heap lt 0 ys.size (fn ys) → Sb a s s' → R (.ok (.ret .none)) s') :
    codeAny (model prog w) A (.builtin "_heapq.heappush" ⟨[.ref a, v], []⟩) R s := by
  obtain ⟨n, h⟩ := h
  refine codeAny_builtin entry_push ?_
  obtain ⟨hp, g, d, tk, os⟩ := s
  unfold Builtin.«_heapq.heappush»
  dsimp only
  refine wpAny_bind ?_
  have z1 : xs.size ≤ sizeLine := by rw [sizeLine_eq]; omega
  have z2 : (xs.push v).size ≤ sizeLine + 1 := by rw [Array.size_push, sizeLine_eq]; omega
  have sub : isSubtype (.type "list") (.type "list") = pure true := by rw [isSubtype_type]; kernel_rfl
  wp_walk using (wpAny_updateSeq h rfl (hz := z1) (_hz' := z2)), wpAny_loadPart' h
  refine ⟨plainId_quiet sift_plain _, ?_⟩
  have gg := Heap.get?_update_self (Obj.mapSeq fun x => x.push v) h rfl
  have ps : (xs.push v).size = xs.size + 1 := Array.size_push ..
  have same : ∀ k, k < xs.size → fn (xs.push v) k = fn xs k := fun k hk => by
    rw [fn_at hk, fn_at (by omega), Array.getElem_push_lt hk]
  have ho : HeapP.Heap lt 0 xs.size (fn (xs.push v)) := fun i h0 hn ht => by
    have := HeapP.par_lt h0
    rw [same i hn, same _ (by omega)]
    exact hh i h0 hn ht
  have low := HeapP.low_push ho
  rw [← ps] at low
  have e0 : (xs.push v).size - 1 = xs.size := by omega
  show codeAny (model prog w) A (.builtin "_heapq.heapify.sift" ⟨[.ref a, .bool false, .bool false, rawInt ((xs.push v).size - 1 : Nat), rawInt (0 : Nat), .none, rawInt (-1)], []⟩) R _
  rw [e0]
  exact go_up (lt := lt) (top := 0) (s0 := ⟨hp, g, d, tk, os⟩) (xs0 := xs.push v) O (by omega) hlt (fun ys s' l p hq sb => by unfold After; rw [if_pos (by decide)]; exact K ys s' l p hq sb) xs.size (xs.push v) _ ⟨_, gg⟩ (.refl _) Sb.refl.upd (by omega) (sub0 _) low
theorem pop_any (O : HeapP.Ord lt) (irr : ∀ x, lt x x = false) (hz : xs.size < 1000) (pos : 0 < xs.size) (h : LS s.heap a xs) (hh : HeapP.Heap lt 0 xs.size (fn xs))
    (hlt : ∀ (args : Args) (s' : Shared), Sb a s s' → ∀ x y, x ∈ xs.toList → y ∈ xs.toList → SeqAt.RcLt (A.under (.builtin "_heapq.heapify.sift" args)) s' x y (lt x y))
    (K : ∀ ys s', LS s'.heap a ys → (fn xs 0 :: ys.toList).Perm xs.toList → HeapP.Heap lt 0 ys.size (fn ys) → Sb a s s' → R (.ok (.ret (fn xs 0))) s') :
    codeAny (model prog w) A (.builtin "_heapq.heappop" ⟨[.ref a], []⟩) R s := by
  obtain ⟨n, h⟩ := h
  refine codeAny_builtin entry_pop ?_
  have gb : xs.back? = some xs[xs.size - 1] := by rw [Array.back?_eq_getElem?]; exact Array.getElem?_eq_getElem (by omega)
  have g0 : xs[0]? = some xs[0] := Array.getElem?_eq_getElem pos
  obtain ⟨hp, g, d, tk, os⟩ := s
  unfold Builtin.«_heapq.heappop»
  have z1 : xs.size ≤ sizeLine := by rw [sizeLine_eq]; omega
  have z2 : xs.pop.size ≤ sizeLine + 1 := by rw [Array.size_pop, sizeLine_eq]; omega
  have sub : isSubtype (.type "list") (.type "list") = pure true := by rw [isSubtype_type]; kernel_rfl
  refine wpAny_bind ?_
  wp_walk using (wpAny_updateSeq h rfl (hz := z1) (_hz' := z2)), wpAny_loadPart' h
  rw [gb]
  wp_walk using (wpAny_updateSeq h rfl (hz := z1) (_hz' := z2)), wpAny_loadPart' h
  have gg := Heap.get?_update_self (Obj.mapSeq fun x => x.pop) h rfl
  by_cases e1 : xs.size = 1
  · rw [if_pos (by simp [e1])]
    wp_walk
    have e2 : xs[xs.size - 1] = fn xs 0 := by rw [fn_at pos]; congr 1; omega
    rw [e2]
    refine K xs.pop _ ⟨_, gg⟩ ?_ (fun i h0 hn => by rw [Array.size_pop] at hn; omega) Sb.refl.upd
    rw [fn_at pos, Array.toList_pop]
    have ll : xs.toList.length = 1 := by simpa using e1
    obtain ⟨x, hx⟩ := List.length_eq_one_iff.mp ll
    have e3 : xs[0] = x := by rw [← Array.getElem_toList (by simpa using pos)]; simp [hx]
    rw [hx, e3]
    exact .refl _
  · rw [if_neg (by simpa using e1)]
    wp_walk using wpAny_loadPart' gg
    rw [g0]
    have z3 : xs.pop.size ≤ sizeLine := by rw [Array.size_pop, sizeLine_eq]; omega
    have z4 : (xs.pop.setIfInBounds 0 xs[xs.size - 1]).size ≤ sizeLine + 1 := by rw [Array.size_setIfInBounds, Array.size_pop, sizeLine_eq]; omega
    wp_walk using (wpAny_updateSeq gg rfl (hz := z3) (_hz' := z4)), wpAny_loadPart' gg
    refine ⟨plainId_quiet sift_plain _, ?_⟩
    have g3 := Heap.get?_update_self (Obj.mapSeq fun x => x.setIfInBounds 0 xs[xs.size - 1]) gg rfl
    have ps : (xs.pop.setIfInBounds 0 xs[xs.size - 1]).size = xs.size - 1 := by rw [Array.size_setIfInBounds, Array.size_pop]
    have list : (xs.pop.setIfInBounds 0 xs[xs.size - 1]).toList = xs.toList.dropLast.set 0 xs[xs.size - 1] := by rw [Array.toList_setIfInBounds, Array.toList_pop]
    have perm : (xs[0] :: (xs.pop.setIfInBounds 0 xs[xs.size - 1]).toList).Perm xs.toList := by
      rw [list]
      have ls : xs.toList.length = xs.size := Array.length_toList
      have key := ends_perm xs.toList (by omega)
      have k0 : xs.toList[0]'(by omega) = xs[0] := Array.getElem_toList ..
      have k9 : xs.toList[xs.toList.length - 1]'(by omega) = xs[xs.size - 1] := by simp
      rw [k0, k9] at key
      exact key
    have mem : ∀ x, x ∈ (xs.pop.setIfInBounds 0 xs[xs.size - 1]).toList → x ∈ xs.toList := fun x hx => perm.mem_iff.mp (List.mem_cons_of_mem _ hx)
    have same : ∀ k, k ≠ 0 → k < xs.size - 1 → fn (xs.pop.setIfInBounds 0 xs[xs.size - 1]) k = fn xs k := fun k k0 hk => by
      rw [fn_at (by omega), fn_at (by omega), Array.getElem_setIfInBounds_ne (by rw [Array.size_pop]; exact hk) (fun z => k0 z.symm), Array.getElem_pop]
    have hole : HeapP.Hole lt 0 (xs.size - 1) 0 (fn (xs.pop.setIfInBounds 0 xs[xs.size - 1])) := HeapP.hole_of_heap (f := fn xs) (fun i h0 hn ht => hh i h0 (by omega) (Nat.zero_le _)) same
    have hole2 : ∀ m, m = xs.size - 1 → HeapP.Hole lt 0 m 0 (fn (xs.pop.setIfInBounds 0 xs[xs.size - 1])) := fun m e => by rw [e]; exact hole
    refine go_down (lt := lt) (top := 0) (s0 := ⟨hp, g, d, tk, os⟩) (xs0 := xs.pop.setIfInBounds 0 xs[xs.size - 1]) O irr (by omega) (fun args s' sb x y hx hy => hlt args s' sb x y (mem x hx) (mem y hy)) (fun ys s' l p hq sb => ?_) _ 0 (xs.pop.setIfInBounds 0 xs[xs.size - 1]) _ rfl ⟨_, g3⟩ (.refl _) (Sb.refl.upd.upd) (by omega) .refl (hole2 _ ps)
    unfold After
    rw [if_pos (by decide)]
    have k := K ys s' l ?_ hq sb
    · rw [fn_at pos] at k; exact k
    · rw [fn_at pos]
      exact (p.cons _).trans perm
theorem down_all (O : HeapP.Ord lt) (irr : ∀ x, lt x x = false) (hz : xs.size < 1000)
    (hlt : ∀ (args : Args) (s' : Shared), Sb a s s' → ∀ x y, x ∈ xs.toList → y ∈ xs.toList → SeqAt.RcLt (A.under (.builtin "_heapq.heapify.sift" args)) s' x y (lt x y))
    (K : ∀ ys s', LS s'.heap a ys → ys.toList.Perm xs.toList → HeapP.Heap lt 0 ys.size (fn ys) → Sb a s s' → R (.ok (.ret .none)) s') :
    ∀ (k : Nat) (ys : Array Value) (s1 : Shared), LS s1.heap a ys → ys.toList.Perm xs.toList → Sb a s s1 → k < ys.size → HeapP.Heap lt (k + 1) ys.size (fn ys) →
      codeAny (model prog w) A (.builtin "_heapq.heapify.sift" ⟨[.ref a, .bool false, .bool true, rawInt k, rawInt k, .none, rawInt ((k : Int) - 1)], []⟩) R s1
  | 0, ys, s1, h, pm, sb, hk, hp => by
    have sz : ys.size = xs.size := by have := pm.length_eq; simpa using this
    exact go_down (lt := lt) (top := 0) (s0 := s) (xs0 := xs) O irr (by omega) hlt (fun zs s' l p hq sb => by unfold After; rw [if_pos (by decide)]; exact K zs s' l p hq sb) _ 0 ys s1 rfl h pm sb hk .refl (HeapP.hole_of_heap (f := fn ys) hp fun _ _ _ => rfl)
  | k + 1, ys, s1, h, pm, sb, hk, hp => by
    have sz : ys.size = xs.size := by have := pm.length_eq; simpa using this
    refine go_down (lt := lt) (top := k + 1) (s0 := s) (xs0 := xs) O irr (by omega) hlt (fun zs s' l p hq sb => ?_) _ (k + 1) ys s1 rfl h pm sb hk .refl (HeapP.hole_of_heap (f := fn ys) hp fun _ _ _ => rfl)
    unfold After
    have e1 : ((k + 1 : Nat) : Int) - 1 = (k : Int) := by omega
    rw [e1, if_neg (by omega)]
    have sz2 : zs.size = xs.size := by have := p.length_eq; simpa using this
    exact down_all O irr hz hlt K k zs s' l p sb (by omega) hq
theorem heapify_any (O : HeapP.Ord lt) (irr : ∀ x, lt x x = false) (hz : xs.size < 1000) (h : LS s.heap a xs)
    (hlt : ∀ (args : Args) (s' : Shared), Sb a s s' → ∀ x y, x ∈ xs.toList → y ∈ xs.toList → SeqAt.RcLt (A.under (.builtin "_heapq.heapify.sift" args)) s' x y (lt x y))
    (K : ∀ ys s', LS s'.heap a ys → ys.toList.Perm xs.toList → HeapP.Heap lt 0 ys.size (fn ys) → Sb a s s' → R (.ok (.ret .none)) s') :
    codeAny (model prog w) A (.builtin "_heapq.heapify" ⟨[.ref a], []⟩) R s := by
  obtain ⟨n, h⟩ := h
  refine codeAny_builtin entry_heapify ?_
  obtain ⟨hp, g, d, tk, os⟩ := s
  unfold Builtin.«_heapq.heapify»
  have sub : isSubtype (.type "list") (.type "list") = pure true := by rw [isSubtype_type]; kernel_rfl
  refine wpAny_bind ?_
  wp_walk using wpAny_loadPart' h
  rw [if_neg (by omega)]
  have sb0 : Sb a ⟨hp, g, d, tk, os⟩ ⟨hp, g, d, tk, os⟩ := .refl
  by_cases e1 : xs.size < 2
  · show wpAny _ _ (if xs.size < 2 then ret Value.none else _) _ _ _
    rw [if_pos e1]
    wp_walk
    exact K xs _ ⟨n, h⟩ (.refl _) (fun i h0 hn ht => by
      have : HeapP.par i = 0 := by unfold HeapP.par; omega
      omega) sb0
  · show wpAny _ _ (if xs.size < 2 then ret Value.none else _) _ _ _
    rw [if_neg e1]
    wp_walk
    refine ⟨plainId_quiet sift_plain _, ?_⟩
    obtain ⟨k, hk⟩ : ∃ k, xs.size / 2 = k + 1 := ⟨xs.size / 2 - 1, by omega⟩
    have hf := HeapP.heap_half (lt := lt) (n := xs.size) (fn xs)
    have e2 : xs.size / 2 - 1 = k := by omega
    have e3 : ((xs.size / 2 : Nat) : Int) - 2 = (k : Int) - 1 := by omega
    rw [hk] at hf
    have := down_all (R := R) (A := A) (prog := prog) (w := w) (s := ⟨hp, g, d, tk, os⟩) O irr hz hlt K k xs ⟨hp, g, d, tk, os⟩ ⟨n, h⟩ (.refl _) sb0 (by omega) hf
    rw [e2, e3]
    exact this
end
end HeapM

set_option Elab.async false
set_option linter.all false
set_option maxRecDepth 100000
set_option maxHeartbeats 4000000
namespace HeapM
open PySem L2 PySem.Spec PyProof.Rows
/-- what rows (minute, place, link) are compared by -/
abbrev Key := Int × List Nat × List Nat
def lLt (a b : List Nat) : Bool := decide (a < b)
theorem lLt_irr (a : List Nat) : lLt a a = false := decide_eq_false (List.lt_irrefl a)
theorem lLt_asym {a b : List Nat} (h : lLt a b = true) : lLt b a = false := decide_eq_false (List.lt_asymm (of_decide_eq_true h))
theorem lLt_tr {a b c : List Nat} (h1 : lLt a b = true) (h2 : lLt b c = true) : lLt a c = true := decide_eq_true (List.lt_trans (of_decide_eq_true h1) (of_decide_eq_true h2))
theorem lLt_tri {a b : List Nat} (h1 : lLt a b = false) (ne : a ≠ b) : lLt b a = true := by
  refine decide_eq_true ?_
  have n1 : ¬ a < b := of_decide_eq_false h1
  have n2 : b ≤ a := n1
  by_cases h : b < a
  · exact h
  · exact absurd (List.le_antisymm h n2) ne
def keyLt (x y : Key) : Bool := if x.1 = y.1 then (if x.2.1 = y.2.1 then (if x.2.2 = y.2.2 then false else lLt x.2.2 y.2.2) else lLt x.2.1 y.2.1) else decide (x.1 < y.1)
theorem keyLt_irr (x : Key) : keyLt x x = false := by unfold keyLt; rw [if_pos rfl, if_pos rfl, if_pos rfl]
theorem keyLt_asym {x y : Key} (h : keyLt x y = true) : keyLt y x = false := by
  obtain ⟨m, s, t⟩ := x
  obtain ⟨m', s', t'⟩ := y
  unfold keyLt at *
  simp only at *
  by_cases e1 : m = m'
  · subst e1
    rw [if_pos rfl] at *
    by_cases e2 : s = s'
    · subst e2
      rw [if_pos rfl] at *
      by_cases e3 : t = t'
      · rw [if_pos e3] at h; cases h
      · rw [if_neg e3] at h
        rw [if_neg fun z => e3 z.symm]
        exact lLt_asym h
    · rw [if_neg e2] at h
      rw [if_neg fun z => e2 z.symm]
      exact lLt_asym h
  · rw [if_neg e1] at h
    rw [if_neg fun z => e1 z.symm]
    have := of_decide_eq_true h
    exact decide_eq_false (by omega)
theorem keyLt_tr {x y z : Key} (h1 : keyLt x y = true) (h2 : keyLt y z = true) : keyLt x z = true := by
  obtain ⟨m, s, t⟩ := x
  obtain ⟨m', s', t'⟩ := y
  obtain ⟨m2, s2, t2⟩ := z
  unfold keyLt at *
  simp only at *
  by_cases e1 : m = m'
  · subst e1
    rw [if_pos rfl] at h1
    by_cases f1 : m = m2
    · subst f1
      rw [if_pos rfl] at h2 ⊢
      by_cases e2 : s = s'
      · subst e2
        rw [if_pos rfl] at h1
        by_cases f2 : s = s2
        · subst f2
          rw [if_pos rfl] at h2 ⊢
          by_cases e3 : t = t'
          · rw [if_pos e3] at h1; cases h1
          · rw [if_neg e3] at h1
            by_cases f3 : t' = t2
            · rw [if_pos f3] at h2; cases h2
            · rw [if_neg f3] at h2
              have g := lLt_tr h1 h2
              by_cases g3 : t = t2
              · rw [g3, lLt_irr] at g; cases g
              · rw [if_neg g3]; exact g
        · rw [if_neg f2] at h2 ⊢; exact h2
      · rw [if_neg e2] at h1
        by_cases f2 : s' = s2
        · subst f2
          rw [if_neg e2]; exact h1
        · rw [if_neg f2] at h2
          have g := lLt_tr h1 h2
          by_cases g2 : s = s2
          · rw [g2, lLt_irr] at g; cases g
          · rw [if_neg g2]; exact g
    · rw [if_neg f1] at h2 ⊢; exact h2
  · rw [if_neg e1] at h1
    have a := of_decide_eq_true h1
    by_cases f1 : m' = m2
    · subst f1
      rw [if_neg e1]; exact h1
    · rw [if_neg f1] at h2
      have b := of_decide_eq_true h2
      rw [if_neg (by omega)]
      exact decide_eq_true (by omega)
theorem keyLt_tri {x y : Key} (h : keyLt x y = false) (ne : x ≠ y) : keyLt y x = true := by
  obtain ⟨m, s, t⟩ := x
  obtain ⟨m', s', t'⟩ := y
  unfold keyLt at *
  simp only at *
  by_cases e1 : m = m'
  · subst e1
    rw [if_pos rfl] at *
    by_cases e2 : s = s'
    · subst e2
      rw [if_pos rfl] at *
      by_cases e3 : t = t'
      · subst e3; exact absurd rfl ne
      · rw [if_neg e3] at h
        rw [if_neg fun z => e3 z.symm]
        exact lLt_tri h e3
    · rw [if_neg e2] at h
      rw [if_neg fun z => e2 z.symm]
      exact lLt_tri h e2
  · rw [if_neg e1] at h
    rw [if_neg fun z => e1 z.symm]
    have := of_decide_eq_false h
    exact decide_eq_true (by omega)
/-- the order of items by their keys -/
theorem ord_key (key : Value → Key) : HeapP.Ord fun x y => keyLt (key x) (key y) where
  asym := fun _ _ h => keyLt_asym h
  tr := fun x y z h1 h2 => by
    show keyLt (key z) (key x) = false
    cases h : keyLt (key z) (key x) with
    | false => rfl
    | true =>
      by_cases e : key y = key x
      · rw [e, h] at h2; cases h2
      · have h1 : keyLt (key y) (key x) = false := h1
        have := keyLt_tr (keyLt_tri h1 e |> fun g => h) (keyLt_tri h1 e)
        rw [h2] at this; cases this
theorem irr_key (key : Value → Key) (x : Value) : (fun x y => keyLt (key x) (key y)) x x = false := keyLt_irr _
/-- a row (minute, text, text) in the model's heap -/
def RowAt (h : Heap) (v : Value) (k : Key) : Prop := ∃ (t : Addr) (m : Int) (x y : Str) (t1 t2 t3 : Tok), v = .ref t ∧ h.IsTuple t #[.int m t1, .str x t2, .str y t3] ∧ k = (m, x.cps.toList, y.cps.toList)
theorem str_eq (x y : Str) : (x == y) = decide (x.cps.toList = y.cps.toList) := by
  by_cases e : x = y
  · rw [e]; simp
  · have : x.cps.toList ≠ y.cps.toList := fun z => e (Str.ext' (Array.toList_inj.mp z))
    rw [decide_eq_false this]
    simpa using e
theorem rc_rows {A : Around} {s : Shared} {v u : Value} {k j : Key} (hu : A.units < cLine) (hv : RowAt s.heap v k) (hw : RowAt s.heap u j) : SeqAt.RcLt A s v u (keyLt k j) := by
  obtain ⟨t, m, x, y, t1, t2, t3, rfl, h1, rfl⟩ := hv
  obtain ⟨t', m', x', y', t1', t2', t3', rfl, h2, rfl⟩ := hw
  have key := SeqAt.RcLt.tuples (A := A) (s := s) (e := fun i => if i = 0 then m == m' else if i = 1 then x == x' else y == y') (r := fun i => if i = 0 then decide (m < m') else if i = 1 then decide (x.cps.toList < x'.cps.toList) else decide (y.cps.toList < y'.cps.toList)) h1 h2 hu
    (fun i i1 i2 => by
      match i, i1 with
      | 0, _ => exact SeqAt.EqAt.int_int m t1 m' t1'
      | 1, _ => exact SeqAt.EqAt.str_str x t2 x' t2'
      | 2, _ => exact SeqAt.EqAt.str_str y t3 y' t3')
    (fun i i1 i2 _ => by
      match i, i1 with
      | 0, _ => exact fun prog w E Q q => PyProof.Rows.lt_int q
      | 1, _ => exact fun prog w E Q q => PyProof.Rows.lt_str q
      | 2, _ => exact fun prog w E Q q => PyProof.Rows.lt_str q)
  have e : SeqAt.firstLt (fun i => if i = 0 then m == m' else if i = 1 then x == x' else y == y') (fun i => if i = 0 then decide (m < m') else if i = 1 then decide (x.cps.toList < x'.cps.toList) else decide (y.cps.toList < y'.cps.toList)) (decide (3 < 3)) (List.range (min 3 3)) = keyLt (m, x.cps.toList, y.cps.toList) (m', x'.cps.toList, y'.cps.toList) := by
    show SeqAt.firstLt _ _ _ [0, 1, 2] = _
    unfold keyLt
    simp only [SeqAt.firstLt, str_eq]
    by_cases e1 : m = m' <;> by_cases e2 : x.cps.toList = x'.cps.toList <;> by_cases e3 : y.cps.toList = y'.cps.toList <;> simp [e1, e2, e3, lLt]
  rw [← e]
  exact key
end HeapM

set_option Elab.async false
set_option linter.all false
set_option maxRecDepth 100000
set_option maxHeartbeats 4000000
namespace MinD
open PySem L2 PySem.Spec PyProof.Rows
def rMinD (K : PySem.W.Frag) : List V → List V → Hp → VK → Prop := fun vs zs H Q => ∃ (a : Addr) (ns : List Int), vs = [.ref a] ∧ zs = [.non] ∧ SqL K H a (ns.map V.int) ∧ (ns = [] → Q .non H) ∧ ∀ m, m ∈ ns → (∀ y ∈ ns, m ≤ y) → Q (.int m) H
theorem ints_at : ∀ {ns : List Int} {us : List Value}, Vals (ns.map V.int) us → ∀ (i : Nat) (v : Value), us[i]? = some v → ∃ n t, ns[i]? = some n ∧ v = .int n t
  | [], _, .nil, i, v, h => by cases h
  | n :: ns, _, .cons r rr, 0, v, h => by
    obtain ⟨t, rfl⟩ := r
    cases h
    exact ⟨n, t, rfl, rfl⟩
  | n :: ns, _, .cons r rr, i + 1, v, h => ints_at rr i v h
section
variable {X : Cx}
theorem call_minI (hc : X.calm = true) : CallRK X (.builtin "min") ["default"] (rMinD X.K) := by
  intro pins s σ H xs zs us ws Q I r rz h
  obtain ⟨a, ns, rfl, rfl, hq, q0, q1⟩ := h
  cases r with
  | cons ra r =>
    cases r
    cases ra
    cases rz with
    | cons rn rz =>
      cases rz
      cases rn
      obtain ⟨its, rv, pl, hz⟩ := I.list hq
      have ln := rv.length
      rw [List.length_map] at ln
      have at_ : ∀ (i : Nat) (v : Value), its.toArray[i]? = some v → ∃ t, v = .int (ns.getD i 0) t := fun i v hv => by
        obtain ⟨n, t, h1, h2⟩ := ints_at rv i v (by simpa using hv)
        refine ⟨t, ?_⟩
        rw [List.getD_eq_getElem?_getD, h1]
        exact h2
      have sz : its.toArray.size = ns.length := by simp [ln]
      refine call_min (bt := fun i j => decide (ns.getD i 0 < ns.getD j 0)) (Gd := fun _ => True) (I.ok.hd hc) pl.isList (fun i j vi vj s Q E pi pj _ q => CmpOf.ints_lt (fun i => ns.getD i 0) (P := fun i v => its.toArray[i]? = some v) at_ i j vi vj s Q E pi pj q) trivial (fun _ _ _ _ => trivial) (fun e h' tk hk => ?_) (fun v h' tk pos pv hk => ?_)
      · exact ⟨.non, H, I.kept (t' := tk) hk, rfl, q0 (List.length_eq_zero_iff.mp (by omega))⟩
      · obtain ⟨b1, b2⟩ := best_is (fun i j => decide (ns.getD i 0 < ns.getD j 0)) (fun i j => ns.getD i 0 ≤ ns.getD j 0) (fun _ _ _ => Int.le_trans) (fun _ => Int.le_refl _) (fun i j h => by have := of_decide_eq_true h; omega) (fun i j h => by have := of_decide_eq_false h; omega) (its.toArray.size - 1)
        obtain ⟨t, rfl⟩ := at_ _ _ pv
        refine ⟨.int (ns.getD (argBest (fun i j => decide (ns.getD i 0 < ns.getD j 0)) (its.toArray.size - 1)) 0), H, I.kept (t' := tk) hk, ⟨t, rfl⟩, q1 _ ?_ fun y hy => ?_⟩
        · have lt : argBest (fun i j => decide (ns.getD i 0 < ns.getD j 0)) (its.toArray.size - 1) < ns.length := by omega
          rw [List.getD_eq_getElem?_getD, List.getElem?_eq_getElem lt]
          exact List.getElem_mem lt
        · obtain ⟨j, hj, rfl⟩ := List.getElem_of_mem hy
          have := b2 j (by omega)
          rw [List.getD_eq_getElem?_getD (i := j), List.getElem?_eq_getElem hj] at this
          exact this
end
end MinD

set_option Elab.async false
set_option linter.all false
set_option maxRecDepth 100000
set_option maxHeartbeats 4000000
namespace MinD
open PySem L2 PySem.Spec PyProof.Rows
theorem tuple_mul1 (l : Addr) (items : Array Value) (n : Nat) (dd : Option Addr) (sl : Array (Option Value)) (u : Tok) :
    Meets (Builtin.«tuple.__mul__» ⟨[.ref l, .int 1 u], []⟩) (fun _ R s => s.heap.get? l = some { cls := .type "tuple", dict := dd, data := .seq items n, slots := sl } ∧ R (.ok (.ret (.ref l))) s) := by
  refine .of_wp fun prog w A R s h => ?_
  obtain ⟨hp, g, d, t, os⟩ := s
  obtain ⟨h, hR⟩ := h
  have e : (items.isEmpty || (1 : Int) == 1) = true := by simp
  unfold Builtin.«tuple.__mul__»
  wp_walk using PySem.wpAny_loadPart' h
  exact ⟨_, rfl, hR⟩
/-- t * k, k at least 1 -/
def rRep1 (K : PySem.W.Frag) : V → V → Hp → VK → Prop := fun x y H Q => ∃ (l : Addr) (k : Int) (xs : List V), x = .ref l ∧ y = .int k ∧ SqT K H l xs ∧ xs ≠ [] ∧ 1 ≤ k ∧ k ≤ 1000 ∧ xs.length ≤ 1000 ∧ (k = 1 → Q (.ref l) H) ∧ (2 ≤ k → ∀ p, H p = none → Q (.ref p) (upd H p (.tup (List.replicate k.toNat xs).flatten)))
section
variable {X : Cx}
theorem op_rep1 : OpR X (binaryOp .Mult) (rRep1 X.K) := by
  intro pins s σ H x y v u Q I rv ru h
  obtain ⟨l, k, xs, rfl, rfl, st, ne, k1, k1000, lx, q1, q2⟩ := h
  by_cases c : k = 1
  · subst c
    cases rv
    obtain ⟨t, rfl⟩ := ru
    obtain ⟨its, vs, ⟨o, ho, hc, n, hd⟩, _⟩ := I.tuple st
    obtain ⟨c, dd, dt, sl⟩ := o
    dsimp only at hc hd
    subst hc
    subst hd
    refine wpAny_binaryOp_repeat_ref (T := "tuple") (U := "int") (by decide +kernel) ⟨_, ho, rfl⟩ (fun s' => typeIs_int _ _ _) L2.noFill_tuple_mul F.fills_int_mul F.slot_int_rmul L2.repeat_tuple F.slot_int_index.lookup ?_
    refine call_meets F.slot_int_rmul (typeIs_int _ _ _) F.entry_int_rmul (F.args_int_rmul_2 _ _) (L2.int_rmul_tuple 1 t l _ n dd sl) ⟨ho, ?_⟩
    refine ⟨rfl, ⟨_, ho, rfl⟩, ?_⟩
    refine call_meets F.slot_tuple_mul ⟨_, ho, rfl⟩ F.entry_tuple_mul (F.args_tuple_mul_2 _ _) (tuple_mul1 l _ n dd sl t) ⟨ho, ?_⟩
    exact ⟨.ref l, H, I, rfl, q1 rfl⟩
  · exact op_repT pins s σ H _ _ v u Q I rv ru ⟨l, k, xs, rfl, rfl, st, ne, by omega, k1000, lx, q2 (by omega)⟩
end
end MinD

set_option Elab.async false
set_option linter.all false
set_option maxRecDepth 100000
set_option maxHeartbeats 4000000
/-! Fires, without Python: through a link, what is reached, the first minutes (points 16 to 18). -/
namespace FP
open PySem
/-- a link as one fire passes it: the number for each wind -/
structure Lk where
  o : Str
  t : Str
  row : List (Option Int)
abbrev Wt := List (Int × Nat)
def windAt (ws : Wt) (m : Int) : Nat := ws.foldl (fun z r => if r.1 ≤ m then r.2 else z) (ws.headD (0, 0)).2
def num (row : List (Option Int)) (w : Nat) : Option Int := row.getD w none
def outs (ws : Wt) (m : Int) : List Int := m :: (ws.map (·.1)).filter fun s => decide (m < s)
def cand (ws : Wt) (row : List (Option Int)) (s : Int) : Option Int := (num row (windAt ws s)).map (s + ·)
def least : Option Int → Option Int → Option Int
  | c, none => c
  | none, some x => some x
  | some c, some x => if x < c then some x else some c
def leastL (l : List (Option Int)) : Option Int := l.foldl least none
def thr (ws : Wt) (row : List (Option Int)) (m : Int) : Option Int := leastL ((outs ws m).map (cand ws row))
theorem fold_mem : ∀ {l : List (Option Int)} {c : Option Int} {t : Int}, l.foldl least c = some t → c = some t ∨ some t ∈ l
  | [], _, _, h => .inl h
  | x :: l, c, t, h => by
    rcases fold_mem (l := l) h with q | q
    · cases x with
      | none =>
        refine .inl ?_
        cases c <;> exact q
      | some x =>
        cases c with
        | none => exact .inr (by rw [show some t = some x from q.symm]; exact List.mem_cons_self)
        | some c =>
          have q : (if x < c then some x else some c) = some t := q
          split at q
          · exact .inr (by rw [q]; exact List.mem_cons_self)
          · exact .inl q
    · exact .inr (List.mem_cons_of_mem _ q)
theorem fold_le : ∀ {l : List (Option Int)} {c : Option Int} {x : Int}, (c = some x ∨ some x ∈ l) → ∃ t, l.foldl least c = some t ∧ t ≤ x
  | [], c, x, h => by
    rcases h with h | h
    · exact ⟨x, h, Int.le_refl _⟩
    · cases h
  | y :: l, c, x, h => by
    have step : ∃ z, least c y = some z ∧ z ≤ x ∨ some x ∈ l := by
      rcases h with h | h
      · subst h
        cases y with
        | none => exact ⟨x, .inl ⟨rfl, Int.le_refl _⟩⟩
        | some y =>
          by_cases q : y < x
          · exact ⟨y, .inl ⟨by show (if y < x then _ else _) = _; rw [if_pos q], by omega⟩⟩
          · exact ⟨x, .inl ⟨by show (if y < x then _ else _) = _; rw [if_neg q], Int.le_refl _⟩⟩
      · rcases List.mem_cons.mp h with h | h
        · subst h
          cases c with
          | none => exact ⟨x, .inl ⟨rfl, Int.le_refl _⟩⟩
          | some c =>
            by_cases q : x < c
            · exact ⟨x, .inl ⟨by show (if x < c then _ else _) = _; rw [if_pos q], Int.le_refl _⟩⟩
            · exact ⟨c, .inl ⟨by show (if x < c then _ else _) = _; rw [if_neg q], by omega⟩⟩
        · exact ⟨x, .inr h⟩
    obtain ⟨z, ⟨h1, h2⟩ | h⟩ := step
    · obtain ⟨t, e, le⟩ := fold_le (l := l) (c := least c y) (x := z) (.inl h1)
      exact ⟨t, e, Int.le_trans le h2⟩
    · exact fold_le (l := l) (c := least c y) (.inr h)
theorem thr_mem {ws : Wt} {row : List (Option Int)} {m t : Int} (h : thr ws row m = some t) : ∃ s ∈ outs ws m, cand ws row s = some t := by
  rcases fold_mem h with q | q
  · cases q
  · obtain ⟨s, hs, e⟩ := List.mem_map.mp q
    exact ⟨s, hs, e⟩
theorem thr_le {ws : Wt} {row : List (Option Int)} {m s x : Int} (hs : s ∈ outs ws m) (h : cand ws row s = some x) : ∃ t, thr ws row m = some t ∧ t ≤ x :=
  fold_le (.inr (List.mem_map.mpr ⟨s, hs, h⟩))
theorem outs_le {ws : Wt} {m s : Int} (h : s ∈ outs ws m) : m ≤ s := by
  rcases List.mem_cons.mp h with h | h
  · omega
  · have := of_decide_eq_true (List.mem_filter.mp h).2
    omega
def RowOk (row : List (Option Int)) : Prop := ∀ x, some x ∈ row → 1 ≤ x
theorem num_in {row : List (Option Int)} {w : Nat} {x : Int} (h : num row w = some x) : some x ∈ row := by
  unfold num at h
  rw [List.getD_eq_getElem?_getD] at h
  cases q : row[w]? with
  | none => rw [q] at h; cases h
  | some y =>
    rw [q] at h
    have e : y = some x := h
    rw [← e]
    exact List.mem_of_getElem? q
theorem thr_gt {ws : Wt} {row : List (Option Int)} {m t : Int} (ok : RowOk row) (h : thr ws row m = some t) : m < t := by
  obtain ⟨s, hs, e⟩ := thr_mem h
  have := outs_le hs
  unfold cand at e
  obtain ⟨n, hn, rfl⟩ := Option.map_eq_some_iff.mp e
  have := ok n (num_in hn)
  omega
theorem fold_same {a b : Int} : ∀ {ws : Wt} {z : Nat}, (∀ r ∈ ws, (r.1 ≤ a ↔ r.1 ≤ b)) → ws.foldl (fun z r => if r.1 ≤ a then r.2 else z) z = ws.foldl (fun z r => if r.1 ≤ b then r.2 else z) z
  | [], _, _ => rfl
  | r :: ws, z, h => by
    have e : (if r.1 ≤ a then r.2 else z) = (if r.1 ≤ b then r.2 else z) := by
      have := h r List.mem_cons_self
      by_cases q : r.1 ≤ a
      · rw [if_pos q, if_pos (this.mp q)]
      · rw [if_neg q, if_neg fun y => q (this.mpr y)]
    rw [List.foldl_cons, List.foldl_cons, e]
    exact fold_same fun r hr => h r (List.mem_cons_of_mem _ hr)
theorem wind_same {ws : Wt} {a b : Int} (h : ∀ r ∈ ws, (r.1 ≤ a ↔ r.1 ≤ b)) : windAt ws a = windAt ws b := fold_same h
theorem max_of : ∀ {l : List Int}, l ≠ [] → ∃ x ∈ l, ∀ y ∈ l, y ≤ x
  | [], h => absurd rfl h
  | [x], _ => ⟨x, List.mem_cons_self, fun y hy => by rw [List.mem_singleton.mp hy]; exact Int.le_refl _⟩
  | x :: z :: l, _ => by
    obtain ⟨m, hm, h⟩ := max_of (l := z :: l) (by simp)
    by_cases q : m ≤ x
    · exact ⟨x, List.mem_cons_self, fun y hy => by
        rcases List.mem_cons.mp hy with rfl | hy
        · exact Int.le_refl _
        · exact Int.le_trans (h y hy) q⟩
    · exact ⟨m, List.mem_cons_of_mem _ hm, fun y hy => by
        rcases List.mem_cons.mp hy with rfl | hy
        · omega
        · exact h y hy⟩
theorem outs_back {ws : Wt} {a b : Int} (h : a ≤ b) : ∃ s ∈ outs ws a, s ≤ b ∧ windAt ws s = windAt ws b := by
  by_cases q : ((ws.map (·.1)).filter fun s => decide (a < s ∧ s ≤ b)) = []
  · refine ⟨a, List.mem_cons_self, h, wind_same fun r hr => ⟨fun z => by omega, fun z => ?_⟩⟩
    rw [List.filter_eq_nil_iff] at q
    have := q r.1 (List.mem_map.mpr ⟨r, hr, rfl⟩)
    rw [decide_eq_true_iff] at this
    omega
  · obtain ⟨s, hs, mx⟩ := max_of q
    obtain ⟨h1, h2⟩ := List.mem_filter.mp hs
    have h2 := of_decide_eq_true h2
    refine ⟨s, List.mem_cons_of_mem _ (List.mem_filter.mpr ⟨h1, decide_eq_true h2.1⟩), h2.2, wind_same fun r hr => ⟨fun z => by omega, fun z => ?_⟩⟩
    by_cases c : a < r.1
    · exact mx r.1 (List.mem_filter.mpr ⟨List.mem_map.mpr ⟨r, hr, rfl⟩, decide_eq_true ⟨c, z⟩⟩)
    · omega
theorem thr_mono {ws : Wt} {row : List (Option Int)} {a b t : Int} (le : a ≤ b) (h : thr ws row b = some t) : ∃ t', thr ws row a = some t' ∧ t' ≤ t := by
  obtain ⟨s, hs, e⟩ := thr_mem h
  rcases List.mem_cons.mp hs with rfl | hs
  · obtain ⟨u, hu, ul, uw⟩ := outs_back (ws := ws) le
    unfold cand at e
    obtain ⟨n, hn, rfl⟩ := Option.map_eq_some_iff.mp e
    obtain ⟨t', h1, h2⟩ := thr_le (row := row) (x := u + n) hu (by unfold cand; rw [uw, hn]; rfl)
    exact ⟨t', h1, by omega⟩
  · obtain ⟨h1, h2⟩ := List.mem_filter.mp hs
    have h2 := of_decide_eq_true h2
    exact thr_le (List.mem_cons_of_mem _ (List.mem_filter.mpr ⟨h1, decide_eq_true (by omega)⟩)) e
/-! ### what is reached -/
structure Fire where
  ws : Wt
  ls : List Lk
  st : List (Str × Int)
  stop : Str → Option Int
def ahead (m : Option Int) (t : Int) : Bool := match m with
  | none => true
  | some m => decide (t < m)
theorem ahead_mono {m : Option Int} {a b : Int} (le : a ≤ b) (h : ahead m b = true) : ahead m a = true := by
  cases m with
  | none => rfl
  | some m =>
    have := of_decide_eq_true h
    exact decide_eq_true (by omega)
inductive Reach (F : Fire) : Str → Int → Prop
  | start {p : Str} {t : Int} : (p, t) ∈ F.st → ahead (F.stop p) t = true → Reach F p t
  | step {l : Lk} {t t' : Int} : Reach F l.o t → l ∈ F.ls → thr F.ws l.row t = some t' → ahead (F.stop l.t) t' = true → Reach F l.t t'
structure Ok (F : Fire) (ps : List Str) : Prop where
  nn : ∀ r ∈ F.st, 0 ≤ r.2
  rows : ∀ l ∈ F.ls, RowOk l.row
  sp : ∀ r ∈ F.st, r.1 ∈ ps
  ends : ∀ l ∈ F.ls, l.o ∈ ps ∧ l.t ∈ ps
theorem Reach.nn {F : Fire} {ps : List Str} (ok : Ok F ps) {p : Str} {t : Int} (h : Reach F p t) : 0 ≤ t ∧ p ∈ ps := by
  induction h with
  | start h _ => exact ⟨ok.nn _ h, ok.sp _ h⟩
  | step _ hl ht _ ih =>
    have := thr_gt (ok.rows _ hl) ht
    exact ⟨by omega, (ok.ends _ hl).2⟩
structure IsFire (F : Fire) (f : Str → Option Int) : Prop where
  sound : ∀ p t, f p = some t → Reach F p t
  start : ∀ p t, (p, t) ∈ F.st → ahead (F.stop p) t = true → ∃ s, f p = some s ∧ s ≤ t
  step : ∀ l ∈ F.ls, ∀ t t', f l.o = some t → thr F.ws l.row t = some t' → ahead (F.stop l.t) t' = true → ∃ s, f l.t = some s ∧ s ≤ t'
theorem IsFire.le {F : Fire} {f : Str → Option Int} (h : IsFire F f) {p : Str} {t : Int} (r : Reach F p t) : ∃ s, f p = some s ∧ s ≤ t := by
  induction r with
  | start a b => exact h.start _ _ a b
  | step _ hl ht ha ih =>
    obtain ⟨s, e, le⟩ := ih
    obtain ⟨s', e', le'⟩ := thr_mono le ht
    obtain ⟨u, eu, lu⟩ := h.step _ hl _ _ e e' (ahead_mono le' ha)
    exact ⟨u, eu, Int.le_trans lu le'⟩
theorem IsFire.uniq {F : Fire} {f g : Str → Option Int} (hf : IsFire F f) (hg : IsFire F g) (p : Str) : f p = g p := by
  have one : ∀ {f g : Str → Option Int}, IsFire F f → IsFire F g → ∀ t, f p = some t → ∃ s, g p = some s ∧ s ≤ t := fun hf hg t e => hg.le (hf.sound _ _ e)
  cases ef : f p with
  | none =>
    cases eg : g p with
    | none => rfl
    | some t =>
      obtain ⟨s, e, _⟩ := one hg hf t eg
      rw [ef] at e; cases e
  | some t =>
    obtain ⟨s, e, le⟩ := one hf hg t ef
    obtain ⟨u, eu, lu⟩ := one hg hf s e
    rw [ef] at eu
    cases eu
    rw [e, show s = t by omega]
theorem reach_min {F : Fire} {ps : List Str} (ok : Ok F ps) {p : Str} : ∀ (n : Nat) {t : Int}, Reach F p t → t.toNat ≤ n → ∃ s, Reach F p s ∧ ∀ u, Reach F p u → s ≤ u
  | 0, t, h, le => ⟨t, h, fun u hu => by
    have := (h.nn ok).1
    have := (hu.nn ok).1
    omega⟩
  | n + 1, t, h, le => by
    by_cases q : ∃ u, Reach F p u ∧ u < t
    · obtain ⟨u, hu, lt⟩ := q
      have := (hu.nn ok).1
      exact reach_min ok n hu (by omega)
    · exact ⟨t, h, fun u hu => by
        have : ¬ u < t := fun z => q ⟨u, hu, z⟩
        omega⟩
open Classical in
/-- the first minutes -/
noncomputable def first (F : Fire) (p : Str) : Option Int := if h : ∃ s, Reach F p s ∧ ∀ u, Reach F p u → s ≤ u then some (Classical.choose h) else none
theorem first_some {F : Fire} {p : Str} {t : Int} (h : first F p = some t) : Reach F p t ∧ ∀ u, Reach F p u → t ≤ u := by
  unfold first at h
  split at h
  · rename_i q
    cases h
    exact Classical.choose_spec q
  · cases h
theorem first_le {F : Fire} {ps : List Str} (ok : Ok F ps) {p : Str} {t : Int} (h : Reach F p t) : ∃ s, first F p = some s ∧ s ≤ t := by
  have q := reach_min ok t.toNat h (Nat.le_refl _)
  unfold first
  rw [dif_pos q]
  exact ⟨_, rfl, (Classical.choose_spec q).2 t h⟩
theorem first_is {F : Fire} {ps : List Str} (ok : Ok F ps) : IsFire F (first F) where
  sound := fun p t h => (first_some h).1
  start := fun p t h a => first_le ok (.start h a)
  step := fun l hl t t' h ht a => first_le ok (.step (first_some h).1 hl ht a)
theorem is_first {F : Fire} {ps : List Str} (ok : Ok F ps) {f : Str → Option Int} (h : IsFire F f) (p : Str) : f p = first F p := h.uniq (first_is ok) p
theorem first_in {F : Fire} {ps : List Str} (ok : Ok F ps) {p : Str} {t : Int} (h : first F p = some t) : p ∈ ps ∧ 0 ≤ t := ⟨((first_some h).1.nn ok).2, ((first_some h).1.nn ok).1⟩
/-! ### rounds over all links -/
def Sound (F : Fire) (f : Str → Option Int) : Prop := ∀ p t, f p = some t → Reach F p t
def Starts (F : Fire) (f : Str → Option Int) : Prop := ∀ p t, (p, t) ∈ F.st → ahead (F.stop p) t = true → ∃ s, f p = some s ∧ s ≤ t
/-- g is nowhere later than f -/
def Le (g f : Str → Option Int) : Prop := ∀ p t, f p = some t → ∃ s, g p = some s ∧ s ≤ t
theorem Le.refl (f : Str → Option Int) : Le f f := fun p t h => ⟨t, h, Int.le_refl _⟩
theorem Le.trans {f g h : Str → Option Int} (a : Le h g) (b : Le g f) : Le h f := fun p t e => by
  obtain ⟨s, e1, l1⟩ := b p t e
  obtain ⟨u, e2, l2⟩ := a p s e1
  exact ⟨u, e2, Int.le_trans l2 l1⟩
/-- the links of the list are taken from f to g -/
def Taken (F : Fire) (ls : List Lk) (f g : Str → Option Int) : Prop := ∀ l ∈ ls, ∀ t t', f l.o = some t → thr F.ws l.row t = some t' → ahead (F.stop l.t) t' = true → ∃ s, g l.t = some s ∧ s ≤ t'
open Classical in
noncomputable def bad (F : Fire) (ps : List Str) (f : Str → Option Int) : List Str := ps.filter fun p => decide (f p ≠ first F p)
theorem final_stays {F : Fire} {ps : List Str} (ok : Ok F ps) {f g : Str → Option Int} (sg : Sound F g) (le : Le g f) {p : Str} (h : f p = first F p) : g p = first F p := by
  cases e : first F p with
  | none =>
    cases q : g p with
    | none => rfl
    | some t =>
      obtain ⟨s, e2, _⟩ := first_le ok (sg p t q)
      rw [e] at e2; cases e2
  | some t =>
    rw [e] at h
    obtain ⟨s, e1, l1⟩ := le p t h
    have := (first_some e).2 s (sg p s e1)
    rw [e1, show s = t by omega]
theorem round_step {F : Fire} {ps : List Str} (ok : Ok F ps) {f g : Str → Option Int} (sf : Sound F f) (sg : Sound F g) (st : Starts F f) (le : Le g f) (tk : Taken F F.ls f g) (ne : bad F ps f ≠ []) : (bad F ps g).length < (bad F ps f).length := by
  have vals : ∀ p ∈ bad F ps f, ∃ m, first F p = some m := fun p hp => by
    have hn := of_decide_eq_true (List.mem_filter.mp hp).2
    cases e : first F p with
    | some m => exact ⟨m, rfl⟩
    | none =>
      exfalso
      cases q : f p with
      | none => exact hn (by rw [q, e])
      | some t =>
        obtain ⟨s, e2, _⟩ := first_le ok (sf p t q)
        rw [e] at e2; cases e2
  obtain ⟨p, hp, mn⟩ : ∃ p ∈ bad F ps f, ∀ q ∈ bad F ps f, ∀ a b, first F p = some a → first F q = some b → a ≤ b := by
    have key : ∀ l : List Str, l ≠ [] → (∀ p ∈ l, ∃ m, first F p = some m) → ∃ p ∈ l, ∀ q ∈ l, ∀ a b, first F p = some a → first F q = some b → a ≤ b := fun l => by
      induction l with
      | nil => exact fun h => absurd rfl h
      | cons x l ih =>
        intro _ hv
        cases l with
        | nil => exact ⟨x, List.mem_cons_self, fun q hq a b ha hb => by rw [List.mem_singleton.mp hq, ha] at hb; cases hb; exact Int.le_refl _⟩
        | cons y l =>
          obtain ⟨p, hp, mn⟩ := ih (by simp) fun p hp => hv p (List.mem_cons_of_mem _ hp)
          obtain ⟨mx, ex⟩ := hv x List.mem_cons_self
          obtain ⟨mp, ep⟩ := hv p (List.mem_cons_of_mem _ hp)
          by_cases c : mx ≤ mp
          · refine ⟨x, List.mem_cons_self, fun q hq a b ha hb => ?_⟩
            rw [ex] at ha; cases ha
            rcases List.mem_cons.mp hq with rfl | hq
            · rw [ex] at hb; cases hb; exact Int.le_refl _
            · exact Int.le_trans c (mn q hq _ _ ep hb)
          · refine ⟨p, List.mem_cons_of_mem _ hp, fun q hq a b ha hb => ?_⟩
            rcases List.mem_cons.mp hq with rfl | hq
            · rw [ex] at hb; cases hb
              rw [ep] at ha; cases ha
              omega
            · exact mn q hq a b ha hb
    exact key _ ne vals
  obtain ⟨m, em⟩ := vals p hp
  have pp := (List.mem_filter.mp hp).1
  have good : g p = first F p := by
    obtain ⟨r, mr⟩ := first_some em
    cases r with
    | start a b =>
      obtain ⟨s, e, l⟩ := st _ _ a b
      have := mr s (sf _ _ e)
      exact absurd (show f p = first F p by rw [e, em, show s = m by omega]) (of_decide_eq_true (List.mem_filter.mp hp).2)
    | @step l t _ hr hl ht ha =>
      obtain ⟨t0, e0, l0⟩ := first_le ok hr
      have gt := thr_gt (ok.rows l hl) ht
      have fo : f l.o = first F l.o := Classical.byContradiction fun c => by
        have := mn l.o (List.mem_filter.mpr ⟨(ok.ends l hl).1, decide_eq_true c⟩) _ _ em e0
        omega
      obtain ⟨t1, e1, l1⟩ := thr_mono l0 ht
      obtain ⟨s, e2, l2⟩ := tk l hl t0 t1 (fo.trans e0) e1 (ahead_mono l1 ha)
      have := mr s (sg _ _ e2)
      rw [e2, em, show s = m by omega]
  have sub : ∀ q ∈ bad F ps g, q ∈ bad F ps f := fun q hq => by
    obtain ⟨h1, h2⟩ := List.mem_filter.mp hq
    exact List.mem_filter.mpr ⟨h1, decide_eq_true fun c => of_decide_eq_true h2 (final_stays ok sg le c)⟩
  have lt : ∀ (l : List Str), p ∈ l → (l.filter fun p => decide (¬ g p = first F p)).length + (if f p = first F p then 0 else 1) ≤ (l.filter fun p => decide (¬ f p = first F p)).length := fun l => by
    have all : ∀ l : List Str, (l.filter fun p => decide (¬ g p = first F p)).length ≤ (l.filter fun p => decide (¬ f p = first F p)).length := fun l => by
      induction l with
      | nil => exact Nat.le_refl _
      | cons x l ih =>
        rw [List.filter_cons, List.filter_cons]
        by_cases c : f x = first F x
        · have c2 := final_stays ok sg le c
          simp only [c, c2, not_true_eq_false, decide_false, Bool.false_eq_true, if_false]
          exact ih
        · simp only [c, not_false_eq_true, decide_true, if_true]
          split
          · rw [List.length_cons, List.length_cons]; omega
          · rw [List.length_cons]; omega
    induction l with
    | nil => exact fun h => by cases h
    | cons x l ih =>
      intro h
      have nf : ¬ f p = first F p := of_decide_eq_true (List.mem_filter.mp hp).2
      rw [if_neg nf] at ih ⊢
      rw [List.filter_cons, List.filter_cons]
      rcases List.mem_cons.mp h with rfl | h
      · simp only [good, nf, not_true_eq_false, decide_false, Bool.false_eq_true, if_false, not_false_eq_true, decide_true, if_true]
        rw [List.length_cons]
        have := all l
        omega
      · have ih := ih h
        by_cases c : f x = first F x
        · have c2 := final_stays ok sg le c
          simp only [c, c2, not_true_eq_false, decide_false, Bool.false_eq_true, if_false]
          exact ih
        · simp only [c, not_false_eq_true, decide_true, if_true]
          split
          · rw [List.length_cons, List.length_cons]; omega
          · rw [List.length_cons]; omega
  have := lt ps pp
  rw [if_neg (of_decide_eq_true (List.mem_filter.mp hp).2)] at this
  exact this
theorem bad_stays {F : Fire} {ps : List Str} (ok : Ok F ps) {f g : Str → Option Int} (sg : Sound F g) (le : Le g f) (h : bad F ps f = []) : bad F ps g = [] := by
  unfold bad at h ⊢
  rw [List.filter_eq_nil_iff] at h ⊢
  intro p hp c
  have := h p hp
  rw [decide_eq_true_iff] at this c
  exact c (final_stays ok sg le (Classical.byContradiction this))
theorem bad_none {F : Fire} {ps : List Str} (ok : Ok F ps) {f : Str → Option Int} (sf : Sound F f) (h : bad F ps f = []) (p : Str) : f p = first F p := by
  by_cases hp : p ∈ ps
  · unfold bad at h
    rw [List.filter_eq_nil_iff] at h
    have := h p hp
    rw [decide_eq_true_iff] at this
    exact Classical.byContradiction this
  · have n1 : f p = none := by
      cases e : f p with
      | none => rfl
      | some t => exact absurd ((sf p t e).nn ok).2 hp
    have n2 : first F p = none := by
      cases e : first F p with
      | none => rfl
      | some t => exact absurd (first_in ok e).1 hp
    rw [n1, n2]
theorem bad_len (F : Fire) (ps : List Str) (f : Str → Option Int) : (bad F ps f).length ≤ ps.length := List.length_filter_le _ _
end FP

set_option Elab.async false
set_option linter.all false
set_option maxRecDepth 100000
set_option maxHeartbeats 4000000
/-! Through a link by spells of wind; least minutes of rows; tables of minutes. -/
namespace FP
open PySem
abbrev Spell := Int × Option Int × Nat
def spells : Wt → List Spell
  | [] => []
  | [r] => [(r.1, none, r.2)]
  | r :: q :: l => (r.1, some q.1, r.2) :: spells (q :: l)
def over (e : Option Int) (m : Int) : Bool := match e with
  | none => false
  | some x => decide (x ≤ m)
def candS (row : List (Option Int)) (m : Int) (s : Spell) : Option Int := if over s.2.1 m = true then none else (num row s.2.2).map ((if s.1 < m then m else s.1) + ·)
def early (c : Option Int) (b : Int) : Bool := match c with
  | none => false
  | some f => decide (f ≤ b)
def goThr (row : List (Option Int)) (m : Int) : List Spell → Option Int → Option Int
  | [], c => c
  | s :: r, c => if early c s.1 = true then c else goThr row m r (least c (candS row m s))
def Asc (ws : Wt) : Prop := ws.Pairwise fun a b => a.1 < b.1
theorem spells_begin : ∀ {ws : Wt}, ∀ s ∈ spells ws, ∃ r ∈ ws, s.1 = r.1
  | [], s, h => by cases h
  | [r], s, h => ⟨r, List.mem_cons_self, by rw [List.mem_singleton.mp h]⟩
  | r :: q :: l, s, h => by
    rcases List.mem_cons.mp h with rfl | h
    · exact ⟨r, List.mem_cons_self, rfl⟩
    · obtain ⟨x, hx, e⟩ := spells_begin (ws := q :: l) s h
      exact ⟨x, List.mem_cons_of_mem _ hx, e⟩
theorem cand_ge {row : List (Option Int)} {m t : Int} {s : Spell} (ok : RowOk row) (h : candS row m s = some t) : s.1 < t := by
  unfold candS at h
  split at h
  · cases h
  · obtain ⟨n, hn, rfl⟩ := Option.map_eq_some_iff.mp h
    have := ok n (num_in hn)
    split <;> omega
theorem fold_keep {c : Int} : ∀ {l : List (Option Int)}, (∀ x, some x ∈ l → c ≤ x) → l.foldl least (some c) = some c
  | [], _ => rfl
  | none :: l, h => fold_keep (l := l) fun x hx => h x (List.mem_cons_of_mem _ hx)
  | some y :: l, h => by
    have := h y List.mem_cons_self
    show l.foldl least (if y < c then some y else some c) = _
    rw [if_neg (by omega)]
    exact fold_keep (l := l) fun x hx => h x (List.mem_cons_of_mem _ hx)
/-- to stop early changes nothing -/
theorem go_fold {row : List (Option Int)} {m : Int} (ok : RowOk row) : ∀ {ws : Wt} {c : Option Int}, Asc ws → goThr row m (spells ws) c = ((spells ws).map (candS row m)).foldl least c := by
  have key : ∀ {l : List Spell} {c : Option Int}, l.Pairwise (fun a b => a.1 < b.1) → goThr row m l c = (l.map (candS row m)).foldl least c := fun {l} => by
    induction l with
    | nil => intro c _; rfl
    | cons s r ih =>
      intro c h
      rw [List.pairwise_cons] at h
      unfold goThr
      cases e : early c s.1 with
      | false =>
        simp only [Bool.false_eq_true, if_false]
        rw [ih h.2]
        rfl
      | true =>
        simp only [if_true]
        cases c with
        | none => cases e
        | some f =>
          have le : f ≤ s.1 := of_decide_eq_true e
          refine (fold_keep fun x hx => ?_).symm
          obtain ⟨q, hq, eq⟩ := List.mem_map.mp hx
          have g := cand_ge ok eq
          rcases List.mem_cons.mp hq with rfl | hq
          · omega
          · have := h.1 q hq
            omega
  intro ws c a
  refine key ?_
  clear c
  induction ws with
  | nil => exact List.Pairwise.nil
  | cons r l ih =>
    cases l with
    | nil => exact List.pairwise_singleton _ _
    | cons q l =>
      unfold Asc at a
      rw [List.pairwise_cons] at a
      show List.Pairwise _ ((r.1, some q.1, r.2) :: spells (q :: l))
      rw [List.pairwise_cons]
      refine ⟨fun s hs => ?_, ih a.2⟩
      obtain ⟨x, hx, e⟩ := spells_begin s hs
      show r.1 < s.1
      rw [e]
      exact a.1 x hx
theorem fold_past {s : Int} : ∀ {l : Wt} {z : Nat}, (∀ r ∈ l, s < r.1) → l.foldl (fun z r => if r.1 ≤ s then r.2 else z) z = z
  | [], _, _ => rfl
  | r :: l, z, h => by
    have := h r List.mem_cons_self
    rw [List.foldl_cons, if_neg (by omega)]
    exact fold_past fun x hx => h x (List.mem_cons_of_mem _ hx)
theorem wind_at {A B : Wt} {r : Int × Nat} (a : Asc (A ++ r :: B)) : windAt (A ++ r :: B) r.1 = r.2 := by
  unfold windAt Asc at *
  rw [List.pairwise_append] at a
  obtain ⟨_, a2, _⟩ := a
  rw [List.pairwise_cons] at a2
  rw [List.foldl_append, List.foldl_cons, if_pos (Int.le_refl _), fold_past a2.1]
theorem wind_drop {r q : Int × Nat} {l : Wt} {s : Int} (h1 : r.1 ≤ s) (h2 : q.1 ≤ s) : windAt (r :: q :: l) s = windAt (q :: l) s := by
  unfold windAt
  simp only [List.headD_cons, List.foldl_cons, if_pos h1, if_pos h2]
theorem past_same {row : List (Option Int)} {m : Int} {ws : Wt} (a : Asc ws) : ∀ (A B : Wt), ws = A ++ B → (∀ r ∈ B, m < r.1) → (B.map (·.1)).map (cand ws row) = (spells B).map (candS row m)
  | A, [], _, _ => rfl
  | A, [r], e, h => by
    have := h r List.mem_cons_self
    have w : windAt ws r.1 = r.2 := by rw [e] at a ⊢; exact wind_at a
    show [cand ws row r.1] = [candS row m (r.1, none, r.2)]
    unfold cand candS over
    rw [w]
    simp only [Bool.false_eq_true, if_false]
    rw [if_neg (by omega)]
  | A, r :: q :: l, e, h => by
    have h1 := h r List.mem_cons_self
    have h2 := h q (List.mem_cons_of_mem _ List.mem_cons_self)
    have w : windAt ws r.1 = r.2 := by rw [e] at a ⊢; exact wind_at a
    have ih := past_same (row := row) (m := m) a (A ++ [r]) (q :: l) (by rw [e, List.append_assoc]; rfl) fun x hx => h x (List.mem_cons_of_mem _ hx)
    show cand ws row r.1 :: ((q :: l).map (·.1)).map (cand ws row) = candS row m (r.1, some q.1, r.2) :: (spells (q :: l)).map (candS row m)
    rw [ih]
    congr 1
    unfold cand candS over
    rw [w]
    simp only
    rw [if_neg (by rw [decide_eq_true_iff]; omega), if_neg (by omega)]
theorem thr_spells {row : List (Option Int)} {m : Int} : ∀ {ws : Wt}, Asc ws → (∀ r ∈ ws.head?, r.1 ≤ m) → ws ≠ [] → ((spells ws).map (candS row m)).foldl least none = thr ws row m
  | [], _, _, h => absurd rfl h
  | [r], a, h, _ => by
    have hr := h r rfl
    unfold thr leastL outs
    rw [show ([r].map (·.1)).filter (fun s => decide (m < s)) = [] by
      rw [List.map_cons, List.map_nil, List.filter_cons, if_neg (by rw [decide_eq_true_iff]; omega)]
      rfl]
    show least none (candS row m (r.1, none, r.2)) = least none (cand [r] row m)
    congr 1
    unfold cand candS over windAt
    simp only [List.headD_cons, List.foldl_cons, List.foldl_nil, Bool.false_eq_true, if_false, if_pos hr]
    by_cases c : r.1 < m
    · rw [if_pos c]
    · rw [if_neg c, show r.1 = m by omega]
  | r :: q :: l, a, h, _ => by
    have hr : r.1 ≤ m := h r rfl
    have a' := a
    unfold Asc at a'
    rw [List.pairwise_cons] at a'
    by_cases c : q.1 ≤ m
    · have ih := thr_spells (row := row) (m := m) (ws := q :: l) a'.2 (fun x hx => by cases hx; exact c) (by simp)
      show (candS row m (r.1, some q.1, r.2) :: (spells (q :: l)).map (candS row m)).foldl least none = _
      have e : candS row m (r.1, some q.1, r.2) = none := by
        unfold candS over
        simp only
        rw [if_pos (decide_eq_true c)]
      rw [e, List.foldl_cons]
      show ((spells (q :: l)).map (candS row m)).foldl least none = _
      rw [ih]
      unfold thr outs
      have e2 : ((r :: q :: l).map (·.1)).filter (fun s => decide (m < s)) = ((q :: l).map (·.1)).filter (fun s => decide (m < s)) := by
        rw [List.map_cons, List.filter_cons, if_neg (by rw [decide_eq_true_iff]; omega)]
      rw [e2]
      congr 1
      refine List.map_congr_left fun s hs => ?_
      have : m ≤ s := by
        rcases List.mem_cons.mp hs with z | z
        · omega
        · have := of_decide_eq_true (List.mem_filter.mp z).2
          omega
      unfold cand
      rw [wind_drop (by omega) (by omega)]
    · have big : ∀ x ∈ q :: l, m < x.1 := fun x hx => by
        rcases List.mem_cons.mp hx with rfl | hx
        · omega
        · have z := a'.2
          rw [List.pairwise_cons] at z
          have := z.1 x hx
          omega
      have ih := past_same (row := row) (m := m) a [r] (q :: l) rfl big
      show (candS row m (r.1, some q.1, r.2) :: (spells (q :: l)).map (candS row m)).foldl least none = _
      rw [← ih]
      unfold thr leastL outs
      have e2 : ((r :: q :: l).map (·.1)).filter (fun s => decide (m < s)) = (q :: l).map (·.1) := by
        rw [List.map_cons, List.filter_cons, if_neg (by rw [decide_eq_true_iff]; omega)]
        exact List.filter_eq_self.mpr fun s hs => by
          obtain ⟨x, hx, rfl⟩ := List.mem_map.mp hs
          exact decide_eq_true (big x hx)
      rw [e2, List.map_cons]
      congr 2
      unfold cand candS over windAt
      simp only [List.headD_cons, List.foldl_cons]
      have z := big q List.mem_cons_self
      have c0 : ¬ decide (q.1 ≤ m) = true := by rw [decide_eq_true_iff]; omega
      have c1 : ¬ q.1 ≤ m := by omega
      rw [if_pos hr]
      simp only [if_neg c0, if_neg c1]
      rw [fold_past fun x hx => big x (List.mem_cons_of_mem _ hx)]
      by_cases c2 : r.1 < m
      · simp only [if_pos c2]
      · have er : r.1 = m := by omega
        simp only [if_neg c2]
        rw [er]
theorem go_thr {row : List (Option Int)} {m : Int} {ws : Wt} (ok : RowOk row) (a : Asc ws) (h : ∀ r ∈ ws.head?, r.1 ≤ m) (ne : ws ≠ []) : goThr row m (spells ws) none = thr ws row m := by
  rw [go_fold ok a, thr_spells a h ne]
/-! ### least minutes of rows (place, minute) -/
def minOf (rows : List (Str × Int)) (p : Str) : Option Int := rows.foldl (fun c r => if r.1 = p then least c (some r.2) else c) none
theorem minOf_more (rows : List (Str × Int)) (r : Str × Int) (p : Str) : minOf (rows ++ [r]) p = if r.1 = p then least (minOf rows p) (some r.2) else minOf rows p := by
  unfold minOf
  rw [List.foldl_append]
  rfl
end FP

set_option Elab.async false
set_option linter.all false
set_option maxRecDepth 100000
set_option maxHeartbeats 4000000
namespace TX
open PySem PySem.Spec PyProof.Rows L2 EvS Evl
mutual
theorem dp_ex {K : PySem.W.Frag} {H H' : Hp} (e : Ex H H') : ∀ {v : V} {d : PyData}, Dp K H v d → Dp K H' v d
  | _, _, .non => .non
  | _, _, .bl b => .bl b
  | _, _, .int i => .int i
  | _, _, .str x => .str x
  | _, _, .lst h r => .lst (ex_l e h) (dps_ex e r)
  | _, _, .tup h r => .tup (ex_t e h) (dps_ex e r)
theorem dps_ex {K : PySem.W.Frag} {H H' : Hp} (e : Ex H H') : ∀ {vs : List V} {ds : List PyData}, DpAll K H vs ds → DpAll K H' vs ds
  | _, _, .nil => .nil
  | _, _, .cons h r => .cons (dp_ex e h) (dps_ex e r)
end
theorem dps_len {K : PySem.W.Frag} {H : Hp} : ∀ {vs : List V} {ds : List PyData}, DpAll K H vs ds → vs.length = ds.length
  | _, _, .nil => rfl
  | _, _, .cons _ r => congrArg Nat.succ (dps_len r)
theorem dps_at {K : PySem.W.Frag} {H : Hp} : ∀ {vs : List V} {ds : List PyData} {i : Nat} {v : V}, DpAll K H vs ds → vs[i]? = some v → ∃ d, ds[i]? = some d ∧ Dp K H v d
  | _, _, _, _, .nil, h => by simp at h
  | _, _, 0, _, .cons h _, e => by
    simp only [List.getElem?_cons_zero, Option.some.injEq] at e
    subst e
    exact ⟨_, rfl, h⟩
  | _, _, i + 1, _, .cons _ r, e => by
    simp only [List.getElem?_cons_succ] at e
    exact dps_at (i := i) r e
theorem dps_app {K : PySem.W.Frag} {H : Hp} : ∀ {vs us : List V} {ds es : List PyData}, DpAll K H vs ds → DpAll K H us es → DpAll K H (vs ++ us) (ds ++ es)
  | _, _, _, _, .nil, b => b
  | _, _, _, _, .cons h r, b => .cons h (dps_app r b)
theorem dps_one {K : PySem.W.Frag} {H : Hp} {v : V} {d : PyData} (h : Dp K H v d) : DpAll K H [v] [d] := .cons h .nil
theorem dps_str {K : PySem.W.Frag} {H : Hp} : ∀ ns : List Str, DpAll K H (ns.map V.str) (ns.map PyData.str)
  | [] => .nil
  | n :: r => .cons (.str n) (dps_str r)
theorem dps_strs {K : PySem.W.Frag} {H : Hp} : ∀ {ns : List Str} {vs : List V}, DpAll K H vs (ns.map PyData.str) → vs = ns.map V.str
  | [], _, .nil => rfl
  | n :: r, _, .cons h t => by
    cases h
    rw [dps_strs t]
    rfl
def Seq2 (K : PySem.W.Frag) (H : Hp) (p : Addr) (xs : List V) : Prop := SqL K H p xs ∨ SqT K H p xs
theorem Seq2.ex {K : PySem.W.Frag} {H H' : Hp} {p : Addr} {xs : List V} (e : Ex H H') (h : Seq2 K H p xs) : Seq2 K H' p xs := h.elim (fun q => .inl (ex_l e q)) (fun q => .inr (ex_t e q))
mutual
def frozen : PyData → Bool
  | .none => true
  | .bool _ => true
  | .int _ => true
  | .str _ => true
  | .tuple ds => frozenAll ds
  | .list _ => false
  | .dict _ => false
def frozenAll : List PyData → Bool
  | [] => true
  | d :: ds => frozen d && frozenAll ds
end
theorem frozenAll_of : ∀ {ds : List PyData}, (∀ d ∈ ds, frozen d = true) → frozenAll ds = true
  | [], _ => by simp [frozenAll]
  | d :: ds, h => by
    rw [frozenAll, h d List.mem_cons_self, frozenAll_of fun x hx => h x (List.mem_cons_of_mem _ hx)]
    rfl
theorem frozen_strs (ls : List Str) : frozenAll (ls.map PyData.str) = true := frozenAll_of fun d hd => by
  obtain ⟨b, _, rfl⟩ := List.mem_map.mp hd
  simp [frozen]
def ExT (H H' : Hp) : Prop := ∀ a xs, Rd H a (.tup xs) → Rd H' a (.tup xs)
theorem exT_of {H H' : Hp} (e : Ex H H') : ExT H H' := fun _ _ h => ex_rd e h
theorem ExT.trans {H H1 H2 : Hp} (a : ExT H H1) (b : ExT H1 H2) : ExT H H2 := fun x y h => b x y (a x y h)
theorem exT_mut {H : Hp} {l : Addr} {xs ys : List V} (h : H l = some (.lst xs)) : ExT H (upd H l (.lst ys)) := fun a zs r => by
  rcases r with r | ⟨o, r⟩
  · exact .inl (by rw [upd_ne (ne_of r h (by intro z; cases z))]; exact r)
  · exact .inr ⟨o, by rw [upd_ne (ne_of r h (by intro z; cases z))]; exact r⟩
theorem exT_t {K : PySem.W.Frag} {H H' : Hp} {p : Addr} {xs : List V} (e : ExT H H') (h : SqT K H p xs) : SqT K H' p xs := h.elim (fun r => .inl (e _ _ r)) .inr
mutual
theorem dp_exT {K : PySem.W.Frag} {H H' : Hp} (e : ExT H H') : ∀ {v : V} {d : PyData}, Dp K H v d → frozen d = true → Dp K H' v d
  | _, _, .non, _ => .non
  | _, _, .bl b, _ => .bl b
  | _, _, .int i, _ => .int i
  | _, _, .str x, _ => .str x
  | _, _, .lst _ _, f => by simp [frozen] at f
  | _, _, .tup h r, f => .tup (exT_t e h) (dps_exT e r (by simpa [frozen] using f))
theorem dps_exT {K : PySem.W.Frag} {H H' : Hp} (e : ExT H H') : ∀ {vs : List V} {ds : List PyData}, DpAll K H vs ds → frozenAll ds = true → DpAll K H' vs ds
  | _, _, .nil, _ => .nil
  | _, _, .cons h r, f => by
    simp only [frozenAll, Bool.and_eq_true] at f
    exact .cons (dp_exT e h f.1) (dps_exT e r f.2)
end
inductive All2 {α β : Type} (R : α → β → Prop) : List α → List β → Prop
  | nil : All2 R [] []
  | cons {a : α} {b : β} {as : List α} {bs : List β} : R a b → All2 R as bs → All2 R (a :: as) (b :: bs)
theorem All2.len {α β : Type} {R : α → β → Prop} : ∀ {as : List α} {bs : List β}, All2 R as bs → as.length = bs.length
  | _, _, .nil => rfl
  | _, _, .cons _ r => congrArg Nat.succ r.len
def del (H : Hp) (D : Addr) : Hp := fun a => if a = D then none else H a
theorem del_upd {H : Hp} {D : Addr} {o : HO} : del (upd H D o) D = del H D := by
  funext a
  unfold del
  by_cases h : a = D
  · rw [if_pos h, if_pos h]
  · rw [if_neg h, if_neg h, upd_ne h]
theorem del_ex {H : Hp} {D : Addr} : Ex (del H D) H := fun a o h => by
  unfold del at h
  split at h
  · cases h
  · exact h
theorem ex_del {H H' : Hp} {D : Addr} (e : Ex H H') : Ex (del H D) (del H' D) := fun a o h => by
  unfold del at h ⊢
  split at h
  · cases h
  · rename_i n
    rw [if_neg n]
    exact e _ _ h
theorem ex_to_del {H H' : Hp} {D : Addr} (e : Ex H H') (h : H D = none) : Ex H (del H' D) := fun a o q => by
  unfold del
  rw [if_neg (ne_of_none q h)]
  exact e _ _ q
theorem del_at {H : Hp} {D a : Addr} {o : HO} (n : a ≠ D) (h : H a = some o) : del H D a = some o := by
  unfold del
  rw [if_neg n]
  exact h
theorem dps_drop {K : PySem.W.Frag} {H : Hp} : ∀ {vs : List V} {ds : List PyData} (n : Nat), DpAll K H vs ds → DpAll K H (vs.drop n) (ds.drop n)
  | _, _, 0, h => h
  | _, _, _ + 1, .nil => .nil
  | _, _, n + 1, .cons _ r => dps_drop n r
theorem dps_take {K : PySem.W.Frag} {H : Hp} : ∀ {vs : List V} {ds : List PyData} (n : Nat), DpAll K H vs ds → DpAll K H (vs.take n) (ds.take n)
  | _, _, 0, _ => .nil
  | _, _, _ + 1, .nil => .nil
  | _, _, n + 1, .cons h r => .cons h (dps_take n r)
theorem cut_from (xs : List V) (n : Nat) : cutV xs (some (n : Int)) none = xs.drop n := by
  unfold cutV
  rw [HT.sIx_nat, HT.sIx_none]
  rcases Nat.le_total n xs.length with h | h
  · rw [Nat.min_eq_left h, List.take_of_length_le (by rw [List.length_drop]; exact Nat.le_refl _)]
  · rw [Nat.min_eq_right h, List.drop_length, List.drop_eq_nil_of_le h, List.take_nil]
theorem cut_to (xs : List V) (n : Nat) : cutV xs none (some (n : Int)) = xs.take n := by
  unfold cutV
  rw [HT.sIx_nat, HT.sIx_none, List.drop_zero, Nat.sub_zero]
  rcases Nat.le_total n xs.length with h | h
  · rw [Nat.min_eq_left h]
  · rw [Nat.min_eq_right h, List.take_length, List.take_of_length_le h]
theorem lay_of : ∀ {ds : List PyData}, (∀ d ∈ ds, PyData.canLay0 d = true) → PyData.canLayAll0 ds = true
  | [], _ => by simp [PyData.canLayAll0]
  | d :: ds, h => by
    rw [PyData.canLayAll0, h d List.mem_cons_self, lay_of fun x hx => h x (List.mem_cons_of_mem _ hx)]
    rfl
theorem deep_of {n : Nat} : ∀ {ds : List PyData}, (∀ d ∈ ds, PyData.depth d ≤ n) → PyData.depthAll ds ≤ n
  | [], _ => by simp [PyData.depthAll]
  | d :: ds, h => by
    have h1 := h d List.mem_cons_self
    have h2 := deep_of (n := n) (ds := ds) fun x hx => h x (List.mem_cons_of_mem _ hx)
    simp only [PyData.depthAll]
    omega
def Sh (n : Nat) (d : PyData) : Prop := PyData.canLay0 d = true ∧ PyData.depth d ≤ n
theorem sh_tup {n : Nat} {ds : List PyData} (h : ∀ d ∈ ds, Sh n d) : Sh (n + 1) (.tuple ds) := by
  have := deep_of (n := n) fun d hd => (h d hd).2
  exact ⟨by simp only [PyData.canLay0]; exact lay_of fun d hd => (h d hd).1, by simp only [PyData.depth]; omega⟩
theorem sh_lst {n : Nat} {ds : List PyData} (h : ∀ d ∈ ds, Sh n d) : Sh (n + 1) (.list ds) := by
  have := deep_of (n := n) fun d hd => (h d hd).2
  exact ⟨by simp only [PyData.canLay0]; exact lay_of fun d hd => (h d hd).1, by simp only [PyData.depth]; omega⟩
theorem sh_int (i : Int) (n : Nat) : Sh (n + 1) (.int i) := ⟨by simp only [PyData.canLay0], by simp only [PyData.depth]; omega⟩
theorem sh_up {n m : Nat} {d : PyData} (h : n ≤ m) (q : Sh n d) : Sh m d := ⟨q.1, Nat.le_trans q.2 h⟩
theorem sh_shaped {n : Nat} {d : PyData} (h : Sh n d) (hn : n ≤ 64) : SeqAt.shaped d = true := by
  show (PyData.canLay0 d && decide (PyData.depth d ≤ 64)) = true
  rw [Bool.and_eq_true]
  exact ⟨h.1, decide_eq_true (Nat.le_trans h.2 hn)⟩
theorem mem4 {α : Type} {x a b c d : α} (h : x ∈ [a, b, c, d]) : x = a ∨ x = b ∨ x = c ∨ x = d := by simpa using h
theorem eqv_self {d : PyData} (h : SeqAt.shaped d = true) : PyData.eqv d d = true := SeqAt.eqv_refl _ (SeqAt.canLay_of_shaped h)
theorem dps_set {K : PySem.W.Frag} {H : Hp} : ∀ {vs : List V} {ds : List PyData} {v : V} {d : PyData} (i : Nat), DpAll K H vs ds → Dp K H v d → DpAll K H (vs.set i v) (ds.set i d)
  | _, _, _, _, _, .nil, _ => .nil
  | _, _, _, _, 0, .cons _ r, h => .cons h r
  | _, _, _, _, i + 1, .cons a r, h => .cons a (dps_set i r h)
theorem sh_st {z : Str} {n : Nat} (h : PyData.strOk z = true) : Sh (n + 1) (.str z) := ⟨by simp only [PyData.canLay0]; exact h, by simp only [PyData.depth]; omega⟩
theorem sh_none {n : Nat} : Sh (n + 1) .none := ⟨by simp only [PyData.canLay0], by simp only [PyData.depth]; omega⟩
theorem iteNF {A B : Prop} (h : A) : if (!false) = true then A else B := by
  rw [Bool.not_false, if_pos rfl]
  exact h
theorem take_one {α : Type} {l : List α} {i : Nat} {x : α} (h : l[i]? = some x) : l.take (i + 1) = l.take i ++ [x] := by
  rw [List.take_add_one, h]
  rfl
theorem iteNT {A B : Prop} (h : B) : if (!true) = true then A else B := by
  rw [if_neg (by decide)]
  exact h
theorem exT_del {H : Hp} {A : Addr} {xs : List V} (h : H A = some (.lst xs)) : ExT H (del H A) := fun x zs r => by
  have nx : x ≠ A := fun q => by
    rcases r with r | ⟨o, r⟩
    · rw [q, h] at r; cases r
    · rw [q, h] at r; cases r
  rcases r with r | ⟨o, r⟩
  · exact .inl (del_at nx r)
  · exact .inr ⟨o, del_at nx r⟩
theorem at_in {α : Type} {xs : List α} {i : Int} (h0 : 0 ≤ i) (h : i < xs.length) : ∃ v, atI xs i = some v ∧ xs[i.toNat]? = some v ∧ v ∈ xs := by
  have hl : i.toNat < xs.length := by omega
  have e : xs[i.toNat]? = some xs[i.toNat] := List.getElem?_eq_getElem hl
  have z : atI xs ((i.toNat : Nat) : Int) = some xs[i.toNat] := atI_nat e
  rw [show ((i.toNat : Nat) : Int) = i by omega] at z
  exact ⟨xs[i.toNat], z, e, List.getElem_mem hl⟩
/-- the numbers that a law draws -/
structure Nm (K : PySem.W.Frag) (H : Hp) (p : Addr) (ks : List Int) : Prop where
  at_ : SqL K H p (ks.map V.int)
  sm : ∀ n ∈ ks, 0 ≤ n ∧ n < 1009
theorem Nm.ex {K : PySem.W.Frag} {H H' : Hp} {p : Addr} {ks : List Int} (e : Ex H H') (h : Nm K H p ks) : Nm K H' p ks := ⟨ex_l e h.at_, h.sm⟩
theorem Nm.get {K : PySem.W.Frag} {H : Hp} {p : Addr} {ks : List Int} (h : Nm K H p ks) {i : Int} (h0 : 0 ≤ i) (h1 : i < ks.length) : ∃ n, 0 ≤ n ∧ n < 1009 ∧ atI (ks.map V.int) i = some (.int n) := by
  obtain ⟨v, hv, _, hm⟩ := at_in (xs := ks.map V.int) h0 (by rw [List.length_map]; exact h1)
  obtain ⟨n, hn, rfl⟩ := List.mem_map.mp hm
  exact ⟨n, (h.sm n hn).1, (h.sm n hn).2, hv⟩
/-- an f-string as one reading -/
def tJd (ts : List TE) : TE := fun σ H Q => tJs ts Str.empty σ H fun out H1 => Q (.str out) H1
theorem pe_jd {X : Cx} {v1 v2 : Expr} {rest : List Expr} {pos : Pos} {ts : List TE} (h : PJ X (v1 :: v2 :: rest) ts) : PE X (.JoinedStr (v1 :: v2 :: rest) pos) (tJd ts) := pe_joined h
end TX

set_option Elab.async false
set_option linter.all false
set_option maxRecDepth 100000
set_option maxHeartbeats 4000000
/-! A new dict's values walked; dict comprehensions over walks; tables of minutes by place. -/
namespace FD
open PySem PySem.Spec PyProof.Rows L2 Evl
section
variable {X : Cx} {tg e : Expr} {td : TE} {apos cpos : Pos}
/-- for x in e.values(), e's value a dict that is not changed any more -/
def iValsN (td : TE) : TI := fun σ H R => td σ H fun x H1 => ∃ d kvs, x = .ref d ∧ H1 d = some (.dK kvs) ∧ ∀ od, R (Itd d od kvs) (upd H1 d (.frz od (.dK kvs)))
theorem pi_valuesN (he : PE X e td) (hbase : attributeBase e "values" X.env (eval e X.env) = eval e X.env := by rfl) (hline : (apos.endLine == cpos.line) = true := by rfl) : PI X tg (.Call (.Attribute e "values" apos) [] [] cpos) (iValsN td) := by
  refine ⟨fun pins s σ H R I h => ?_⟩
  refine wpAny_Call_method (T := "dict") (id := "dict.values") hbase rfl hline F.plainAttrs_dict F.slot_dict_values F.type_dict_values (thn (he.run pins s σ H _ I h) fun u s1 ⟨x, H1, I0, rx, d, kvs, ex, hd0, q0⟩ => ?_)
  subst ex
  obtain rfl : u = Value.ref d := rx
  obtain ⟨o, I1⟩ := I0.lock hd0 trivial
  have q := q0 o
  have hd : (upd H1 d (.frz o (.dK kvs))) d = some (.frz o (.dK kvs)) := upd_same
  generalize upd H1 d (.frz o (.dK kvs)) = H2 at I1 q hd
  obtain ⟨hs, hgd, hx, es, ep, vs, hdt, hsz, kv, hm⟩ := I1.frzK hd
  have hl : kvs.length = vs.length := Paired.length kv
  refine ⟨hm.dictOf.typeIs, hm.dictOf.mapOf.noDict, ?_⟩
  have I2 : Inv X pins σ H2 { s1 with heap := s1.heap.push { cls := .type "dict_values", data := .fields #[.ref d] } } := I1.kept (t' := s1.toks) fun b ob q => Heap.get?_push_of_some _ q
  have fin : wpAny (model X.prog X.w) X.A (pyIter (.ref s1.heap.objs.size)) (PIE X pins σ tg R) X.xe { s1 with heap := s1.heap.push { cls := .type "dict_values", data := .fields #[.ref d] } } := by
    refine wpAny_pyIter_values (d := d) (knd := mixKind X.prog X.w) ⟨_, Heap.get?_push_size _ rfl, rfl, rfl⟩ (hm.push _) (pi_one (tk := s1.toks) I2 _ (turn_vals _ hdt) ⟨_, Heap.get?_push_size _ rfl, rfl, ?_⟩ q)
    rw [hl] <;> rfl
  show wpAny _ _ (callWith cpos (.builtin "dict.values") [.ref d] [] []) _ X.xe s1
  exact method_meetsIn F.slot_dict_values F.entry_dict_values rfl (PySem.evalArgs_none ⟨rfl, hm.dictOf.typeIs, F.args_dict_values_1 _, _, meets_dict_values (mixKind X.prog X.w) d hs, ⟨vs, hm.dictOf⟩, fin⟩)
end
/-- a dict comprehension without a test over a walk -/
theorem dcY_it {J : It} {n : Nat} {G : Hp → Prop} {Y : Nat → Hp → V → Hp → Prop} (w : Walk J n G Y) {g : TG} {tk tv : TE} {vs : List Nat} {σ : L2.St} {H1 : Hp} {D : Addr} {Qd : Hp → Prop} (Pv : Nat → Hp → Prop) (h0 : Pv 0 (upd H1 D (.dK []))) (hG : ∀ i H, i ≤ n → Pv i H → G H)
    (hs : ∀ i x H H', i < n → Pv i H → Y i H x H' → g x (wipe σ vs) H' fun σ2 H2 => wipe σ2 vs = wipe σ vs ∧ tk σ2 H2 fun y H4 => tv σ2 H4 fun z H5 => ∃ kvs k, y = kV k ∧ H5 D = some (.dK kvs) ∧ kvs.length < sizeLine ∧ Pv (i + 1) (upd H5 D (.dK (putK kvs k z)))) (hd : ∀ H, Pv n H → Qd H) :
    ∃ W : Nat → Nat → Hp → Prop, (∃ m, W 0 m (upd H1 D (.dK []))) ∧ ∀ i m H, W i m H → (J.stop i H ∧ Qd H) ∨
      (J.go i H ∧ ∃ Nx : Hp → Prop, (∀ H', Nx H' → ∃ m', m' < m ∧ W (i + 1) m' H') ∧ ∀ x H', J.yld i H x H' → g x (wipe σ vs) H' fun σ2 H2 => wipe σ2 vs = wipe σ vs ∧ tYes σ2 H2 fun b H3 =>
        if b = true then tk σ2 H3 fun y H4 => tv σ2 H4 fun z H5 => ∃ kvs k, y = kV k ∧ H5 D = some (.dK kvs) ∧ kvs.length < sizeLine ∧ Nx (upd H5 D (.dK (putK kvs k z))) else Nx H3) := by
  refine ⟨fun i m H => m = n - i ∧ i ≤ n ∧ Pv i H, ⟨n, by simp, Nat.zero_le _, h0⟩, ?_⟩
  rintro i m H ⟨rfl, hi, p⟩
  have q := hG i H hi p
  by_cases hlt : i < n
  · refine .inr ⟨w.goes i H hlt q, Pv (i + 1), fun H' p' => ⟨n - (i + 1), by omega, rfl, hlt, p'⟩, fun x H' y => ?_⟩
    exact hs i x H H' hlt p (w.yields i H x H' hlt q y)
  · have e : i = n := by omega
    subst e
    exact .inl ⟨w.stops H q, hd H p⟩
/-! ### a table of minutes -/
/-- at d stands a dict that tells f for places -/
def Tab (H : Hp) (d : Addr) (f : Str → Option Int) : Prop := ∃ kvs : List (Key × V), H d = some (.dK kvs) ∧ kvs.length ≤ 100000 ∧ ∀ p : Str, valV kvs (.inr p) = (f p).map V.int
theorem Tab.ex {H H' : Hp} {d : Addr} {f : Str → Option Int} (e : Ex H H') (h : Tab H d f) : Tab H' d f := by
  obtain ⟨kvs, h1, h2, h3⟩ := h
  exact ⟨kvs, e _ _ h1, h2, h3⟩
def upd1 (f : Str → Option Int) (p : Str) (t : Int) : Str → Option Int := fun q => if q = p then some t else f q
def TabK (kvs : List (Key × V)) (f : Str → Option Int) : Prop := ∀ p : Str, valV kvs (.inr p) = (f p).map V.int
theorem TabK.nil : TabK [] fun _ => none := fun _ => rfl
theorem TabK.put {kvs : List (Key × V)} {f : Str → Option Int} (h : TabK kvs f) (p : Str) (t : Int) : TabK (putK kvs (.inr p) (.int t)) (upd1 f p t) := fun q => by
  rw [valV_put]
  unfold upd1
  by_cases c : q = p
  · rw [if_pos (congrArg Sum.inr c), if_pos c]
    rfl
  · rw [if_neg fun z => c (Sum.inr.inj z), if_neg c]
    exact h q
theorem TabK.same {kvs : List (Key × V)} {f g : Str → Option Int} (h : TabK kvs f) (e : ∀ p, f p = g p) : TabK kvs g := fun p => by rw [h p, e p]
end FD

set_option Elab.async false
set_option linter.all false
set_option maxRecDepth 100000
set_option maxHeartbeats 4000000
/-! A fire found in rounds over all links. -/
namespace FP
open PySem FD
def relax (f : Str → Option Int) (p : Str) (c : Int) : Str → Option Int := match f p with
  | none => upd1 f p c
  | some u => if c < u then upd1 f p c else f
def startL (F : Fire) (f : Str → Option Int) (r : Str × Int) : Str → Option Int := if ahead (F.stop r.1) r.2 = true then relax f r.1 r.2 else f
def takeL (F : Fire) (f : Str → Option Int) (l : Lk) : Str → Option Int := match f l.o with
  | none => f
  | some s => match thr F.ws l.row s with
    | none => f
    | some c => if ahead (F.stop l.t) c = true then relax f l.t c else f
theorem upd1_at (f : Str → Option Int) (p : Str) (c : Int) : upd1 f p c p = some c := if_pos rfl
theorem relax_at (f : Str → Option Int) (p : Str) (c : Int) : ∃ u, relax f p c p = some u ∧ u ≤ c := by
  unfold relax
  cases e : f p with
  | none => exact ⟨c, upd1_at f p c, Int.le_refl _⟩
  | some u =>
    by_cases h : c < u
    · simp only [if_pos h]
      exact ⟨c, upd1_at f p c, Int.le_refl _⟩
    · simp only [if_neg h]
      exact ⟨u, e, by omega⟩
theorem upd1_le {f : Str → Option Int} {p : Str} {c : Int} (h : ∀ u, f p = some u → c ≤ u) : Le (upd1 f p c) f := fun q t e => by
  unfold upd1
  by_cases z : q = p
  · rw [if_pos z]
    rw [z] at e
    exact ⟨c, rfl, h t e⟩
  · rw [if_neg z]
    exact ⟨t, e, Int.le_refl _⟩
theorem relax_le (f : Str → Option Int) (p : Str) (c : Int) : Le (relax f p c) f := by
  unfold relax
  cases e : f p with
  | none => exact upd1_le fun u h => by rw [e] at h; cases h
  | some u =>
    by_cases h : c < u
    · simp only [if_pos h]
      exact upd1_le fun v hv => by rw [e] at hv; cases hv; omega
    · simp only [if_neg h]
      exact Le.refl f
theorem relax_sound {F : Fire} {f : Str → Option Int} {p : Str} {c : Int} (sf : Sound F f) (r : Reach F p c) : Sound F (relax f p c) := by
  have up : Sound F (upd1 f p c) := fun q t e => by
    unfold upd1 at e
    split at e
    · rename_i z
      cases e
      rw [z]
      exact r
    · exact sf q t e
  unfold relax
  cases e : f p with
  | none => exact up
  | some u =>
    by_cases h : c < u
    · simp only [if_pos h]; exact up
    · simp only [if_neg h]; exact sf
theorem start_sound {F : Fire} {f : Str → Option Int} {r : Str × Int} (sf : Sound F f) (h : r ∈ F.st) : Sound F (startL F f r) := by
  unfold startL
  split
  · rename_i a
    exact relax_sound sf (.start h a)
  · exact sf
theorem start_le (F : Fire) (f : Str → Option Int) (r : Str × Int) : Le (startL F f r) f := by
  unfold startL
  split
  · exact relax_le _ _ _
  · exact Le.refl f
theorem take_sound {F : Fire} {f : Str → Option Int} {l : Lk} (sf : Sound F f) (h : l ∈ F.ls) : Sound F (takeL F f l) := by
  unfold takeL
  cases e : f l.o with
  | none => exact sf
  | some s =>
    simp only
    cases t : thr F.ws l.row s with
    | none => exact sf
    | some c =>
      simp only
      split
      · rename_i a
        exact relax_sound sf (.step (sf _ _ e) h t a)
      · exact sf
theorem take_le (F : Fire) (f : Str → Option Int) (l : Lk) : Le (takeL F f l) f := by
  unfold takeL
  cases e : f l.o with
  | none => exact Le.refl f
  | some s =>
    simp only
    cases t : thr F.ws l.row s with
    | none => exact Le.refl f
    | some c =>
      simp only
      split
      · exact relax_le _ _ _
      · exact Le.refl f
theorem take_taken {F : Fire} {f0 f : Str → Option Int} {l : Lk} (le : Le f f0) {t t' : Int} (h0 : f0 l.o = some t) (h1 : thr F.ws l.row t = some t') (h2 : ahead (F.stop l.t) t' = true) : ∃ s, takeL F f l l.t = some s ∧ s ≤ t' := by
  obtain ⟨s, e, l1⟩ := le _ _ h0
  obtain ⟨c, ec, l2⟩ := thr_mono l1 h1
  unfold takeL
  rw [e]
  simp only
  rw [ec]
  simp only
  rw [if_pos (ahead_mono l2 h2)]
  obtain ⟨u, eu, l3⟩ := relax_at f l.t c
  exact ⟨u, eu, Int.le_trans l3 l2⟩
def st0 (F : Fire) : Str → Option Int := F.st.foldl (startL F) fun _ => none
def rnd (F : Fire) (f : Str → Option Int) : Str → Option Int := F.ls.foldl (takeL F) f
def rounds (F : Fire) : Nat → Str → Option Int
  | 0 => st0 F
  | n + 1 => rnd F (rounds F n)
theorem st0_ok (F : Fire) : Sound F (st0 F) ∧ Starts F (st0 F) := by
  have key : ∀ (l : List (Str × Int)) (f : Str → Option Int), (∀ r ∈ l, r ∈ F.st) → Sound F f → Sound F (l.foldl (startL F) f) ∧ Le (l.foldl (startL F) f) f ∧ ∀ r ∈ l, ahead (F.stop r.1) r.2 = true → ∃ s, l.foldl (startL F) f r.1 = some s ∧ s ≤ r.2 := fun l => by
    induction l with
    | nil => exact fun f _ sf => ⟨sf, Le.refl f, fun r hr => by cases hr⟩
    | cons r l ih =>
      intro f hm sf
      obtain ⟨h1, h2, h3⟩ := ih (startL F f r) (fun x hx => hm x (List.mem_cons_of_mem _ hx)) (start_sound sf (hm r List.mem_cons_self))
      refine ⟨h1, h2.trans (start_le F f r), fun x hx a => ?_⟩
      rcases List.mem_cons.mp hx with rfl | hx
      · obtain ⟨u, eu, lu⟩ := relax_at f x.1 x.2
        have e : startL F f x = relax f x.1 x.2 := if_pos a
        rw [← e] at eu
        obtain ⟨v, ev, lv⟩ := h2 _ _ eu
        exact ⟨v, ev, Int.le_trans lv lu⟩
      · exact h3 x hx a
  obtain ⟨h1, _, h3⟩ := key F.st (fun _ => none) (fun r h => h) fun p t h => by cases h
  exact ⟨h1, fun p t h a => h3 (p, t) h a⟩
theorem rnd_ok {F : Fire} {f : Str → Option Int} (sf : Sound F f) : Sound F (rnd F f) ∧ Le (rnd F f) f ∧ Taken F F.ls f (rnd F f) := by
  have key : ∀ (l : List Lk) (g : Str → Option Int), (∀ r ∈ l, r ∈ F.ls) → Sound F g → Le g f → Sound F (l.foldl (takeL F) g) ∧ Le (l.foldl (takeL F) g) g ∧ Taken F l f (l.foldl (takeL F) g) := fun l => by
    induction l with
    | nil => exact fun g _ sg lg => ⟨sg, Le.refl g, fun r hr => by cases hr⟩
    | cons r l ih =>
      intro g hm sg lg
      obtain ⟨h1, h2, h3⟩ := ih (takeL F g r) (fun x hx => hm x (List.mem_cons_of_mem _ hx)) (take_sound sg (hm r List.mem_cons_self)) ((take_le F g r).trans lg)
      refine ⟨h1, h2.trans (take_le F g r), fun x hx t t' e1 e2 e3 => ?_⟩
      rcases List.mem_cons.mp hx with rfl | hx
      · obtain ⟨u, eu, lu⟩ := take_taken lg e1 e2 e3
        obtain ⟨v, ev, lv⟩ := h2 _ _ eu
        exact ⟨v, ev, Int.le_trans lv lu⟩
      · exact h3 x hx t t' e1 e2 e3
  exact key F.ls f (fun r h => h) sf (Le.refl f)
theorem rounds_ok {F : Fire} {ps : List Str} (ok : Ok F ps) : ∀ n, Sound F (rounds F n) ∧ Starts F (rounds F n) ∧ (bad F ps (rounds F n)).length ≤ ps.length - n
  | 0 => ⟨(st0_ok F).1, (st0_ok F).2, bad_len _ _ _⟩
  | n + 1 => by
    obtain ⟨h1, h2, h3⟩ := rounds_ok ok n
    obtain ⟨g1, g2, g3⟩ := rnd_ok h1
    refine ⟨g1, fun p t h a => ?_, ?_⟩
    · obtain ⟨s, e, l⟩ := h2 p t h a
      obtain ⟨u, eu, lu⟩ := g2 p s e
      exact ⟨u, eu, Int.le_trans lu l⟩
    · show (bad F ps (rnd F (rounds F n))).length ≤ _
      by_cases e : bad F ps (rounds F n) = []
      · rw [bad_stays ok g1 g2 e]
        exact Nat.zero_le _
      · have := round_step ok h1 g1 h2 g2 g3 e
        omega
theorem rounds_first {F : Fire} {ps : List Str} (ok : Ok F ps) {n : Nat} (h : ps.length ≤ n) (p : Str) : rounds F n p = first F p := by
  obtain ⟨h1, h2, h3⟩ := rounds_ok ok n
  refine bad_none ok h1 (List.length_eq_zero_iff.mp ?_) p
  omega
end FP

set_option Elab.async false
set_option linter.all false
set_option maxRecDepth 100000
set_option maxHeartbeats 4000000
/-! data that can be shown: how deep, how heavy -/
namespace RpX
open PySem PySem.Spec PyProof.Rows L2
structure Rp (n w : Nat) (d : PyData) : Prop where
  lay : PyData.canLay0 d = true
  dep : PyData.depth d ≤ n
  wt : PyData.weight d ≤ w
  sh : PyData.showable d = true
  short : PyData.intsShort 13 d = true
theorem Rp.up {n m w v : Nat} {d : PyData} (h : Rp n w d) (a : n ≤ m) (b : w ≤ v) : Rp m v d := ⟨h.lay, Nat.le_trans h.dep a, Nat.le_trans h.wt b, h.sh, h.short⟩
theorem rp_str {n w : Nat} {z : Str} (h : PyData.canLay0 (.str z) = true) (l : z.cps.size ≤ w) : Rp n w (.str z) := ⟨h, by simp only [PyData.depth]; omega, by simp only [PyData.weight]; exact l, by simp only [PyData.showable], by simp only [PyData.intsShort]⟩
theorem rp_none {n w : Nat} : Rp n w .none := ⟨by simp only [PyData.canLay0], by simp only [PyData.depth]; omega, by simp only [PyData.weight]; omega, by simp only [PyData.showable], by simp only [PyData.intsShort]⟩
theorem log2_le {m k : Nat} (h : m < 2 ^ (k + 1)) : m.log2 ≤ k := by
  rcases Nat.eq_zero_or_pos m with rfl | p
  · simp
  · have := (Nat.log2_lt (Nat.pos_iff_ne_zero.mp p)).mpr h
    omega
theorem rp_int {n : Nat} {i : Int} (h1 : -999999999999 ≤ i) (h2 : i ≤ 999999999999) : Rp n 41 (.int i) := by
  have b : i.natAbs < 2 ^ (39 + 1) := by have : (2 : Nat) ^ (39 + 1) = 1099511627776 := by decide +kernel
                                         omega
  have l := log2_le b
  refine ⟨by simp only [PyData.canLay0], by simp only [PyData.depth]; omega, ?_, ?_, ?_⟩
  · simp only [PyData.weight]
    split <;> omega
  · simp only [PyData.showable]
    exact decide_eq_true (by omega)
  · simp only [PyData.intsShort]
    exact decide_eq_true (PyData.shown_int_le2 h1 h2)
theorem rp_all {n w : Nat} : ∀ {ds : List PyData}, (∀ d ∈ ds, Rp n w d) → PyData.canLayAll0 ds = true ∧ PyData.depthAll ds ≤ n ∧ PyData.weightAll ds ≤ ds.length * (w + 1) ∧ PyData.showableAll ds = true ∧ PyData.intsShortAll 13 ds = true
  | [], _ => ⟨by simp only [PyData.canLayAll0], by simp only [PyData.depthAll]; omega, by simp only [PyData.weightAll]; omega, by simp only [PyData.showableAll], by simp only [PyData.intsShortAll]⟩
  | d :: ds, h => by
    obtain ⟨a1, a2, a3, a4, a5⟩ := rp_all fun x hx => h x (List.mem_cons_of_mem _ hx)
    obtain ⟨b1, b2, b3, b4, b5⟩ := h d List.mem_cons_self
    refine ⟨by simp only [PyData.canLayAll0, b1, a1, Bool.and_self], by simp only [PyData.depthAll]; omega, ?_, by simp only [PyData.showableAll, b4, a4, Bool.and_self], by simp only [PyData.intsShortAll, b5, a5, Bool.and_self]⟩
    simp only [PyData.weightAll, List.length_cons, Nat.add_mul]
    omega
theorem rp_tup {n w m : Nat} {ds : List PyData} (h : ∀ d ∈ ds, Rp n w d) (l : ds.length ≤ m) : Rp (n + 1) (m * (w + 1)) (.tuple ds) := by
  obtain ⟨a1, a2, a3, a4, a5⟩ := rp_all h
  exact ⟨by simp only [PyData.canLay0]; exact a1, by simp only [PyData.depth]; omega, by simp only [PyData.weight]; exact Nat.le_trans a3 (Nat.mul_le_mul_right _ l), by simp only [PyData.showable]; exact a4, by simp only [PyData.intsShort]; exact a5⟩
theorem rp_lst {n w m : Nat} {ds : List PyData} (h : ∀ d ∈ ds, Rp n w d) (l : ds.length ≤ m) : Rp (n + 1) (m * (w + 1)) (.list ds) := by
  obtain ⟨a1, a2, a3, a4, a5⟩ := rp_all h
  exact ⟨by simp only [PyData.canLay0]; exact a1, by simp only [PyData.depth]; omega, by simp only [PyData.weight]; exact Nat.le_trans a3 (Nat.mul_le_mul_right _ l), by simp only [PyData.showable]; exact a4, by simp only [PyData.intsShort]; exact a5⟩
theorem Rp.nd {n w : Nat} {d : PyData} (h : Rp n w d) : d.hasDict = false := PyData.hasDict_of_canLay d h.lay
theorem Rp.d20 {n w : Nat} {d : PyData} (h : Rp n w d) (hn : n ≤ 20 := by decide) : d.depth ≤ 20 := Nat.le_trans h.dep hn
theorem Rp.fits {n w : Nat} {d : PyData} (h : Rp n w d) (hn : n ≤ 20 := by decide) (hw : w ≤ 2 ^ 20 := by decide) : d.shown.length ≤ sizeLine := PyData.shown_fits_of_layable0 (B := 13) (by decide) (by decide) (by
    show (PyData.canLay0 d && decide (PyData.depth d ≤ 64) && decide (PyData.weight d ≤ 2 ^ 20)) = true
    rw [h.lay, decide_eq_true (show PyData.depth d ≤ 64 by have := h.dep; omega), decide_eq_true (show PyData.weight d ≤ 2 ^ 20 from Nat.le_trans h.wt hw)]
    rfl) h.short
end RpX

set_option Elab.async false
set_option linter.all false
set_option maxRecDepth 100000
set_option maxHeartbeats 4000000
/-! f'{x}' of a value that may be None -/
namespace FmtN
open PySem PySem.Spec PyProof.Rows L2
variable {X : Cx}
def tFmtN (te : TE) : TE := fun σ H Q => te σ H fun x H1 => (x = .non ∧ Q (.str "None") H1) ∨ (∃ y : Str, x = .str y ∧ y.length ≤ sizeLine ∧ Q (.str y) H1) ∨ ∃ i : Int, x = .int i ∧ i.natAbs.log2 < 1920 ∧ Q (.str (toString i)) H1
theorem pe_fmtN {e : Expr} {te : TE} {pos : Pos} (he : PE X e te) : PE X (.FormattedValue e (-1) none pos) (tFmtN te) := by
  refine ⟨fun pins s σ H Q I h => ?_⟩
  refine wpAny_FormattedValue_plain (thn (he.run pins s σ H _ I h) fun v s1 hv => ?_)
  obtain ⟨x, H1, I1, r1, q⟩ := hv
  rcases q with ⟨rfl, q⟩ | ⟨y, rfl, hz, q⟩ | ⟨i, rfl, hz, q⟩
  · cases r1
    exact wpAny_formatField_none ⟨.str "None", H1, I1.tok _, ⟨_, rfl⟩, q⟩
  · obtain ⟨t, rfl⟩ := r1
    exact wpAny_formatField_str ⟨.str y, H1, I1, ⟨t, rfl⟩, q⟩ ⟨.str y, H1, I1.tok _, ⟨_, rfl⟩, q⟩ hz
  · obtain ⟨t, rfl⟩ := r1
    exact wpAny_formatField_int hz ⟨.str (toString i), H1, I1.tok _, ⟨_, rfl⟩, q⟩
end FmtN

set_option Elab.async false
set_option linter.all false
set_option maxRecDepth 100000
set_option maxHeartbeats 4000000
/-! zip of a tuple and a list. -/
namespace ZpX
open PySem PySem.Spec PyProof.Rows L2
def ItM (K : PySem.W.Frag) (a b : Addr) : It where
  go := fun i H => ∃ (xs ys : List V) (x y : V), SqT K H a xs ∧ SqL K H b ys ∧ xs[i]? = some x ∧ ys[i]? = some y
  yld := fun i H v H' => ∃ (T : Addr) (x y : V), v = .ref T ∧ H T = none ∧ H' = upd H T (.tup [x, y]) ∧ (∀ xs, SqT K H a xs → xs[i]? = some x) ∧ ∀ ys, SqL K H b ys → ys[i]? = some y
  stop := fun i H => ∃ xs ys : List V, SqT K H a xs ∧ SqL K H b ys ∧ xs.length = i ∧ ys.length = i
def StM (z TI TO i1 i2 a b : Addr) (i : Nat) (h : Heap) : Prop := IsZip h z TI TO .none ∧ IsTupOf2 h TI (.ref i1) (.ref i2) ∧ (∃ x y, IsTupOf2 h TO x y) ∧ h.IsTupleIter i1 a i ∧ h.IsListIter i2 b i
theorem five {z TI TO i1 i2 c : Addr} (h : c ∈ [z, TI, TO, i1, i2]) : c = z ∨ c = TI ∨ c = TO ∨ c = i1 ∨ c = i2 := by simpa using h
theorem turnM {P : Program} {w : World} {K : PySem.W.Frag} {elts : List Expr} {kk : Nat} {tp : Pos} {z TI TO i1 i2 a b : Addr} (S : ZipSep2 z TI TO i1 i2 [i1, a] [i2, b]) : Turn P w K (.Tuple elts kk tp) (ItM K a b) [z, TI, TO, i1, i2] z (StM z TI TO i1 i2 a b) where
  mem := by simp
  obj := by
    rintro i h ⟨hz, hTI, ⟨x, y, hTO⟩, ⟨o1, e1, _, d1⟩, ⟨o2, e2, _, d2⟩⟩ c hc
    rcases five hc with rfl | rfl | rfl | rfl | rfl
    · exact ⟨_, hz, fun v q => nomatch q⟩
    · exact ⟨_, hTI, fun v q => nomatch q⟩
    · exact ⟨_, hTO, fun v q => nomatch q⟩
    · exact ⟨o1, e1, fun v q => by rw [d1] at q; cases q⟩
    · exact ⟨o2, e2, fun v q => by rw [d2] at q; cases q⟩
  keep := by
    rintro i h h2 ⟨hz, hTI, ⟨x, y, hTO⟩, h1, hl⟩ k
    exact ⟨k z (by simp) _ hz, k TI (by simp) _ hTI, ⟨x, y, k TO (by simp) _ hTO⟩, h1.at fun o q => k i1 (by simp) o q, hl.at fun o q => k i2 (by simp) o q⟩
  item := by
    intro X hP hw hK hc i pins s σ H E I hf st hg
    subst hP hw hK
    obtain ⟨hz, hTI, ⟨x0, y0, hTO⟩, h1, h2⟩ := st
    obtain ⟨xs, ys, x, y, hqx, hqy, hx, hy⟩ := hg
    obtain ⟨its, rv, p, _⟩ := I.tuple hqx
    obtain ⟨its2, rv2, p2, _⟩ := I.list hqy
    obtain ⟨u, hu, ru⟩ := rv.get hx
    obtain ⟨u2, hu2, ru2⟩ := rv2.get hy
    have hu' : its.toArray[i]? = some u := by simpa using hu
    have hu2' : its2.toArray[i]? = some u2 := by simpa using hu2
    have l1 : i < its.toArray.size := (Array.getElem?_eq_some_iff.mp hu').1
    have l2 : i < its2.toArray.size := (Array.getElem?_eq_some_iff.mp hu2').1
    have hh : X.A.in1.handled = none := I.ok.hd hc
    have ia : a ≠ i1 := fun e => by
      obtain ⟨o, ho, hcl, _⟩ := (show s.heap.IsTuple a its.toArray from p)
      obtain ⟨o2, ho2, hcl2, _⟩ := h1
      rw [e, ho2] at ho
      cases ho
      rw [hcl2] at hcl
      injection hcl with q
      exact absurd q (by decide)
    have ib : b ≠ i2 := fun e => by
      obtain ⟨o, ho, hcl, _⟩ := p2.isList
      obtain ⟨o2, ho2, hcl2, _⟩ := h2
      rw [e, ho2] at ho
      cases ho
      rw [hcl2] at hcl
      injection hcl with q
      exact absurd q (by decide)
    have hzl : z < s.heap.objs.size := Heap.lt_size hz
    refine wpAny_pyNext_zipD2_item S (Draws.tuple hh i1 a ia its.toArray) (Draws.list hh i2 b ib its2.toArray) hz hTI hTO ⟨h1, p⟩ ⟨h2, p2.isList⟩ l1 l2 fun y1 y2 h' tk q1 q2 z' TO' st1 st2 hT hsz hk => ?_
    obtain rfl : y1 = u := Option.some.inj (q1.symm.trans hu')
    obtain rfl : y2 = u2 := Option.some.inj (q2.symm.trans hu2')
    refine ⟨_, rfl, wpAny_letOwnedTupleGo_zip (s := { s with heap := h', toks := tk }) z' fun h'' z'' sb => ?_⟩
    have hT2 : h''.get? s.heap.objs.size = some { cls := .type "tuple", data := .seq #[y1, y2] } := (sb.2 _ (Nat.ne_of_gt hzl)).trans hT
    have new : ObjOk X.prog X.w (upd H s.heap.objs.size (.tup [x, y])) h'' s.heap.objs.size (.tup [x, y]) :=
      ⟨by show 2 ≤ sizeLine; decide, [y1, y2], .cons ru (.cons ru2 .nil), ⟨_, hT2, rfl, _, rfl⟩⟩
    have I1 : Inv X pins σ (upd H s.heap.objs.size (.tup [x, y])) { s with heap := h'', toks := tk } :=
      I.turnedNew (t' := tk) (ch := [z, TI, TO, i1, i2]) (fun c o hb q => (sb.2 c (fun q' => hb (by simp [q']))).trans (hk c o (fun q' => hb (by simp [q'])) (fun q' => hb (by simp [q'])) (fun q' => hb (by simp [q'])) (fun q' => hb (by simp [q'])) q)) hf (Nat.le_refl _) new
    refine ⟨.ref s.heap.objs.size, _, I1, rfl, ⟨_, x, y, rfl, I.hok.fresh (Nat.le_refl _), rfl, fun l hl => by rw [I.tuple_inj hl hqx]; exact hx, fun l hl => by rw [I.list_inj hl hqy]; exact hy⟩, ⟨z'', ?_, ⟨y1, y2, ?_⟩, ?_, ?_⟩, fun c hcm => ?_⟩
    · exact (sb.2 _ S.TIz).trans (hk _ _ S.TIz S.TITO S.TIi1 S.TIi2 hTI)
    · exact (sb.2 _ S.TOz).trans TO'
    · exact st1.1.at fun o q => (sb.2 _ S.zi1.symm).trans q
    · exact st2.1.at fun o q => (sb.2 _ S.zi2.symm).trans q
    · have hlt : c < s.heap.objs.size := by
        rcases five hcm with rfl | rfl | rfl | rfl | rfl
        · exact hzl
        · exact Heap.lt_size hTI
        · exact Heap.lt_size hTO
        · obtain ⟨_, e1, _⟩ := h1; exact Heap.lt_size e1
        · obtain ⟨_, e2, _⟩ := h2; exact Heap.lt_size e2
      rw [upd_ne (Nat.ne_of_lt hlt)]
      exact (hf c hcm).1
  done := by
    intro X hP hw hK hc i pins s σ H E I hf st hg
    subst hP hw hK
    obtain ⟨hz, hTI, ⟨x0, y0, hTO⟩, h1, h2⟩ := st
    obtain ⟨xs, ys, hqx, hqy, n1, n2⟩ := hg
    obtain ⟨its, rv, p, _⟩ := I.tuple hqx
    obtain ⟨its2, rv2, p2, _⟩ := I.list hqy
    have l1 := rv.length
    have l2 := rv2.length
    have hh : X.A.in1.handled = none := I.ok.hd hc
    have ia : a ≠ i1 := fun e => by
      obtain ⟨o, ho, hcl, _⟩ := (show s.heap.IsTuple a its.toArray from p)
      obtain ⟨o2, ho2, hcl2, _⟩ := h1
      rw [e, ho2] at ho
      cases ho
      rw [hcl2] at hcl
      injection hcl with q
      exact absurd q (by decide)
    have ib : b ≠ i2 := fun e => by
      obtain ⟨o, ho, hcl, _⟩ := p2.isList
      obtain ⟨o2, ho2, hcl2, _⟩ := h2
      rw [e, ho2] at ho
      cases ho
      rw [hcl2] at hcl
      injection hcl with q
      exact absurd q (by decide)
    refine wpAny_pyNext_zipD2_end S (Draws.tuple hh i1 a ia its.toArray) (Draws.list hh i2 b ib its2.toArray) hz hTI hTO ⟨h1, p⟩ ⟨h2, p2.isList⟩ (by simp; omega) (by simp; omega) (.inl (by simp; omega)) fun h' tk hk => ⟨rfl, I.turnedL (t' := tk) (ch := [z, TI, TO, i1, i2]) (fun c o hb q =>
      hk c o (fun q' => hb (by simp [q'])) (fun q' => hb (by simp [q'])) (fun q' => hb (by simp [q'])) (fun q' => hb (by simp [q'])) q) hf⟩
  self := fun A i s Q E st h => wpAny_pyIter_zip st.1 h
def iZipM (K : PySem.W.Frag) (ta : TA) : TI := fun σ H R => ta σ H fun vs H1 => ∃ a b xs ys, vs = [.ref a, .ref b] ∧ SqT K H1 a xs ∧ SqL K H1 b ys ∧ R (ItM K a b) H1
theorem not2 {x y z : Nat} (h1 : x ≠ y) (h2 : x ≠ z) : (x : Addr) ∉ [(y : Addr), z] := fun h => by
  rcases List.mem_cons.mp h with e | e
  · exact h1 e
  · exact h2 (List.mem_singleton.mp e)
theorem sep_new {N a b : Nat} (ha : a < N) (hb : b < N) : ZipSep2 (N + 4 : Nat) (N + 2 : Nat) (N + 3 : Nat) N (N + 1 : Nat) [N, a] [(N + 1 : Nat), b] where
  TIz := (by omega : (N + 2 : Nat) ≠ N + 4)
  TOz := (by omega : (N + 3 : Nat) ≠ N + 4)
  TITO := (by omega : (N + 2 : Nat) ≠ N + 3)
  TIi1 := (by omega : (N + 2 : Nat) ≠ N)
  mem1 := List.mem_cons_self
  zf1 := not2 (by omega) (by omega)
  Tf1 := not2 (by omega) (by omega)
  TIi2 := (by omega : (N + 2 : Nat) ≠ N + 1)
  mem2 := List.mem_cons_self
  zf2 := not2 (by omega) (by omega)
  Tf2 := not2 (by omega) (by omega)
  sep1_2 := not2 (by omega) (by omega)
  sep2_1 := not2 (by omega) (by omega)
theorem pi_zipM {X : Cx} {e e2 : Expr} {ta : TA} {p pos tpos : Pos} {elts : List Expr} {kk : Nat} (hg : Gl X "zip") (hm : X.mg "zip" = none) (ha : PA X [e, e2] ta)
    (hs : starEach [e, e2] X.env = (false, eval e X.env) :: starEach [e2] X.env := by rfl) (hpl : (backTo pos (starEach [e2] X.env)).any (·.1) = false := by rfl) :
    PI X (.Tuple elts kk tpos) (.Call (.Name "zip" p) [e, e2] [] pos) (iZipM X.K ta) := by
  refine ⟨fun pins s σ H R I h => ?_⟩
  refine Call_ (ld_blt I hg hm PyProof.Rows.boot_zip (PyProof.Rows.callWith_type1 (thn (ha.run pos pins s σ H _ I h) fun us s1 ⟨vs, H1, I1, r1, q1⟩ => ?_) hs hpl))
  obtain ⟨a, b, xs, ys, ex, hqx, hqy, q⟩ := q1
  subst ex
  cases r1 with
  | cons r rr =>
    cases rr with
    | cons r' rr =>
      cases rr
      cases r
      cases r'
      obtain ⟨its, rv, p1, _⟩ := I1.tuple hqx
      obtain ⟨its2, rv2, p2, _⟩ := I1.list hqy
      obtain ⟨o1, ho1, _⟩ := id p1
      refine zip_begins2 (begins_tuple a its.toArray) (begins_list b its2.toArray) (show s1.heap.IsTuple a its.toArray from p1) p2.isList fun h' hz hTI hTO h1 h2 hsz hk => wpAny_pyIter_zip hz ?_
      have I2 : Inv X pins σ H1 { s1 with heap := h' } := I1.kept (t' := s1.toks) hk
      refine ⟨s1.heap.objs.size + 4, [s1.heap.objs.size + 4, s1.heap.objs.size + 2, s1.heap.objs.size + 3, s1.heap.objs.size, s1.heap.objs.size + 1], _, _, H1, rfl, I2, turnM (sep_new (Heap.lt_size ho1) p2.lt), ⟨hz, hTI, ⟨_, _, hTO⟩, ⟨_, h1, rfl, rfl⟩, ⟨_, h2, rfl, rfl⟩⟩, fun c hcm => ?_, q⟩
      have hle : s1.heap.objs.size ≤ c := by
        rcases five hcm with h | h | h | h | h <;> rw [h] <;> omega
      exact I1.fpOk hle (I1.hok.fresh hle)
end ZpX
namespace ZpX
open PySem PySem.Spec PyProof.Rows L2
/-- what a turn gives -/
theorem walk_zipM {K : PySem.W.Frag} {a b : Addr} {xs ys : List V} (hl : xs.length = ys.length) : Walk (ItM K a b) xs.length (fun H => SqT K H a xs ∧ SqL K H b ys) (fun i H v H' => ∃ (T : Addr) (x y : V), v = .ref T ∧ H T = none ∧ H' = upd H T (.tup [x, y]) ∧ xs[i]? = some x ∧ ys[i]? = some y) := by
  refine ⟨fun i _ hi q => ⟨xs, ys, xs[i], ys[i]'(by omega), q.1, q.2, by simp [hi], by simp [show i < ys.length by omega]⟩, fun _ q => ⟨xs, ys, q.1, q.2, rfl, hl.symm⟩, fun i H v H' _ q y => ?_⟩
  obtain ⟨T, x, y, h1, h2, h3, h4, h5⟩ := y
  exact ⟨T, x, y, h1, h2, h3, h4 xs q.1, h5 ys q.2⟩
end ZpX
namespace ZpX
open PySem PySem.Spec PyProof.Rows L2
theorem for_zipM {K : PySem.W.Frag} {a b : Addr} {xs ys : List V} {g : TG} {tb : TS} {D : Ends} {σ : L2.St} {H : Hp} (hl : xs.length = ys.length) (Pv : Nat → L2.St → Hp → Prop) (h0 : Pv 0 σ H) (hq : ∀ i σ H, Pv i σ H → SqT K H a xs ∧ SqL K H b ys)
    (hs : ∀ (i : Nat) (x y : V) (T : Addr) (σ : L2.St) (H : Hp), xs[i]? = some x → ys[i]? = some y → Pv i σ H → H T = none → g (.ref T) σ (upd H T (.tup [x, y])) fun σ2 H2 => tb { D with nx := Pv (i + 1), ct := Pv (i + 1), bk := D.nx } σ2 H2) (hd : ∀ σ H, Pv xs.length σ H → D.nx σ H) :
    ∃ W : Nat → Nat → L2.St → Hp → Prop, (∃ m, W 0 m σ H) ∧ ∀ i m σ H, W i m σ H →
      ((ItM K a b).stop i H ∧ D.nx σ H) ∨ ((ItM K a b).go i H ∧ ∃ N : L2.St → Hp → Prop, (∀ σ' H', N σ' H' → ∃ m', m' < m ∧ W (i + 1) m' σ' H') ∧ ∀ v H', (ItM K a b).yld i H v H' → g v σ H' fun σ2 H2 => tb { D with nx := N, ct := N, bk := D.nx } σ2 H2) :=
  for_it (walk_zipM (K := K) (a := a) (b := b) hl) (g := g) (tb := tb) (D := D) Pv h0 (fun i σ H _ p => hq i σ H p) (fun i v σ H H' _ p y => by
    obtain ⟨T, x, y, rfl, hT, rfl, hx, hy⟩ := y
    exact hs i x y T σ H hx hy p hT) hd
end ZpX

set_option Elab.async false
set_option linter.all false
set_option maxRecDepth 100000
set_option maxHeartbeats 4000000
/-! zip of a tuple and a list or a tuple. -/
namespace ZpX
open PySem PySem.Spec PyProof.Rows L2
def iZipE (K : PySem.W.Frag) (ta : TA) : TI := fun σ H R => RZ.iZipA K ta σ H R ∨ iZipM K ta σ H R
theorem pi_zipE {X : Cx} {e e2 : Expr} {ta : TA} {p pos tpos : Pos} {elts : List Expr} {kk : Nat} (hg : Gl X "zip") (hm : X.mg "zip" = none) (ha : PA X [e, e2] ta)
    (hs : starEach [e, e2] X.env = (false, eval e X.env) :: starEach [e2] X.env := by rfl) (hpl : (backTo pos (starEach [e2] X.env)).any (·.1) = false := by rfl) :
    PI X (.Tuple elts kk tpos) (.Call (.Name "zip" p) [e, e2] [] pos) (iZipE X.K ta) :=
  ⟨fun pins s σ H R I h => h.elim ((RZ.pi_zipA hg hm ha hs hpl).1 pins s σ H R I) ((pi_zipM hg hm ha hs hpl).1 pins s σ H R I)⟩
end ZpX

set_option Elab.async false
set_option linter.all false
set_option maxRecDepth 100000
set_option maxHeartbeats 4000000
/-! t + u, t[lo:hi], t * k: what is read of the answer, whether it is made anew or not. -/
namespace TupS
open PySem PySem.Spec PyProof.Rows L2
variable {X : Cx}
def rCatS (K : PySem.W.Frag) : R2 := fun x y H Q => ∃ a b xs ys, x = .ref a ∧ y = .ref b ∧ SqT K H a xs ∧ SqT K H b ys ∧ xs.length + ys.length ≤ sizeLine ∧ ∀ p H', Evl.Ex H H' → SqT K H' p (xs ++ ys) → Q (.ref p) H'
theorem op_catS : OpR X (binaryOp .Add) (rCatS X.K) := by
  intro pins s σ H x y v u Q I rx ry h
  obtain ⟨a, b, xs, ys, rfl, rfl, ha, hb, hz, q⟩ := h
  refine op_catA pins s σ H _ _ v u Q I rx ry ⟨a, b, xs, ys, rfl, rfl, ha, hb, hz, fun e => ?_, fun _ e => ?_, fun _ _ p hp => ?_⟩
  · subst e; exact q b H (Evl.Ex.refl H) hb
  · subst e; exact q a H (Evl.Ex.refl H) (by rw [List.append_nil]; exact ha)
  · exact q p _ (Evl.Ex.new hp) (SqT.of upd_same)
def rSlS (K : PySem.W.Frag) : V → Option Int → Option Int → Hp → VK → Prop := fun x lo hi H Q => ∃ a xs, x = .ref a ∧ SqT K H a xs ∧ ∀ p H', Evl.Ex H H' → SqT K H' p (cutV xs lo hi) → Q (.ref p) H'
theorem cut_whole {xs : List V} {lo hi : Option Int} (h : HT.sIx xs.length 0 lo = 0 ∧ HT.sIx xs.length xs.length hi = xs.length) : cutV xs lo hi = xs := by
  unfold cutV
  rw [h.1, h.2, List.drop_zero, Nat.sub_zero, List.take_length]
theorem sl_tupS : SlR X (rSlS X.K) := by
  intro pins s σ H x v vl vu lo hi sl Q I rx hs pl pu h
  obtain ⟨a, xs, rfl, hx, q⟩ := h
  refine sl_tupA pins s σ H _ v vl vu lo hi sl Q I rx hs pl pu ⟨a, xs, rfl, hx, fun c => ?_, fun _ p hp => ?_⟩
  · exact q a H (Evl.Ex.refl H) (by rw [cut_whole c]; exact hx)
  · exact q p _ (Evl.Ex.new hp) (SqT.of upd_same)
def rRepS (K : PySem.W.Frag) : V → V → Hp → VK → Prop := fun x y H Q => ∃ (l : Addr) (k : Int) (xs : List V), x = .ref l ∧ y = .int k ∧ SqT K H l xs ∧ xs ≠ [] ∧ 1 ≤ k ∧ k ≤ 1000 ∧ xs.length ≤ 1000 ∧ ∀ p H', Evl.Ex H H' → SqT K H' p (List.replicate k.toNat xs).flatten → Q (.ref p) H'
theorem op_repS : OpR X (binaryOp .Mult) (rRepS X.K) := by
  intro pins s σ H x y v u Q I rv ru h
  obtain ⟨l, k, xs, rfl, rfl, st, ne, k1, k1000, lx, q⟩ := h
  refine MinD.op_rep1 pins s σ H _ _ v u Q I rv ru ⟨l, k, xs, rfl, rfl, st, ne, k1, k1000, lx, fun e => ?_, fun _ p hp => ?_⟩
  · subst e; exact q l H (Evl.Ex.refl H) (by show SqT X.K H l (List.replicate 1 xs).flatten; simpa using st)
  · exact q p _ (Evl.Ex.new hp) (SqT.of upd_same)
end TupS

set_option Elab.async false
set_option linter.all false
set_option maxRecDepth 100000
set_option maxHeartbeats 4000000
namespace EV
open PySem PySem.Spec PyProof.Rows L2 EvS
def top (i : Nat) : Stmt := PySem.Challenge.pw_everyfire_k10_numbers_of_a_fire.main.body.getD i (.Pass ⟨0, 0, 0, 0⟩)
abbrev s_least_numbers : Stmt := top 7
abbrev s_most_numbers : Stmt := top 8
abbrev s_check_numbers : Stmt := top 9
abbrev s__is_within : Stmt := top 10
abbrev s_is_name : Stmt := top 20
abbrev s__check_count : Stmt := top 21
abbrev s__check_names : Stmt := top 22
abbrev s__check_ends : Stmt := top 23
abbrev s__as_bounds : Stmt := top 24
abbrev s__as_link : Stmt := top 25
abbrev s__as_path : Stmt := top 26
abbrev s__check_single_paths : Stmt := top 27
abbrev s_init : Stmt := inClass (top 28) 0
abbrev s_link_names : Stmt := inClass (top 28) 1
abbrev s__law_row : Stmt := top 30
abbrev s__law_numbers : Stmt := top 31
abbrev s__law_names : Stmt := top 32
abbrev s__law_parts : Stmt := top 33
abbrev s__law_made : Stmt := top 34
abbrev s__law_side : Stmt := top 39
abbrev s__law_between : Stmt := top 40
abbrev s__law_checked : Stmt := top 41
abbrev s__law_faulty : Stmt := top 42
abbrev s_law : Stmt := top 43
theorem sc_least_numbers : FnScope ["land", "link", "bounds"] ["land"] (defScope s_least_numbers) := ⟨rfl, rfl, rfl, by decide +kernel, rfl, by decide +kernel, by decide +kernel⟩
theorem sc_most_numbers : FnScope ["land", "link", "bounds"] ["land"] (defScope s_most_numbers) := ⟨rfl, rfl, rfl, by decide +kernel, rfl, by decide +kernel, by decide +kernel⟩
theorem sc_check_numbers : FnScope ["land", "numbers", "link", "row", "bounds", "number"] ["land", "numbers"] (defScope s_check_numbers) := ⟨rfl, rfl, rfl, by decide +kernel, rfl, by decide +kernel, by decide +kernel⟩
theorem sc__is_within : FnScope ["bounds", "number"] ["bounds", "number"] (defScope s__is_within) := ⟨rfl, rfl, rfl, by decide +kernel, rfl, by decide +kernel, by decide +kernel⟩
theorem sc_is_name : FnScope ["text", "sign"] ["text"] (defScope s_is_name) := ⟨rfl, rfl, rfl, by decide +kernel, rfl, by decide +kernel, by decide +kernel⟩
theorem sc__check_count : FnScope ["sort", "rows", "least", "most"] ["sort", "rows", "least", "most"] (defScope s__check_count) := ⟨rfl, rfl, rfl, by decide +kernel, rfl, by decide +kernel, by decide +kernel⟩
theorem sc__check_names : FnScope ["sort", "names", "name"] ["sort", "names"] (defScope s__check_names) := ⟨rfl, rfl, rfl, by decide +kernel, rfl, by decide +kernel, by decide +kernel⟩
theorem sc__check_ends : FnScope ["sort", "one", "other", "places"] ["sort", "one", "other", "places"] (defScope s__check_ends) := ⟨rfl, rfl, rfl, by decide +kernel, rfl, by decide +kernel, by decide +kernel⟩
theorem sc__as_bounds : FnScope ["bounds", "least", "most"] ["bounds"] (defScope s__as_bounds) := ⟨rfl, rfl, rfl, by decide +kernel, rfl, by decide +kernel, by decide +kernel⟩
theorem sc__as_link : FnScope ["link", "winds", "places", "name", "one", "other", "times", "bounds"] ["link", "winds", "places"] (defScope s__as_link) := ⟨rfl, rfl, rfl, by decide +kernel, rfl, by decide +kernel, by decide +kernel⟩
theorem sc__as_path : FnScope ["path", "places", "one", "other", "minutes"] ["path", "places"] (defScope s__as_path) := ⟨rfl, rfl, rfl, by decide +kernel, rfl, by decide +kernel, by decide +kernel⟩
theorem sc__check_single_paths : FnScope ["paths", "ends", "one", "other", "_"] ["paths"] (defScope s__check_single_paths) := ⟨rfl, rfl, rfl, by decide +kernel, rfl, by decide +kernel, by decide +kernel⟩
theorem sc_init : FnScope ["self", "winds", "places", "links", "paths", "link", "path"] ["self", "winds", "places", "links", "paths"] (defScope s_init) := ⟨rfl, rfl, rfl, by decide +kernel, rfl, by decide +kernel, by decide +kernel⟩
theorem sc_link_names : FnScope ["self", "link"] ["self"] (defScope s_link_names) := ⟨rfl, rfl, rfl, by decide +kernel, rfl, by decide +kernel, by decide +kernel⟩
theorem sc__law_row : FnScope ["cell", "many", "row", "rest", "mixed", "k"] ["cell", "many"] (defScope s__law_row) := ⟨rfl, rfl, rfl, by decide +kernel, rfl, by decide +kernel, by decide +kernel⟩
theorem sc__law_numbers : FnScope ["script", "many", "cells", "each", "numbers", "cell", "number"] ["script", "many"] (defScope s__law_numbers) := ⟨rfl, rfl, rfl, by decide +kernel, rfl, by decide +kernel, by decide +kernel⟩
theorem sc__law_names : FnScope ["number", "many", "letters", "size", "rest", "place", "names", "k", "own", "spot", "step"] ["number", "many"] (defScope s__law_names) := ⟨rfl, rfl, rfl, by decide +kernel, rfl, by decide +kernel, by decide +kernel⟩
theorem sc__law_parts : FnScope ["numbers", "at", "winds", "places", "names", "links", "k", "spot", "one", "other", "times", "j", "number", "least"] ["numbers", "at"] (defScope s__law_parts) := ⟨rfl, rfl, rfl, by decide +kernel, rfl, by decide +kernel, by decide +kernel⟩
theorem sc__law_made : FnScope ["parts"] ["parts"] (defScope s__law_made) := ⟨rfl, rfl, rfl, by decide +kernel, rfl, by decide +kernel, by decide +kernel⟩
theorem sc__law_side : FnScope ["parts", "side", "rows", "link", "row", "pair"] ["parts", "side"] (defScope s__law_side) := ⟨rfl, rfl, rfl, by decide +kernel, rfl, by decide +kernel, by decide +kernel⟩
theorem sc__law_between : FnScope ["parts", "numbers", "at", "rows", "k", "row", "j", "pair"] ["parts", "numbers", "at"] (defScope s__law_between) := ⟨rfl, rfl, rfl, by decide +kernel, rfl, by decide +kernel, by decide +kernel⟩
theorem sc__law_checked : FnScope ["land", "numbers", "e"] ["land", "numbers"] (defScope s__law_checked) := ⟨rfl, rfl, rfl, by decide +kernel, rfl, by decide +kernel, by decide +kernel⟩
theorem sc__law_faulty : FnScope ["parts", "rows", "number", "other", "which", "k", "j", "pair", "row", "wrong"] ["parts", "rows", "number", "other"] (defScope s__law_faulty) := ⟨rfl, rfl, rfl, by decide +kernel, rfl, by decide +kernel, by decide +kernel⟩
theorem sc_law : FnScope ["script", "numbers", "parts", "land", "between", "rows", "k", "row"] ["script"] (defScope s_law) := ⟨rfl, rfl, rfl, by decide +kernel, rfl, by decide +kernel, by decide +kernel⟩
structure PF (P : Program) : Prop where
  file : ((P.main.file : Str) == PySem.Challenge.pw_everyfire_k10_numbers_of_a_fire.main.file) = true
  top : (P.main.scope.names.lookup ("super" : Str)).isSome = false
/-- where the top has put things -/
structure Ad where
  C : Addr
  tl : Addr
  te : Addr
  pr : Addr
  X_EveryfireError : Addr
  X_InvalidQuestion : Addr
  f_least_numbers : Addr
  d_least_numbers : FuncData
  f_most_numbers : Addr
  d_most_numbers : FuncData
  f_check_numbers : Addr
  d_check_numbers : FuncData
  f__is_within : Addr
  d__is_within : FuncData
  f_is_name : Addr
  d_is_name : FuncData
  f__check_count : Addr
  d__check_count : FuncData
  f__check_names : Addr
  d__check_names : FuncData
  f__check_ends : Addr
  d__check_ends : FuncData
  f__as_bounds : Addr
  d__as_bounds : FuncData
  f__as_link : Addr
  d__as_link : FuncData
  f__as_path : Addr
  d__as_path : FuncData
  f__check_single_paths : Addr
  d__check_single_paths : FuncData
  f_init : Addr
  d_init : FuncData
  f_link_names : Addr
  d_link_names : FuncData
  f__law_row : Addr
  d__law_row : FuncData
  f__law_numbers : Addr
  d__law_numbers : FuncData
  f__law_names : Addr
  d__law_names : FuncData
  f__law_parts : Addr
  d__law_parts : FuncData
  f__law_made : Addr
  d__law_made : FuncData
  f__law_side : Addr
  d__law_side : FuncData
  f__law_between : Addr
  d__law_between : FuncData
  f__law_checked : Addr
  d__law_checked : FuncData
  f__law_faulty : Addr
  d__law_faulty : FuncData
  f_law : Addr
  d_law : FuncData
structure Txt (K : PySem.W.Frag) (mg : Str → Option Value) (a : Ad) : Prop where
  F_least_numbers : Fun K "least_numbers" "least_numbers" s_least_numbers a.f_least_numbers a.d_least_numbers
  B_least_numbers : Binds K a.d_least_numbers ["land"] []
  k_least_numbers : PySem.W.keepIn K (.ref a.f_least_numbers) = true
  g_least_numbers : mg "least_numbers" = some (.ref a.f_least_numbers)
  F_most_numbers : Fun K "most_numbers" "most_numbers" s_most_numbers a.f_most_numbers a.d_most_numbers
  B_most_numbers : Binds K a.d_most_numbers ["land"] []
  k_most_numbers : PySem.W.keepIn K (.ref a.f_most_numbers) = true
  g_most_numbers : mg "most_numbers" = some (.ref a.f_most_numbers)
  F_check_numbers : Fun K "check_numbers" "check_numbers" s_check_numbers a.f_check_numbers a.d_check_numbers
  B_check_numbers : Binds K a.d_check_numbers ["land", "numbers"] []
  k_check_numbers : PySem.W.keepIn K (.ref a.f_check_numbers) = true
  g_check_numbers : mg "check_numbers" = some (.ref a.f_check_numbers)
  F__is_within : Fun K "_is_within" "_is_within" s__is_within a.f__is_within a.d__is_within
  B__is_within : Binds K a.d__is_within ["bounds", "number"] []
  k__is_within : PySem.W.keepIn K (.ref a.f__is_within) = true
  g__is_within : mg "_is_within" = some (.ref a.f__is_within)
  F_is_name : Fun K "is_name" "is_name" s_is_name a.f_is_name a.d_is_name
  B_is_name : Binds K a.d_is_name ["text"] []
  k_is_name : PySem.W.keepIn K (.ref a.f_is_name) = true
  g_is_name : mg "is_name" = some (.ref a.f_is_name)
  F__check_count : Fun K "_check_count" "_check_count" s__check_count a.f__check_count a.d__check_count
  B__check_count : Binds K a.d__check_count ["sort", "rows", "least", "most"] []
  k__check_count : PySem.W.keepIn K (.ref a.f__check_count) = true
  g__check_count : mg "_check_count" = some (.ref a.f__check_count)
  F__check_names : Fun K "_check_names" "_check_names" s__check_names a.f__check_names a.d__check_names
  B__check_names : Binds K a.d__check_names ["sort", "names"] []
  k__check_names : PySem.W.keepIn K (.ref a.f__check_names) = true
  g__check_names : mg "_check_names" = some (.ref a.f__check_names)
  F__check_ends : Fun K "_check_ends" "_check_ends" s__check_ends a.f__check_ends a.d__check_ends
  B__check_ends : Binds K a.d__check_ends ["sort", "one", "other", "places"] []
  k__check_ends : PySem.W.keepIn K (.ref a.f__check_ends) = true
  g__check_ends : mg "_check_ends" = some (.ref a.f__check_ends)
  F__as_bounds : Fun K "_as_bounds" "_as_bounds" s__as_bounds a.f__as_bounds a.d__as_bounds
  B__as_bounds : Binds K a.d__as_bounds ["bounds"] []
  k__as_bounds : PySem.W.keepIn K (.ref a.f__as_bounds) = true
  g__as_bounds : mg "_as_bounds" = some (.ref a.f__as_bounds)
  F__as_link : Fun K "_as_link" "_as_link" s__as_link a.f__as_link a.d__as_link
  B__as_link : Binds K a.d__as_link ["link", "winds", "places"] []
  k__as_link : PySem.W.keepIn K (.ref a.f__as_link) = true
  g__as_link : mg "_as_link" = some (.ref a.f__as_link)
  F__as_path : Fun K "_as_path" "_as_path" s__as_path a.f__as_path a.d__as_path
  B__as_path : Binds K a.d__as_path ["path", "places"] []
  k__as_path : PySem.W.keepIn K (.ref a.f__as_path) = true
  g__as_path : mg "_as_path" = some (.ref a.f__as_path)
  F__check_single_paths : Fun K "_check_single_paths" "_check_single_paths" s__check_single_paths a.f__check_single_paths a.d__check_single_paths
  B__check_single_paths : Binds K a.d__check_single_paths ["paths"] []
  k__check_single_paths : PySem.W.keepIn K (.ref a.f__check_single_paths) = true
  g__check_single_paths : mg "_check_single_paths" = some (.ref a.f__check_single_paths)
  F_init : FunD K "__init__" "Land.__init__" (defArgs s_init) (defBody s_init) (defScope s_init) [] [("links", .ref a.tl), ("paths", .ref a.te)] a.f_init a.d_init
  F_link_names : Fun K "link_names" "Land.link_names" s_link_names a.f_link_names a.d_link_names
  B_link_names : Binds K a.d_link_names ["self"] []
  k_link_names : PySem.W.keepIn K (.ref a.f_link_names) = true
  F__law_row : Fun K "_law_row" "_law_row" s__law_row a.f__law_row a.d__law_row
  B__law_row : Binds K a.d__law_row ["cell", "many"] []
  k__law_row : PySem.W.keepIn K (.ref a.f__law_row) = true
  g__law_row : mg "_law_row" = some (.ref a.f__law_row)
  F__law_numbers : Fun K "_law_numbers" "_law_numbers" s__law_numbers a.f__law_numbers a.d__law_numbers
  B__law_numbers : Binds K a.d__law_numbers ["script", "many"] []
  k__law_numbers : PySem.W.keepIn K (.ref a.f__law_numbers) = true
  g__law_numbers : mg "_law_numbers" = some (.ref a.f__law_numbers)
  F__law_names : Fun K "_law_names" "_law_names" s__law_names a.f__law_names a.d__law_names
  B__law_names : Binds K a.d__law_names ["number", "many"] []
  k__law_names : PySem.W.keepIn K (.ref a.f__law_names) = true
  g__law_names : mg "_law_names" = some (.ref a.f__law_names)
  F__law_parts : Fun K "_law_parts" "_law_parts" s__law_parts a.f__law_parts a.d__law_parts
  B__law_parts : Binds K a.d__law_parts ["numbers", "at"] []
  k__law_parts : PySem.W.keepIn K (.ref a.f__law_parts) = true
  g__law_parts : mg "_law_parts" = some (.ref a.f__law_parts)
  F__law_made : Fun K "_law_made" "_law_made" s__law_made a.f__law_made a.d__law_made
  B__law_made : Binds K a.d__law_made ["parts"] []
  k__law_made : PySem.W.keepIn K (.ref a.f__law_made) = true
  g__law_made : mg "_law_made" = some (.ref a.f__law_made)
  F__law_side : Fun K "_law_side" "_law_side" s__law_side a.f__law_side a.d__law_side
  B__law_side : Binds K a.d__law_side ["parts", "side"] []
  k__law_side : PySem.W.keepIn K (.ref a.f__law_side) = true
  g__law_side : mg "_law_side" = some (.ref a.f__law_side)
  F__law_between : Fun K "_law_between" "_law_between" s__law_between a.f__law_between a.d__law_between
  B__law_between : Binds K a.d__law_between ["parts", "numbers", "at"] []
  k__law_between : PySem.W.keepIn K (.ref a.f__law_between) = true
  g__law_between : mg "_law_between" = some (.ref a.f__law_between)
  F__law_checked : Fun K "_law_checked" "_law_checked" s__law_checked a.f__law_checked a.d__law_checked
  B__law_checked : Binds K a.d__law_checked ["land", "numbers"] []
  k__law_checked : PySem.W.keepIn K (.ref a.f__law_checked) = true
  g__law_checked : mg "_law_checked" = some (.ref a.f__law_checked)
  F__law_faulty : Fun K "_law_faulty" "_law_faulty" s__law_faulty a.f__law_faulty a.d__law_faulty
  B__law_faulty : Binds K a.d__law_faulty ["parts", "rows", "number", "other"] []
  k__law_faulty : PySem.W.keepIn K (.ref a.f__law_faulty) = true
  g__law_faulty : mg "_law_faulty" = some (.ref a.f__law_faulty)
  F_law : Fun K "law" "law" s_law a.f_law a.d_law
  B_law : Binds K a.d_law ["script"] []
  k_law : PySem.W.keepIn K (.ref a.f_law) = true
  g_law : mg "law" = some (.ref a.f_law)
  z_ValueError : mg "ValueError" = none
  z_abs : mg "abs" = none
  z_all : mg "all" = none
  z_int : mg "int" = none
  z_isinstance : mg "isinstance" = none
  z_len : mg "len" = none
  z_list : mg "list" = none
  z_max : mg "max" = none
  z_min : mg "min" = none
  z_range : mg "range" = none
  z_repr : mg "repr" = none
  z_set : mg "set" = none
  z_sorted : mg "sorted" = none
  z_tuple : mg "tuple" = none
  z_zip : mg "zip" = none
  c_DIGITS : ∃ t, mg "DIGITS" = some (.str "0123456789" t)
  c_LETTERS : ∃ t, mg "LETTERS" = some (.str "abcdefghijklmnopqrstuvwxyz" t)
  c_LONGEST_NAME : ∃ t, mg "LONGEST_NAME" = some (.int 12 t)
  c_MOST_LINKS : ∃ t, mg "MOST_LINKS" = some (.int 60 t)
  c_MOST_MINUTES : ∃ t, mg "MOST_MINUTES" = some (.int 1000 t)
  c_MOST_PATHS : ∃ t, mg "MOST_PATHS" = some (.int 60 t)
  c_MOST_PLACES : ∃ t, mg "MOST_PLACES" = some (.int 24 t)
  c_MOST_WINDS : ∃ t, mg "MOST_WINDS" = some (.int 4 t)
  g_EveryfireError : mg "EveryfireError" = some (.ref a.X_EveryfireError)
  g_InvalidQuestion : mg "InvalidQuestion" = some (.ref a.X_InvalidQuestion)
  x_InvalidQuestion : PySem.W.excIn K a.X_InvalidQuestion [.type "ValueError", .type "Exception", .type "BaseException", .type "object"] "ValueError.__new__" = true
  k_InvalidQuestion : PySem.W.keepIn K (.ref a.X_InvalidQuestion) = true
  b_InvalidQuestion : PySem.W.subIn K (.ref a.X_InvalidQuestion) (.type "BaseException") = some true
  t_InvalidQuestion : PySem.W.typeIn K (.ref a.X_InvalidQuestion) = some (.type "type")
  ec_InvalidQuestion : ExcC K a.X_InvalidQuestion
  kt_InvalidQuestion_ValueError : PySem.W.kitOne K (.ref a.X_InvalidQuestion) (.type "ValueError") = some true
  kt_InvalidQuestion_EveryfireError : PySem.W.kitOne K (.ref a.X_InvalidQuestion) (.ref a.X_EveryfireError) = some true
  em_InvalidQuestion_InvalidQuestion : PySem.W.exmOne K (.ref a.X_InvalidQuestion) (.ref a.X_InvalidQuestion) = some true
  cl : Cls K a.C
  mk_Land : Mk K a.C a.f_init
  g_Land : mg "Land" = some (.ref a.C)
  nW : NoAttr K a.C "winds"
  nP : NoAttr K a.C "places"
  nL : NoAttr K a.C "links"
  nA : NoAttr K a.C "paths"
  p_link_names : PropOf K a.C "link_names" a.pr a.f_link_names
  tlT : ∀ H : Hp, SqT K H a.tl []
  teT : ∀ H : Hp, SqT K H a.te []
end EV

set_option Elab.async false
set_option linter.all false
set_option maxRecDepth 100000
set_option maxHeartbeats 4000000
namespace EV
open PySem PySem.Spec PyProof.Rows L2 EvS Evl
def LETS : List Nat := ("abcdefghijklmnopqrstuvwxyz" : Str).cps.toList
def DIGS : List Nat := ("0123456789" : Str).cps.toList
def okSign (c : Nat) : Bool := decide (c ∈ LETS) || decide (c ∈ DIGS)
/-- point 2 -/
def isName (z : Str) : Bool := decide (1 ≤ z.length ∧ z.length ≤ 12) && (z.cps.toList.head?.any fun c => decide (c ∈ LETS)) && z.cps.toList.all okSign
def sp_is_name : Sp := fun vs H Q _ => ∃ z : Str, vs = [.str z] ∧ z.length ≤ 10000 ∧ ∀ H', Ex H H' → Q (.bl (isName z)) H'
section
variable {P : Program} {w : World} {K : PySem.W.Frag} {mg : Str → Option Value} {base : Heap} {a : Ad}
theorem G_is_name (T : Txt K mg a) : FnOk P w K mg base CX0 1 a.f_is_name a.d_is_name ["text"] sp_is_name := by
  refine T.F_is_name.ok sc_is_name (fun vs H Q E h => ?_) (fun cdv A outer s H vs Q E hr h => ?_)
  · obtain ⟨z, rfl, _⟩ := h
    rfl
  · obtain ⟨z, rfl, hz, k⟩ := h
    have hzs : z.length ≤ sizeLine := sz_of (by omega)
    refine ⟨_, (pss_cons (ps_if (pt_not (pt_chain op_le op_le pe_int (pe_callB call_len_str (by rfl) T.z_len PySem.boot_len (pa_cons (pv 0) pa_nil)) (pe_gI rfl T.c_LONGEST_NAME))) (pss_one (ps_ret pe_bl)) pss_nil)
      (pss_one (ps_ret (pe_and (pe_cmpR op_in_sign (pe_ix ix_str (pv 0) pe_int (fun _ _ => rfl)) (pe_gS rfl T.c_LETTERS) rfl) (pe_one (pe_callB (cr_all rfl) (by rfl) T.z_all (by decide +kernel) (pa_cons (pe_lc (own := [("sign", 1)]) (g := gName 1) (tt := tYes) rfl sc_is_name.nd (pi_str (pv 0)) (blkOk_by (N := ["text", "sign"]) (sc := defScope s_is_name) (by decide +kernel)) (fun _ _ _ _ _ => pg_name (i := 1) sc_is_name.nd rfl (Or.inl rfl)) (fun _ _ _ _ _ => pts_nil) (fun _ _ _ _ _ => (pe_or (pe_cmpR op_in_sign (pv 1) (pe_gS rfl T.c_LETTERS) rfl) (pe_one (pe_cmpR op_in_sign (pv 1) (pe_gS rfl T.c_DIGITS) rfl))))) pa_nil))))))), ?_⟩
    have no : ¬ (1 ≤ z.length ∧ z.length ≤ 12) → Q (.bl false) H := fun n => by
      have e : isName z = false := by
        unfold isName
        rw [decide_eq_false n]
        rfl
      have q := k H (Ex.refl H)
      rw [e] at q
      exact q
    refine ⟨_, rfl, _, rfl, hzs, _, _, rfl, rfl, _, rfl, ?_⟩
    refine ite2 (fun h1 => ?_) (fun h1 => ?_)
    · refine ⟨_, _, rfl, rfl, _, rfl, ?_⟩
      have h1' : 1 ≤ z.length := by
        have := of_decide_eq_true h1
        omega
      refine ite2 (fun h2 => ?_) (fun h2 => ?_)
      · exact no (fun n => by simp at h2; omega)
      · have h2' : z.length ≤ 12 := by
          simp at h2
          omega
        have hsz : z.cps.size = z.length := rfl
        obtain ⟨c0, hc0⟩ : ∃ c, z.cps[0]? = some c := ⟨_, Array.getElem?_eq_getElem (by omega)⟩
        have hl0 : z.cps.toList[0]? = some c0 := by rw [Array.getElem?_toList]; exact hc0
        have hh : z.cps.toList.head? = some c0 := by rw [List.head?_eq_getElem?]; exact hl0
        refine ⟨_, rfl, z, 0, c0, rfl, rfl, hzs, ?_, ?_⟩
        · have := atI_nat (j := 0) hl0
          simpa using this
        · refine ⟨c0, _, rfl, rfl, _, rfl, ?_⟩
          have rest : ∀ H', Ex H H' → Q (.bl (decide (c0 ∈ LETS) && z.cps.toList.all okSign)) H' := fun H' e => by
            have q := k H' e
            have ei : isName z = (decide (c0 ∈ LETS) && z.cps.toList.all okSign) := by
              unfold isName
              rw [decide_eq_true (show 1 ≤ z.length ∧ z.length ≤ 12 from ⟨h1', h2'⟩), hh]
              rfl
            rw [ei] at q
            exact q
          refine ite2 (fun h3 => ?_) (fun h3 => ?_)
          · have h3' : decide (c0 ∈ LETS) = true := h3
            rw [h3', Bool.true_and] at rest
            have hlen : z.cps.toList.length = z.cps.size := Array.length_toList
            refine ⟨_, rfl, z, rfl, fun D hD => lcY_sign (fun i H' => H D = none ∧ Ex H H' ∧ H' D = some (.lst ((z.cps.toList.take i).map fun c => V.bl (okSign c)))) ⟨hD, Ex.new hD, upd_same⟩ (fun i c H' hc p => ?_) (fun H' p => ?_)⟩
            · obtain ⟨p1, p2, p3⟩ := p
              have hil : i < z.cps.size := (Array.getElem?_eq_some_iff.mp hc).1
              have hlc : z.cps.toList[i]? = some c := by rw [Array.getElem?_toList]; exact hc
              have stp : (z.cps.toList.take (i + 1)).map (fun c => V.bl (okSign c)) = (z.cps.toList.take i).map (fun c => V.bl (okSign c)) ++ [V.bl (okSign c)] := by
                rw [List.take_add_one, hlc, List.map_append]
                rfl
              have fin : ∃ acc, H' D = some (.lst acc) ∧ acc.length < sizeLine ∧ H D = none ∧ Ex H (upd H' D (.lst (acc ++ [V.bl (okSign c)]))) ∧ (upd H' D (.lst (acc ++ [V.bl (okSign c)]))) D = some (.lst ((z.cps.toList.take (i + 1)).map fun c => V.bl (okSign c))) := by
                refine ⟨_, p3, sz_lt ?_, p1, Ex.mut p2 p1, ?_⟩
                · rw [List.length_map, List.length_take]
                  omega
                · rw [stp]
                  exact upd_same
              refine ⟨rfl, ?_⟩
              refine ⟨_, rfl, c, _, rfl, rfl, _, rfl, ?_⟩
              refine ite2 (fun h5 => ?_) (fun h5 => ?_)
              · have e : okSign c = true := by
                  unfold okSign
                  rw [show decide (c ∈ LETS) = true from h5]
                  rfl
                rw [e] at fin
                exact fin
              · refine ⟨_, rfl, c, _, rfl, rfl, ?_⟩
                have e : okSign c = decide (c ∈ DIGS) := by
                  unfold okSign
                  rw [show decide (c ∈ LETS) = false from Bool.eq_false_iff.mpr h5]
                  rfl
                rw [e] at fin
                exact fin
            · obtain ⟨p1, p2, p3⟩ := p
              rw [← hlen, List.take_length] at p3
              refine ⟨D, z.cps.toList.map okSign, rfl, ?_, ?_⟩
              · rw [List.map_map]
                exact SqL.of p3
              · have q := rest H' p2
                have e : (z.cps.toList.map okSign).all id = z.cps.toList.all okSign := by
                  rw [List.all_map]
                  rfl
                rw [e]
                exact q
          · have h3' : decide (c0 ∈ LETS) = false := Bool.eq_false_iff.mpr h3
            rw [h3', Bool.false_and] at rest
            exact rest H (Ex.refl H)
    · exact ⟨_, rfl, no (fun n => by simp at h1; omega)⟩
end
end EV

set_option Elab.async false
set_option linter.all false
set_option maxRecDepth 100000
set_option maxHeartbeats 4000000
namespace EV
open PySem PySem.Spec PyProof.Rows L2 EvS Evl
def Small (l : List Int) : Prop := ∀ n ∈ l, 0 ≤ n ∧ n < 1009
theorem small_snoc {l : List Int} {n : Int} (h : Small l) (a : 0 ≤ n) (b : n < 1009) : Small (l ++ [n]) := fun x hx => by
  rcases List.mem_append.mp hx with q | q
  · exact h x q
  · rw [List.mem_singleton] at q
    subst q
    exact ⟨a, b⟩
/-- a new list of m small numbers -/
def NewNums (m : Int) (H : Hp) (Q : VK) : Prop := ∀ H' p (ns : List Int), Ex H H' → H p = none → H' p = some (.lst (ns.map V.int)) → (ns.length : Int) = m → Small ns → Q (.ref p) H'
def sp__law_row : Sp := fun vs H Q _ => ∃ (c m : Int), vs = [.int c, .int m] ∧ 0 ≤ m ∧ m ≤ 10000 ∧ NewNums m H Q
def sp__law_numbers (K : PySem.W.Frag) : Sp := fun vs H Q _ => ∃ (p : Addr) (ns : List Int) (m : Int), vs = [.ref p, .int m] ∧ SqL K H p (ns.map V.int) ∧ 0 ≤ m ∧ m ≤ 1000 ∧ NewNums m H Q
theorem cutV_to (xs : List V) (k : Nat) : cutV xs none (some (k : Int)) = xs.take k := by
  unfold cutV
  rw [HT.sIx_nat, HT.sIx_none, List.drop_zero, Nat.sub_zero]
  rcases Nat.le_total k xs.length with h | h
  · rw [Nat.min_eq_left h]
  · rw [Nat.min_eq_right h, List.take_length, List.take_of_length_le h]
section
variable {P : Program} {w : World} {K : PySem.W.Frag} {mg : Str → Option Value} {base : Heap} {a : Ad}
theorem G__law_row (T : Txt K mg a) : FnOk P w K mg base CX0 1 a.f__law_row a.d__law_row ["cell", "many"] sp__law_row := by
  refine T.F__law_row.ok sc__law_row (fun vs H Q E h => ?_) (fun cdv A outer s H vs Q E hr h => ?_)
  · obtain ⟨c, m, rfl, _⟩ := h
    rfl
  · obtain ⟨c, m, rfl, m0, m1, k⟩ := h
    refine ⟨_, (pss_cons (ps_set (i := 2) sc__law_row.nd rfl (Or.inl rfl) (pe_lst pa_nil))
      (pss_cons (ps_set (i := 3) sc__law_row.nd rfl (Or.inl rfl) (pe_callB call_abs (by rfl) T.z_abs (by decide +kernel) (pa_cons (pv 0) pa_nil)))
      (pss_cons (ps_set (i := 4) sc__law_row.nd rfl (Or.inl rfl) (pe_op op_mod (pe_callTy call_int1 (by rfl) T.z_int (by decide +kernel) (pa_cons (pe_op op_add (pe_op op_mul (pv 3) pe_int) pe_int) pa_nil)) pe_int))
      (pss_cons (ps_for PassesOwn.never rfl (pi_range1 (by rfl) T.z_range (pa_cons (pv 1) pa_nil)) (pg_name (i := 5) sc__law_row.nd rfl (Or.inl rfl)) (pss_cons (ps_set (i := 4) sc__law_row.nd rfl (Or.inl rfl) (pe_op op_mod (pe_callTy call_int1 (by rfl) T.z_int (by decide +kernel) (pa_cons (pe_op op_add (pe_op op_mul (pv 4) pe_int) (pe_op op_mul pe_int (pe_op op_add (pv 5) pe_int))) pa_nil)) pe_int))
        (pss_one (ps_if (pt_cmpR op_ge (pe_callB call_abs (by rfl) T.z_abs (by decide +kernel) (pa_cons (pv 0) pa_nil)) (pe_op op_pow pe_int pe_int) (nomark _)) (pss_cons (ps_expr (pe_bm PySem.F.plainAttrs_list PySem.F.slot_list_append PySem.F.type_list_append mt_append (pv 2) (pa_cons (pe_op op_mod (pe_callTy call_int1 (by rfl) T.z_int (by decide +kernel) (pa_cons (pv 3) pa_nil)) pe_int) pa_nil)))
          (pss_one (ps_set (i := 3) sc__law_row.nd rfl (Or.inl rfl) (pe_op op_fdiv (pv 3) pe_int)))) (pss_one (ps_expr (pe_bm PySem.F.plainAttrs_list PySem.F.slot_list_append PySem.F.type_list_append mt_append (pv 2) (pa_cons (pe_op op_mod (pe_callTy call_int1 (by rfl) T.z_int (by decide +kernel) (pa_cons (pe_op op_fdiv (pv 4) pe_int) pa_nil)) pe_int) pa_nil))))))))
      (pss_one (ps_ret (pv 2))))))), ?_⟩
    refine ⟨Nat.zero_le _, fun l hl => ?_⟩
    refine ⟨_, rfl, _, rfl, ?_⟩
    refine ⟨_, rfl, _, _, rfl, rfl, .inr ⟨by decide, by decide⟩, _, _, rfl, rfl, .inl ⟨_, rfl, _, _, rfl, rfl, (by show (0 : Int) < 2147483647; decide), ?_⟩⟩
    refine ⟨_, rfl, _, rfl, by omega, by omega, for_range (n := m.toNat) (fun i σ H' => ∃ (r x : Int) (ns : List Int) (v : Option V), σ = [some (.int c), some (.int m), some (.ref l), some (.int r), some (.int x), v] ∧ Ex H H' ∧ H' l = some (.lst (ns.map V.int)) ∧ ns.length = i ∧ Small ns) ?_ ?_ ?_⟩
    · exact ⟨_, _, [], none, rfl, Ex.new hl, upd_same, rfl, fun n hn => by cases hn⟩
    · rintro i σ H' hi ⟨r, x, ns, v, rfl, e, hL, hlen, hs⟩
      have room : (ns.map V.int).length < sizeLine := sz_lt (by rw [List.length_map]; omega)
      have nx : ∀ (r' x' y : Int), 0 ≤ y → y < 1009 → ∃ (r x : Int) (ns' : List Int) (v' : Option V), [some (V.int c), some (V.int m), some (V.ref l), some (V.int r'), some (V.int x'), some (V.int (0 + (i : Int)))] = [some (V.int c), some (V.int m), some (V.ref l), some (V.int r), some (V.int x), v'] ∧
          Ex H (upd H' l (.lst (ns.map V.int ++ [V.int y]))) ∧ (upd H' l (.lst (ns.map V.int ++ [V.int y]))) l = some (.lst (ns'.map V.int)) ∧ ns'.length = i + 1 ∧ Small ns' := fun r' x' y h0 h1 =>
        ⟨_, _, ns ++ [y], _, rfl, Ex.mut e hl, by rw [upd_same, List.map_append] <;> rfl, by rw [List.length_append, hlen] <;> rfl, small_snoc hs h0 h1⟩
      refine ⟨_, rfl, _, _, rfl, rfl, .inr ⟨by decide, by decide⟩, _, rfl, _, _, rfl, rfl, _, _, rfl, rfl, .inl ⟨by decide, by decide⟩, _, _, rfl, rfl, .inl ⟨_, rfl, _, _, rfl, rfl, (by show (0 : Int) < 2147483629; decide), ?_⟩⟩
      refine ⟨_, rfl, _, rfl, _, _, rfl, rfl, ⟨by decide, by decide, by decide⟩, _, _, rfl, rfl, _, rfl, ?_⟩
      refine ite2 (fun _ => ?_) (fun _ => ?_)
      · refine ⟨_, rfl, .inl ⟨rfl, _, SqL.of hL⟩, _, rfl, .inl ⟨_, rfl, _, _, rfl, rfl, (by show (0 : Int) < 1009; decide), l, _, _, rfl, rfl, hL, room, ?_⟩⟩
        refine ⟨_, rfl, _, _, rfl, rfl, ⟨by decide, by decide⟩, ?_⟩
        exact nx _ _ _ (Int.emod_nonneg _ (by decide)) (Int.emod_lt_of_pos _ (by decide))
      · refine ⟨_, rfl, .inl ⟨rfl, _, SqL.of hL⟩, _, rfl, _, _, rfl, rfl, ⟨by decide, by decide⟩, .inl ⟨_, rfl, _, _, rfl, rfl, (by show (0 : Int) < 1009; decide), l, _, _, rfl, rfl, hL, room, ?_⟩⟩
        exact nx _ _ _ (Int.emod_nonneg _ (by decide)) (Int.emod_lt_of_pos _ (by decide))
    · rintro σ H' ⟨r, x, ns, v, rfl, e, hL, hlen, hs⟩
      exact ⟨_, rfl, k H' l ns e hl hL (by omega) hs⟩
theorem G__law_numbers (T : Txt K mg a) : FnOk P w K mg base CX0 2 a.f__law_numbers a.d__law_numbers ["script", "many"] (sp__law_numbers K) := by
  refine T.F__law_numbers.ok sc__law_numbers (fun vs H Q E h => ?_) (fun cdv A outer s H vs Q E hr h => ?_)
  · obtain ⟨p, ns, m, rfl, _⟩ := h
    rfl
  · obtain ⟨p, ns, m, rfl, hS, m0, m1, k⟩ := h
    refine ⟨_, (pss_cons (ps_set (i := 2) sc__law_numbers.nd rfl (Or.inl rfl) (pe_slice sl_list (pv 0) po_none (po_some pe_int)))
      (pss_cons (ps_set (i := 3) sc__law_numbers.nd rfl (Or.inl rfl) (pe_op op_add pe_int (pe_op op_fdivN (pv 1) (pe_callB (call_max2 rfl) (by rfl) T.z_max (by decide +kernel) (pa_cons pe_int (pa_cons (pe_callB call_len_seq (by rfl) T.z_len PySem.boot_len (pa_cons (pv 2) pa_nil)) pa_nil))))))
      (pss_cons (ps_set (i := 4) sc__law_numbers.nd rfl (Or.inl rfl) (pe_lst pa_nil))
      (pss_cons (ps_for PassesOwn.never rfl (pi_list (pv 2)) (pg_name (i := 5) sc__law_numbers.nd rfl (Or.inl rfl)) (pss_one (ps_for PassesOwn.never rfl (pi_list (pe_call (G__law_row T) (hr.mono (by decide)) (by rfl) T.g__law_row T.k__law_row T.B__law_row .nil pass0 (pa_cons (pv 5) (pa_cons (pv 3) pa_nil)))) (pg_name (i := 6) sc__law_numbers.nd rfl (Or.inl rfl)) (pss_one (ps_expr (pe_bm PySem.F.plainAttrs_list PySem.F.slot_list_append PySem.F.type_list_append mt_append (pv 4) (pa_cons (pv 6) pa_nil)))))))
      (pss_cons (ps_while PassesOwn.never (pt_cmpR op_lt (pe_callB call_len_seq (by rfl) T.z_len PySem.boot_len (pa_cons (pv 4) pa_nil)) (pv 1) (nomark _)) (pss_one (ps_expr (pe_bm PySem.F.plainAttrs_list PySem.F.slot_list_append PySem.F.type_list_append mt_append (pv 4) (pa_cons pe_int pa_nil)))))
      (pss_one (ps_ret (pe_slice sl_list (pv 4) po_none (po_some (pv 1)))))))))), ?_⟩
    -- cells = script[:63]
    refine ⟨_, rfl, _, rfl, p, _, rfl, hS, fun q hq => ?_⟩
    have hcs : cutV (ns.map V.int) none (some ((63 : Nat) : Int)) = (ns.take 63).map V.int := by
      rw [cutV_to, List.map_take]
    show tSeq _ _ _ _ (upd H q (.lst (cutV (ns.map V.int) none (some ((63 : Nat) : Int)))))
    rw [hcs]
    generalize hcd : ns.take 63 = cs
    have hcl : cs.length ≤ 63 := by
      rw [← hcd, List.length_take]
      omega
    have hlc : (cs.map V.int).length = cs.length := List.length_map ..
    have e1 : Ex H (upd H q (.lst (cs.map V.int))) := Ex.new hq
    -- each = 1 + many // max(1, len(cells))
    refine ⟨_, rfl, _, rfl, q, _, rfl, .inl (SqL.of upd_same), _, _, rfl, _, _, rfl, rfl, ⟨?_, ?_⟩, _, _, rfl, rfl, ?_⟩
    · split <;> omega
    · rw [hlc]
      split <;> omega
    generalize hd : (if ((cs.map V.int).length : Int) > 1 then ((cs.map V.int).length : Int) else 1) = d
    have d1 : 1 ≤ d := by
      rw [← hd]
      split <;> omega
    have f0 : 0 ≤ m.fdiv d := by
      rw [Int.fdiv_eq_ediv_of_nonneg _ (by omega)]
      exact Int.ediv_nonneg m0 (by omega)
    have f1 : m.fdiv d ≤ 1000 := by
      rw [Int.fdiv_eq_ediv_of_nonneg _ (by omega)]
      exact Int.le_trans (Int.ediv_le_self _ m0) m1
    generalize m.fdiv d = f at f0 f1
    -- numbers = []
    refine ⟨Nat.zero_le _, fun l hl => ?_⟩
    have hlH : H l = none := fresh_back e1 hl
    have nql : q ≠ l := ne_of_none upd_same hl
    have nlq : l ≠ q := Ne.symm nql
    refine ⟨_, rfl, q, rfl, ⟨_, SqL.of (by rw [upd_ne nql]; exact upd_same)⟩, for_list (K := K) (a := q) (xs := cs.map V.int) (fun i σ H' => ∃ (ks : List Int) (v5 v6 : Option V), σ = [some (.ref p), some (.int m), some (.ref q), some (.int (1 + f)), some (.ref l), v5, v6] ∧
      Ex H H' ∧ H' q = some (.lst (cs.map V.int)) ∧ H' l = some (.lst (ks.map V.int)) ∧ ks.length ≤ i * 1001 ∧ Small ks) ?_ ?_ ?_ ?_⟩
    · exact ⟨[], none, none, rfl, e1.trans (Ex.new hl), by rw [upd_ne nql]; exact upd_same, upd_same, by simp, fun n hn => by cases hn⟩
    · rintro i σ H' _ ⟨ks, v5, v6, rfl, e, hQ, hL, _⟩
      exact SqL.of hQ
    · rintro i y σ H' hi ⟨ks, v5, v6, rfl, e, hQ, hL, hn, hs⟩
      have hi63 : i < cs.length := by
        have z := (List.getElem?_eq_some_iff.mp hi).1
        rw [hlc] at z
        exact z
      obtain ⟨c, rfl⟩ : ∃ c, y = V.int c := by
        rw [List.getElem?_map] at hi
        cases z : cs[i]? with
        | none =>
          rw [z] at hi
          cases hi
        | some c =>
          rw [z] at hi
          exact ⟨c, (Option.some.inj hi).symm⟩
      -- for number in _law_row(cell, each)
      refine ⟨_, rfl, _, rfl, c, 1 + f, rfl, by omega, by omega, fun H2 r rs e2 hr hR hrl hrs => ⟨r, rfl, ⟨_, SqL.of hR⟩, ?_⟩⟩
      have nrl : r ≠ l := Ne.symm (ne_of_none hL hr)
      have nrq : q ≠ r := ne_of_none hQ hr
      have nlr : l ≠ r := Ne.symm nrl
      refine for_list (K := K) (a := r) (xs := rs.map V.int) (fun j σ H' => ∃ (ks' : List Int) (v6 : Option V), σ = [some (.ref p), some (.int m), some (.ref q), some (.int (1 + f)), some (.ref l), some (.int c), v6] ∧
        Ex H H' ∧ H' q = some (.lst (cs.map V.int)) ∧ H' r = some (.lst (rs.map V.int)) ∧ H' l = some (.lst (ks'.map V.int)) ∧ ks'.length = ks.length + j ∧ Small ks') ?_ ?_ ?_ ?_
      · exact ⟨ks, v6, rfl, e.trans e2, e2 _ _ hQ, hR, e2 _ _ hL, rfl, hs⟩
      · rintro j σ H' _ ⟨ks', v6, rfl, _, _, h3, _⟩
        exact SqL.of h3
      · rintro j y σ H' hj ⟨ks', v6, rfl, e3, hQ3, hR3, hL3, hn3, hs3⟩
        have hjr : j < rs.length := by
          have z := (List.getElem?_eq_some_iff.mp hj).1
          rw [List.length_map] at z
          exact z
        obtain ⟨n, hnm, rfl⟩ : ∃ n, n ∈ rs ∧ y = V.int n := by
          rw [List.getElem?_map] at hj
          cases z : rs[j]? with
          | none =>
            rw [z] at hj
            cases hj
          | some n =>
            rw [z] at hj
            exact ⟨n, List.mem_of_getElem? z, (Option.some.inj hj).symm⟩
        refine ⟨_, rfl, .inl ⟨rfl, _, SqL.of hL3⟩, _, rfl, l, _, _, rfl, rfl, hL3, sz_lt (by rw [List.length_map]; omega), ?_⟩
        exact ⟨ks' ++ [n], _, rfl, Ex.mut e3 hlH, by rw [upd_ne nql]; exact hQ3, by rw [upd_ne nrl]; exact hR3, by rw [upd_same, List.map_append] <;> rfl, by rw [List.length_append, hn3] <;> rfl, small_snoc hs3 (hrs n hnm).1 (hrs n hnm).2⟩
      · rintro σ H' ⟨ks', v6, rfl, e3, hQ3, hR3, hL3, hn3, hs3⟩
        rw [List.length_map] at hn3
        exact ⟨ks', _, _, rfl, e3, hQ3, hL3, by omega, hs3⟩
    · rintro σ H' ⟨ks, v5, v6, rfl, e, hQ, hL, hn, hs⟩
      rw [hlc] at hn
      -- while len(numbers) < many
      refine ⟨fun j σ H' => ∃ ks' : List Int, j = (m.toNat - ks'.length) ∧ σ = [some (.ref p), some (.int m), some (.ref q), some (.int (1 + f)), some (.ref l), v5, v6] ∧ Ex H H' ∧ H' l = some (.lst (ks'.map V.int)) ∧ ks'.length ≤ 70000 ∧ Small ks',
        ⟨_, ks, rfl, rfl, e, hL, by omega, hs⟩, ?_⟩
      rintro j σ H' ⟨ks', rfl, rfl, e3, hL3, hn3, hs3⟩
      have hlk : (ks'.map V.int).length = ks'.length := List.length_map ..
      refine ⟨_, rfl, l, _, rfl, .inl (SqL.of hL3), _, rfl, _, _, rfl, rfl, _, rfl, ?_⟩
      refine ite2 (fun lt => ?_) (fun ge => ?_)
      · have lt' : (ks'.length : Int) < m := by
          have z := of_decide_eq_true lt
          rw [hlk] at z
          exact z
        refine ⟨_, fun σ' H' z => z, ?_⟩
        refine ⟨_, rfl, .inl ⟨rfl, _, SqL.of hL3⟩, l, _, _, rfl, rfl, hL3, sz_lt (by rw [hlk]; omega), ?_⟩
        exact ⟨_, by show m.toNat - (ks' ++ [0]).length < _; rw [List.length_append, List.length_singleton]; omega, ks' ++ [0], rfl, rfl, Ex.mut e3 hlH, by rw [upd_same, List.map_append] <;> rfl, by rw [List.length_append, List.length_singleton]; omega, small_snoc hs3 (by decide) (by decide)⟩
      · have ge' : m ≤ (ks'.length : Int) := by
          have z : ¬ ((ks'.map V.int).length : Int) < m := fun z => ge (decide_eq_true z)
          rw [hlk] at z
          omega
        -- return numbers[:many]
        refine ⟨_, rfl, _, rfl, _, rfl, l, _, rfl, SqL.of hL3, fun u hu => ?_⟩
        have em : m = ((m.toNat : Nat) : Int) := by omega
        have hcu : cutV (ks'.map V.int) none (some m) = (ks'.take m.toNat).map V.int := by
          rw [em, cutV_to, List.map_take]
          rfl
        show Q (.ref u) (upd H' u (.lst (cutV (ks'.map V.int) none (some m))))
        rw [hcu]
        refine k _ u (ks'.take m.toNat) (e3.trans (Ex.new hu)) (fresh_back e3 hu) upd_same ?_ (fun x hx => hs3 x (List.mem_of_mem_take hx))
        rw [List.length_take]
        omega
end
end EV

set_option Elab.async false
set_option linter.all false
set_option maxRecDepth 100000
set_option maxHeartbeats 4000000
namespace EV
open PySem PySem.Spec PyProof.Rows L2 EvS Evl
/-! ### the data of a land -/
structure Link where
  n : Str
  o : Str
  t : Str
  ts : List (Option (Int × Int))
structure LandD where
  ws : List Str
  ps : List Str
  ls : List Link
  pa : List (Str × Str × Int)
def dTime : Option (Int × Int) → PyData
  | none => .none
  | some b => .tuple [.int b.1, .int b.2]
def dRaw (k : Link) : PyData := .tuple [.str k.n, .str k.o, .str k.t, .list (k.ts.map dTime)]
def dLink (k : Link) : PyData := .tuple [.str k.n, .str k.o, .str k.t, .tuple (k.ts.map dTime)]
def dPath (p : Str × Str × Int) : PyData := .tuple [.str p.1, .str p.2.1, .int p.2.2]
def dParts (D : LandD) : PyData := .list [.list (D.ws.map .str), .list (D.ps.map .str), .list (D.ls.map dRaw), .list (D.pa.map dPath)]
def dLand (D : LandD) : PyData := .tuple [.tuple (D.ws.map .str), .tuple (D.ps.map .str), .tuple (D.ls.map dLink), .tuple (D.pa.map dPath)]
def Good (ns : List Str) : Prop := (∀ n ∈ ns, isName n = true) ∧ ns.Nodup
def TimeOk : Option (Int × Int) → Prop
  | none => True
  | some b => 1 ≤ b.1 ∧ b.1 ≤ b.2 ∧ b.2 ≤ 1000
structure LinkOk (ws ps : List Str) (k : Link) : Prop where
  o : k.o ∈ ps
  t : k.t ∈ ps
  ne : k.o ≠ k.t
  len : k.ts.length = ws.length
  ok : ∀ b ∈ k.ts, TimeOk b
structure PathOk (ps : List Str) (p : Str × Str × Int) : Prop where
  o : p.1 ∈ ps
  t : p.2.1 ∈ ps
  ne : p.1 ≠ p.2.1
  lo : 1 ≤ p.2.2
  hi : p.2.2 ≤ 1000
def Apart (p q : Str × Str) : Prop := ¬ [p.1, p.2].Perm [q.1, q.2]
structure LandOk (D : LandD) : Prop where
  w1 : 1 ≤ D.ws.length
  w4 : D.ws.length ≤ 4
  p1 : 1 ≤ D.ps.length
  p24 : D.ps.length ≤ 24
  l60 : D.ls.length ≤ 60
  a60 : D.pa.length ≤ 60
  gw : Good D.ws
  gp : Good D.ps
  gl : Good (D.ls.map (·.n))
  lk : ∀ k ∈ D.ls, LinkOk D.ws D.ps k
  pt : ∀ p ∈ D.pa, PathOk D.ps p
  ap : (D.pa.map fun p => (p.1, p.2.1)).Pairwise Apart
theorem name_len {z : Str} (h : isName z = true) : 1 ≤ z.length ∧ z.length ≤ 12 := by
  unfold isName at h
  rw [Bool.and_eq_true, Bool.and_eq_true] at h
  exact of_decide_eq_true h.1.1
/-! ### data that stands -/
mutual
theorem dp_ex {K : PySem.W.Frag} {H H' : Hp} (e : Ex H H') : ∀ {v : V} {d : PyData}, Dp K H v d → Dp K H' v d
  | _, _, .non => .non
  | _, _, .bl b => .bl b
  | _, _, .int i => .int i
  | _, _, .str x => .str x
  | _, _, .lst h r => .lst (ex_l e h) (dps_ex e r)
  | _, _, .tup h r => .tup (ex_t e h) (dps_ex e r)
theorem dps_ex {K : PySem.W.Frag} {H H' : Hp} (e : Ex H H') : ∀ {vs : List V} {ds : List PyData}, DpAll K H vs ds → DpAll K H' vs ds
  | _, _, .nil => .nil
  | _, _, .cons h r => .cons (dp_ex e h) (dps_ex e r)
end
theorem dps_len {K : PySem.W.Frag} {H : Hp} : ∀ {vs : List V} {ds : List PyData}, DpAll K H vs ds → vs.length = ds.length
  | _, _, .nil => rfl
  | _, _, .cons _ r => congrArg Nat.succ (dps_len r)
theorem dps_at {K : PySem.W.Frag} {H : Hp} : ∀ {vs : List V} {ds : List PyData} {i : Nat} {v : V}, DpAll K H vs ds → vs[i]? = some v → ∃ d, ds[i]? = some d ∧ Dp K H v d
  | _, _, _, _, .nil, h => by simp at h
  | _, _, 0, _, .cons h _, e => by
    simp only [List.getElem?_cons_zero, Option.some.injEq] at e
    subst e
    exact ⟨_, rfl, h⟩
  | _, _, i + 1, _, .cons _ r, e => by
    simp only [List.getElem?_cons_succ] at e
    exact dps_at (i := i) r e
theorem dps_app {K : PySem.W.Frag} {H : Hp} : ∀ {vs us : List V} {ds es : List PyData}, DpAll K H vs ds → DpAll K H us es → DpAll K H (vs ++ us) (ds ++ es)
  | _, _, _, _, .nil, b => b
  | _, _, _, _, .cons h r, b => .cons h (dps_app r b)
theorem dps_one {K : PySem.W.Frag} {H : Hp} {v : V} {d : PyData} (h : Dp K H v d) : DpAll K H [v] [d] := .cons h .nil
theorem dps_str {K : PySem.W.Frag} {H : Hp} : ∀ ns : List Str, DpAll K H (ns.map V.str) (ns.map PyData.str)
  | [] => .nil
  | n :: r => .cons (.str n) (dps_str r)
theorem dps_strs {K : PySem.W.Frag} {H : Hp} : ∀ {ns : List Str} {vs : List V}, DpAll K H vs (ns.map PyData.str) → vs = ns.map V.str
  | [], _, .nil => rfl
  | n :: r, _, .cons h t => by
    cases h
    rw [dps_strs t]
    rfl
def Seq2 (K : PySem.W.Frag) (H : Hp) (p : Addr) (xs : List V) : Prop := SqL K H p xs ∨ SqT K H p xs
theorem Seq2.ex {K : PySem.W.Frag} {H H' : Hp} {p : Addr} {xs : List V} (e : Ex H H') (h : Seq2 K H p xs) : Seq2 K H' p xs := h.elim (fun q => .inl (ex_l e q)) (fun q => .inr (ex_t e q))
/-- a link as it is handed in: its times are a list or a tuple -/
def LinkIn (K : PySem.W.Frag) (H : Hp) (v : V) (k : Link) : Prop := ∃ t u vs, v = .ref t ∧ SqT K H t [.str k.n, .str k.o, .str k.t, .ref u] ∧ Seq2 K H u vs ∧ DpAll K H vs (k.ts.map dTime)
theorem LinkIn.ex {K : PySem.W.Frag} {H H' : Hp} {v : V} {k : Link} (e : Ex H H') (h : LinkIn K H v k) : LinkIn K H' v k := by
  obtain ⟨t, u, vs, rfl, h1, h2, h3⟩ := h
  exact ⟨t, u, vs, rfl, ex_t e h1, h2.ex e, dps_ex e h3⟩
theorem raw_in {K : PySem.W.Frag} {H : Hp} {v : V} {k : Link} (h : Dp K H v (dRaw k)) : LinkIn K H v k := by
  unfold dRaw at h
  cases h with
  | tup hs hr =>
    cases hr with
    | cons a1 hr =>
      cases a1
      cases hr with
      | cons a2 hr =>
        cases a2
        cases hr with
        | cons a3 hr =>
          cases a3
          cases hr with
          | cons a4 hr =>
            cases hr
            cases a4 with
            | lst hl ha => exact ⟨_, _, _, rfl, hs, .inl hl, ha⟩
theorem made_in {K : PySem.W.Frag} {H : Hp} {v : V} {k : Link} (h : Dp K H v (dLink k)) : LinkIn K H v k := by
  unfold dLink at h
  cases h with
  | tup hs hr =>
    cases hr with
    | cons a1 hr =>
      cases a1
      cases hr with
      | cons a2 hr =>
        cases a2
        cases hr with
        | cons a3 hr =>
          cases a3
          cases hr with
          | cons a4 hr =>
            cases hr
            cases a4 with
            | tup hl ha => exact ⟨_, _, _, rfl, hs, .inr hl, ha⟩
theorem path_in {K : PySem.W.Frag} {H : Hp} {v : V} {p : Str × Str × Int} (h : Dp K H v (dPath p)) : ∃ t, v = .ref t ∧ SqT K H t [.str p.1, .str p.2.1, .int p.2.2] := by
  unfold dPath at h
  cases h with
  | tup hs hr =>
    cases hr with
    | cons a1 hr =>
      cases a1
      cases hr with
      | cons a2 hr =>
        cases a2
        cases hr with
        | cons a3 hr =>
          cases a3
          cases hr
          exact ⟨_, rfl, hs⟩
/-- a land as it stands -/
def landFs (wi pl li pa : Addr) : List (Str × V) := putF "paths" (.ref pa) (putF "links" (.ref li) (putF "places" (.ref pl) (putF "winds" (.ref wi) [])))
structure LandAt (K : PySem.W.Frag) (C : Addr) (H : Hp) (x : Addr) (D : LandD) (dx wi pl li pa : Addr) (rows prs : List V) : Prop where
  ob : H x = some (.ins C dx (landFs wi pl li pa))
  wi : TupX.Bare H wi (D.ws.map V.str)
  pl : SqT K H pl (D.ps.map V.str)
  li : SqT K H li rows
  ls : DpAll K H rows (D.ls.map dLink)
  pa : SqT K H pa prs
  ps : DpAll K H prs (D.pa.map dPath)
def IsLand (K : PySem.W.Frag) (C : Addr) (H : Hp) (x : Addr) (D : LandD) : Prop := ∃ dx wi pl li pa rows prs, LandAt K C H x D dx wi pl li pa rows prs
theorem IsLand.ex {K : PySem.W.Frag} {C : Addr} {H H' : Hp} {x : Addr} {D : LandD} (e : Ex H H') (h : IsLand K C H x D) : IsLand K C H' x D := by
  obtain ⟨dx, wi, pl, li, pa, rows, prs, L⟩ := h
  exact ⟨dx, wi, pl, li, pa, rows, prs, e _ _ L.ob, L.wi.ex e, ex_t e L.pl, ex_t e L.li, dps_ex e L.ls, ex_t e L.pa, dps_ex e L.ps⟩
theorem fs_winds (wi pl li pa : Addr) : (landFs wi pl li pa).lookup ("winds" : Str) = some (V.ref wi) := by
  unfold landFs
  rw [lookup_putF, if_neg (by decide +kernel), lookup_putF, if_neg (by decide +kernel), lookup_putF, if_neg (by decide +kernel), lookup_putF, if_pos rfl]
theorem fs_places (wi pl li pa : Addr) : (landFs wi pl li pa).lookup ("places" : Str) = some (V.ref pl) := by
  unfold landFs
  rw [lookup_putF, if_neg (by decide +kernel), lookup_putF, if_neg (by decide +kernel), lookup_putF, if_pos rfl]
theorem fs_links (wi pl li pa : Addr) : (landFs wi pl li pa).lookup ("links" : Str) = some (V.ref li) := by
  unfold landFs
  rw [lookup_putF, if_neg (by decide +kernel), lookup_putF, if_pos rfl]
theorem fs_paths (wi pl li pa : Addr) : (landFs wi pl li pa).lookup ("paths" : Str) = some (V.ref pa) := by
  unfold landFs
  rw [lookup_putF, if_pos rfl]
/-! ### the checks, where all is well -/
theorem flat_str (ys : List Str) : (ys.map V.str).all flatV = true := by
  rw [List.all_map]
  exact List.all_eq_true.mpr fun _ _ => rfl
theorem inV_str {z : Str} {ys : List Str} (h : z ∈ ys) : inV (.str z) (ys.map V.str) = true := by
  unfold inV
  rw [List.any_map, List.any_eq_true]
  refine ⟨z, h, ?_⟩
  show (z == z) = true
  exact beq_self_eq_true z
def sp__check_count (K : PySem.W.Frag) : Sp := fun vs H Q _ => ∃ (z : Str) (p : Addr) (xs : List V) (lo hi : Int), vs = [.str z, .ref p, .int lo, .int hi] ∧ Seq2 K H p xs ∧ lo ≤ xs.length ∧ (xs.length : Int) ≤ hi ∧ Q .non H
def sp__check_names (K : PySem.W.Frag) : Sp := fun vs H Q _ => ∃ (z : Str) (p : Addr) (ns : List Str), vs = [.str z, .ref p] ∧ Seq2 K H p (ns.map V.str) ∧ ns.length ≤ 1000 ∧ Good ns ∧ ∀ H', Ex H H' → Q .non H'
def sp__check_ends (K : PySem.W.Frag) : Sp := fun vs H Q _ => ∃ (z one other : Str) (p : Addr) (ps : List Str), vs = [.str z, .str one, .str other, .ref p] ∧ Seq2 K H p (ps.map V.str) ∧ one ∈ ps ∧ other ∈ ps ∧ one ≠ other ∧ Q .non H
def sp__as_bounds (K : PySem.W.Frag) : Sp := fun vs H Q _ => ∃ (v : V) (b : Option (Int × Int)), vs = [v] ∧ Dp K H v (dTime b) ∧ TimeOk b ∧ ∀ v' H', Ex H H' → Dp K H' v' (dTime b) → Q v' H'
def sp__as_link (K : PySem.W.Frag) : Sp := fun vs H Q _ => ∃ (v : V) (wi pl : Addr) (ws ps : List Str) (k : Link), vs = [v, .ref wi, .ref pl] ∧ LinkIn K H v k ∧ Seq2 K H wi (ws.map V.str) ∧ Seq2 K H pl (ps.map V.str) ∧ LinkOk ws ps k ∧ ws.length ≤ 100 ∧
  ∀ H' p, Ex H H' → H p = none → Dp K H' (.ref p) (dLink k) → Q (.ref p) H'
def sp__as_path (K : PySem.W.Frag) : Sp := fun vs H Q _ => ∃ (v : V) (pl : Addr) (ps : List Str) (p : Str × Str × Int), vs = [v, .ref pl] ∧ Dp K H v (dPath p) ∧ Seq2 K H pl (ps.map V.str) ∧ PathOk ps p ∧ ∀ H' q, Ex H H' → H q = none → Dp K H' (.ref q) (dPath p) → Q (.ref q) H'
def sp__check_single_paths (K : PySem.W.Frag) : Sp := fun vs H Q _ => ∃ (p : Addr) (prs : List V) (pa : List (Str × Str × Int)), vs = [.ref p] ∧ SqT K H p prs ∧ DpAll K H prs (pa.map dPath) ∧ pa.length ≤ 60 ∧ (pa.map fun p => (p.1, p.2.1)).Pairwise Apart ∧ ∀ H', Ex H H' → Q .non H'
def sp_link_names (K : PySem.W.Frag) (C : Addr) : Sp := fun vs H Q _ => ∃ (x dx : Addr) (fs : List (Str × V)) (l : Addr) (rows : List V) (ls : List Link), vs = [.ref x] ∧ H x = some (.ins C dx fs) ∧ fs.lookup ("links" : Str) = some (V.ref l) ∧ SqT K H l rows ∧ DpAll K H rows (ls.map dLink) ∧ ls.length ≤ 1000 ∧
  ∀ H' p, Ex H H' → H p = none → H' p = some (.tup ((ls.map (·.n)).map V.str)) → Q (.ref p) H'
section
variable {P : Program} {w : World} {K : PySem.W.Frag} {mg : Str → Option Value} {base : Heap} {a : Ad}
theorem G__check_count (T : Txt K mg a) : FnOk P w K mg base CX0 1 a.f__check_count a.d__check_count ["sort", "rows", "least", "most"] (sp__check_count K) := by
  refine T.F__check_count.ok sc__check_count (fun vs H Q E h => ?_) (fun cdv A outer s H vs Q E hr h => ?_)
  · obtain ⟨z, p, xs, lo, hi, rfl, _⟩ := h
    rfl
  · obtain ⟨z, p, xs, lo, hi, rfl, hS, h1, h2, k⟩ := h
    refine ⟨_, (pss_one (ps_if (pt_not (pt_chain op_le op_le (pv 2) (pe_callB call_len_seq (by rfl) T.z_len PySem.boot_len (pa_cons (pv 1) pa_nil)) (pv 3))) pss_any pss_nil)), ?_⟩
    refine ⟨_, rfl, _, rfl, p, _, rfl, hS, _, _, rfl, rfl, _, rfl, ?_⟩
    refine ite2 (fun _ => ?_) (fun n => absurd (decide_eq_true h1) n)
    exact ⟨_, rfl, _, _, rfl, rfl, _, rfl, iteNS h2 k⟩
theorem G__check_names (T : Txt K mg a) : FnOk P w K mg base CX0 2 a.f__check_names a.d__check_names ["sort", "names"] (sp__check_names K) := by
  refine T.F__check_names.ok sc__check_names (fun vs H Q E h => ?_) (fun cdv A outer s H vs Q E hr h => ?_)
  · obtain ⟨z, p, ns, rfl, _⟩ := h
    rfl
  · obtain ⟨z, p, ns, rfl, hS, hl, hg, k⟩ := h
    refine ⟨_, (pss_cons (ps_for PassesOwn.never rfl (pi_or (pi_list (pv 1)) (pi_tup (pv 1))) (pg_name (i := 2) sc__check_names.nd rfl (Or.inl rfl)) (pss_one (ps_if (pt_not (pt_val (pe_call (G_is_name T) (hr.mono (by decide)) (by rfl) T.g_is_name T.k_is_name T.B_is_name .nil pass0 (pa_cons (pv 2) pa_nil)))) pss_any pss_nil)))
      (pss_one (ps_if (pt_cmpR op_ne (pe_lenSetS rfl (by rfl) T.z_len (by rfl) T.z_set (pv 1)) (pe_callB call_len_seq (by rfl) T.z_len PySem.boot_len (pa_cons (pv 1) pa_nil)) (nomark _)) pss_any pss_nil))), ?_⟩
    have hlen : (ns.map V.str).length = ns.length := List.length_map ..
    have pick : ∀ {i : Nat} {y : V}, (ns.map V.str)[i]? = some y → ∃ n, n ∈ ns ∧ y = .str n := fun {i y} hy => by
      rw [List.getElem?_map] at hy
      cases q : ns[i]? with
      | none =>
        rw [q] at hy
        cases hy
      | some n =>
        rw [q] at hy
        exact ⟨n, List.mem_of_getElem? q, (Option.some.inj hy).symm⟩
    have dl := (dd_len_eq ns [] List.nodup_nil).mpr (by rw [List.nil_append]; exact hg.2)
    rw [List.length_nil, Nat.zero_add] at dl
    rcases hS with hS | hS
    · refine .inl ⟨_, rfl, p, rfl, ⟨_, hS⟩, for_list (K := K) (a := p) (xs := ns.map V.str) (fun i σ H' => ∃ v, σ = [some (V.str z), some (V.ref p), v] ∧ Ex H H') ⟨none, rfl, Ex.refl H⟩ ?_ ?_ ?_⟩
      · rintro i σ H' _ ⟨v, rfl, e⟩
        exact ex_l e hS
      · rintro i y σ H' hy ⟨v, rfl, e⟩
        obtain ⟨n, hn, rfl⟩ := pick hy
        have nl := name_len (hg.1 n hn)
        refine ⟨_, rfl, n, rfl, by omega, fun H2 e2 => ⟨_, rfl, ?_⟩⟩
        rw [hg.1 n hn]
        exact iteF ⟨_, rfl, e.trans e2⟩
      · rintro σ H' ⟨v, rfl, e⟩
        refine ⟨_, rfl, p, ns, rfl, .inl (ex_l e hS), by omega, _, rfl, p, _, rfl, .inl (ex_l e hS), rfl, _, rfl, ?_⟩
        rw [hlen, dl]
        exact iteNS rfl (k _ e)
    · refine .inr ⟨_, rfl, p, rfl, ⟨_, hS⟩, for_tup (K := K) (a := p) (xs := ns.map V.str) (fun i σ H' => ∃ v, σ = [some (V.str z), some (V.ref p), v] ∧ Ex H H') ⟨none, rfl, Ex.refl H⟩ ?_ ?_ ?_⟩
      · rintro i σ H' _ ⟨v, rfl, e⟩
        exact ex_t e hS
      · rintro i y σ H' hy ⟨v, rfl, e⟩
        obtain ⟨n, hn, rfl⟩ := pick hy
        have nl := name_len (hg.1 n hn)
        refine ⟨_, rfl, n, rfl, by omega, fun H2 e2 => ⟨_, rfl, ?_⟩⟩
        rw [hg.1 n hn]
        exact iteF ⟨_, rfl, e.trans e2⟩
      · rintro σ H' ⟨v, rfl, e⟩
        refine ⟨_, rfl, p, ns, rfl, .inr (ex_t e hS), by omega, _, rfl, p, _, rfl, .inr (ex_t e hS), rfl, _, rfl, ?_⟩
        rw [hlen, dl]
        exact iteNS rfl (k _ e)
theorem G__check_ends (T : Txt K mg a) : FnOk P w K mg base CX0 1 a.f__check_ends a.d__check_ends ["sort", "one", "other", "places"] (sp__check_ends K) := by
  refine T.F__check_ends.ok sc__check_ends (fun vs H Q E h => ?_) (fun cdv A outer s H vs Q E hr h => ?_)
  · obtain ⟨z, one, other, p, ps, rfl, _⟩ := h
    rfl
  · obtain ⟨z, one, other, p, ps, rfl, hS, h1, h2, h3, k⟩ := h
    refine ⟨_, (pss_cons (ps_if (PW.pt (pw_or (pt_cmpR op_notIn_seq (pv 1) (pv 3) (by rfl)) (pw_or1 (pt_cmpR op_notIn_seq (pv 2) (pv 3) (by rfl))))) pss_any pss_nil)
      (pss_one (ps_if (pt_cmpR op_eq (pv 1) (pv 2) (nomark _)) pss_any pss_nil))), ?_⟩
    refine ⟨_, rfl, _, rfl, p, _, rfl, hS, rfl, flat_str _, _, rfl, ?_⟩
    rw [inV_str h1]
    refine iteF ⟨_, rfl, _, rfl, p, _, rfl, hS, rfl, flat_str _, _, rfl, ?_⟩
    rw [inV_str h2]
    refine iteF ?_
    refine ⟨_, rfl, _, rfl, rfl, _, rfl, ?_⟩
    rw [decide_eq_false (fun q => h3 (V.str.inj q))]
    exact iteF k
theorem G__as_bounds (T : Txt K mg a) : FnOk P w K mg base CX0 1 a.f__as_bounds a.d__as_bounds ["bounds"] (sp__as_bounds K) := by
  refine T.F__as_bounds.ok sc__as_bounds (fun vs H Q E h => ?_) (fun cdv A outer s H vs Q E hr h => ?_)
  · obtain ⟨v, b, rfl, _⟩ := h
    rfl
  · obtain ⟨v, b, rfl, hv, hok, k⟩ := h
    refine ⟨_, (pss_cons (ps_if (pt_cmpR op_isN (pv 0) pe_non (nomark _)) (pss_one (ps_ret pe_non)) pss_nil)
      (pss_cons (ps_if (pt_cmpR op_ne (pe_callB call_len_seq (by rfl) T.z_len PySem.boot_len (pa_cons (pv 0) pa_nil)) pe_int (nomark _)) pss_any pss_nil)
      (pss_cons (ps_asg (pv 0) (pg_tup (by rfl) (pgs_cons (pg_name (i := 1) sc__as_bounds.nd rfl (Or.inl rfl)) (pgs_cons (pg_name (i := 2) sc__as_bounds.nd rfl (Or.inl rfl)) pgs_nil))))
      (pss_cons (ps_if (pt_not (pt_chain3 op_le op_le op_le pe_int (pv 1) (pv 2) (pe_gI rfl T.c_MOST_MINUTES))) pss_any pss_nil)
      (pss_one (ps_ret (pe_tup (pa_cons (pv 1) (pa_cons (pv 2) pa_nil))))))))), ?_⟩
    cases b with
    | none =>
      cases hv
      exact ⟨_, rfl, rfl, _, rfl, iteT (k .non H (Ex.refl H) .non)⟩
    | some b =>
      obtain ⟨lo, hi⟩ := b
      obtain ⟨o1, o2, o3⟩ := hok
      cases hv with
      | tup hs hr =>
        cases hr with
        | cons a1 hr =>
          cases a1
          cases hr with
          | cons a2 hr =>
            cases a2
            cases hr
            rename_i p
            refine ⟨_, rfl, rfl, _, rfl, iteF ?_⟩
            refine ⟨_, rfl, p, _, rfl, .inr hs, rfl, _, rfl, iteNS rfl ?_⟩
            refine ⟨_, rfl, p, _, rfl, hs, rfl, _, _, rfl, _, _, rfl, rfl, ?_⟩
            refine ⟨_, rfl, _, _, rfl, rfl, _, rfl, ?_⟩
            refine ite2 (fun _ => ?_) (fun n => absurd (decide_eq_true o1) n)
            refine ⟨_, rfl, _, _, rfl, rfl, _, rfl, ?_⟩
            refine ite2 (fun _ => ?_) (fun n => absurd (decide_eq_true o2) n)
            refine ⟨_, _, rfl, rfl, _, rfl, iteNS o3 ?_⟩
            refine ⟨_, rfl, _, rfl, by show 2 ≤ sizeLine; decide, fun q hq => ?_⟩
            exact k _ _ (Ex.new hq) (.tup (st_of upd_same) (.cons (.int lo) (.cons (.int hi) .nil)))
theorem G_link_names (T : Txt K mg a) : FnOk P w K mg base CX0 1 a.f_link_names a.d_link_names ["self"] (sp_link_names K a.C) := by
  refine T.F_link_names.ok sc_link_names (fun vs H Q E h => ?_) (fun cdv A outer s H vs Q E hr h => ?_)
  · obtain ⟨x, dx, fs, l, rows, ls, rfl, _⟩ := h
    rfl
  · obtain ⟨x, dx, fs, l, rows, ls, rfl, hx, hf, hl, hd, hmax, k⟩ := h
    have hlen : rows.length = ls.length := by rw [dps_len hd, List.length_map]
    refine ⟨_, (pss_one (ps_ret (pe_callTy call_tupK (by rfl) T.z_tuple (by decide +kernel) (pa_cons (pe_lc (own := [("link", 1)]) (g := gName 1) (tt := tYes) rfl sc_link_names.nd (pi_tup (pe_fld (pv 0) rfl)) (blkOk_by (N := ["self", "link"]) (sc := defScope s_link_names) (by decide +kernel)) (fun _ _ _ _ _ => pg_name (i := 1) sc_link_names.nd rfl (Or.inl rfl)) (fun _ _ _ _ _ => pts_nil) (fun _ _ _ _ _ => (pe_ix (show IxR _ (rIxT K) from ix_tup) (pv 1) pe_int (fun _ _ => rfl)))) pa_nil)))), ?_⟩
    refine ⟨_, rfl, x, _, dx, fs, _, rfl, hx, T.cl, T.nL, hf, l, rfl, ⟨_, hl⟩, fun D hD => lcY_tup (K := K) (a := l) (xs := rows) (fun i H' => Ex H H' ∧ H' D = some (.lst (((ls.map (·.n)).take i).map V.str))) ⟨Ex.new hD, upd_same⟩ (fun i H' _ p => ex_t p.1 hl) (fun i r H' hi p => ?_) (fun H' p => ?_)⟩
    · obtain ⟨d, hd1, hd2⟩ := dps_at hd hi
      have hil : i < rows.length := (List.getElem?_eq_some_iff.mp hi).1
      obtain ⟨k0, hk0⟩ : ∃ k0, ls[i]? = some k0 := ⟨ls[i]'(by omega), List.getElem?_eq_getElem (by omega)⟩
      rw [List.getElem?_map, hk0] at hd1
      obtain rfl : dLink k0 = d := Option.some.inj hd1
      obtain ⟨t, u, vs, rfl, hT, _, _⟩ := made_in hd2
      refine ⟨rfl, _, rfl, t, _, 0, .str k0.n, rfl, rfl, ex_t p.1 hT, atI_nat (j := 0) rfl, _, p.2, sz_lt (by rw [List.length_map, List.length_take, List.length_map]; omega), Ex.mut p.1 hD, ?_⟩
      rw [upd_same, List.take_add_one, List.getElem?_map, hk0, List.map_append]
      rfl
    · rw [hlen, ← List.length_map (f := (·.n)), List.take_length] at p
      refine ⟨D, _, rfl, .inl ⟨SqL.of p.2, fun q hq => ?_⟩⟩
      exact k _ q (p.1.trans (Ex.new hq)) (fresh_back p.1 hq) upd_same
end
end EV

set_option Elab.async false
set_option linter.all false
set_option maxRecDepth 100000
set_option maxHeartbeats 4000000
namespace EV
open PySem PySem.Spec PyProof.Rows L2 EvS Evl
/-! ### data without lists stands while lists change -/
mutual
def frozen : PyData → Bool
  | .none => true
  | .bool _ => true
  | .int _ => true
  | .str _ => true
  | .tuple ds => frozenAll ds
  | .list _ => false
  | .dict _ => false
def frozenAll : List PyData → Bool
  | [] => true
  | d :: ds => frozen d && frozenAll ds
end
theorem frozenAll_of : ∀ {ds : List PyData}, (∀ d ∈ ds, frozen d = true) → frozenAll ds = true
  | [], _ => by simp [frozenAll]
  | d :: ds, h => by
    rw [frozenAll, h d List.mem_cons_self, frozenAll_of fun x hx => h x (List.mem_cons_of_mem _ hx)]
    rfl
theorem frozen_time (b : Option (Int × Int)) : frozen (dTime b) = true := by cases b <;> simp [dTime, frozen, frozenAll]
theorem frozen_times (ts : List (Option (Int × Int))) : frozenAll (ts.map dTime) = true := frozenAll_of fun d hd => by
  obtain ⟨b, _, rfl⟩ := List.mem_map.mp hd
  exact frozen_time b
theorem frozen_link (k : Link) : frozen (dLink k) = true := by simp [dLink, frozen, frozenAll, frozen_times]
theorem frozen_path (p : Str × Str × Int) : frozen (dPath p) = true := by simp [dPath, frozen, frozenAll]
theorem frozen_links (ls : List Link) : frozenAll (ls.map dLink) = true := frozenAll_of fun d hd => by
  obtain ⟨b, _, rfl⟩ := List.mem_map.mp hd
  exact frozen_link b
theorem frozen_paths (ls : List (Str × Str × Int)) : frozenAll (ls.map dPath) = true := frozenAll_of fun d hd => by
  obtain ⟨b, _, rfl⟩ := List.mem_map.mp hd
  exact frozen_path b
theorem frozen_strs (ls : List Str) : frozenAll (ls.map PyData.str) = true := frozenAll_of fun d hd => by
  obtain ⟨b, _, rfl⟩ := List.mem_map.mp hd
  simp [frozen]
theorem frozen_land (D : LandD) : frozen (dLand D) = true := by simp [dLand, frozen, frozenAll, frozen_links, frozen_paths, frozen_strs]
def ExT (H H' : Hp) : Prop := ∀ a xs, Rd H a (.tup xs) → Rd H' a (.tup xs)
theorem exT_of {H H' : Hp} (e : Ex H H') : ExT H H' := fun _ _ h => ex_rd e h
theorem ExT.trans {H H1 H2 : Hp} (a : ExT H H1) (b : ExT H1 H2) : ExT H H2 := fun x y h => b x y (a x y h)
theorem exT_mut {H : Hp} {l : Addr} {xs ys : List V} (h : H l = some (.lst xs)) : ExT H (upd H l (.lst ys)) := fun a zs r => by
  rcases r with r | ⟨o, r⟩
  · exact .inl (by rw [upd_ne (ne_of r h (by intro z; cases z))]; exact r)
  · exact .inr ⟨o, by rw [upd_ne (ne_of r h (by intro z; cases z))]; exact r⟩
theorem exT_t {K : PySem.W.Frag} {H H' : Hp} {p : Addr} {xs : List V} (e : ExT H H') (h : SqT K H p xs) : SqT K H' p xs := h.elim (fun r => .inl (e _ _ r)) .inr
mutual
theorem dp_exT {K : PySem.W.Frag} {H H' : Hp} (e : ExT H H') : ∀ {v : V} {d : PyData}, Dp K H v d → frozen d = true → Dp K H' v d
  | _, _, .non, _ => .non
  | _, _, .bl b, _ => .bl b
  | _, _, .int i, _ => .int i
  | _, _, .str x, _ => .str x
  | _, _, .lst _ _, f => by simp [frozen] at f
  | _, _, .tup h r, f => .tup (exT_t e h) (dps_exT e r (by simpa [frozen] using f))
theorem dps_exT {K : PySem.W.Frag} {H H' : Hp} (e : ExT H H') : ∀ {vs : List V} {ds : List PyData}, DpAll K H vs ds → frozenAll ds = true → DpAll K H' vs ds
  | _, _, .nil, _ => .nil
  | _, _, .cons h r, f => by
    simp only [frozenAll, Bool.and_eq_true] at f
    exact .cons (dp_exT e h f.1) (dps_exT e r f.2)
end
/-! ### side by side -/
inductive All2 {α β : Type} (R : α → β → Prop) : List α → List β → Prop
  | nil : All2 R [] []
  | cons {a : α} {b : β} {as : List α} {bs : List β} : R a b → All2 R as bs → All2 R (a :: as) (b :: bs)
theorem All2.len {α β : Type} {R : α → β → Prop} : ∀ {as : List α} {bs : List β}, All2 R as bs → as.length = bs.length
  | _, _, .nil => rfl
  | _, _, .cons _ r => congrArg Nat.succ r.len
theorem All2.mono {α β : Type} {R S : α → β → Prop} (f : ∀ a b, R a b → S a b) : ∀ {as : List α} {bs : List β}, All2 R as bs → All2 S as bs
  | _, _, .nil => .nil
  | _, _, .cons h r => .cons (f _ _ h) (r.mono f)
theorem All2.app {α β : Type} {R : α → β → Prop} : ∀ {as cs : List α} {bs ds : List β}, All2 R as bs → All2 R cs ds → All2 R (as ++ cs) (bs ++ ds)
  | _, _, _, _, .nil, b => b
  | _, _, _, _, .cons h r, b => .cons h (r.app b)
theorem All2.at {α β : Type} {R : α → β → Prop} : ∀ {as : List α} {bs : List β} (i : Nat) {a : α}, All2 R as bs → as[i]? = some a → ∃ b, bs[i]? = some b ∧ R a b
  | _, _, _, _, .nil, h => by simp at h
  | _, _, 0, _, .cons h _, e => by
    simp only [List.getElem?_cons_zero, Option.some.injEq] at e
    subst e
    exact ⟨_, rfl, h⟩
  | _, _, i + 1, _, .cons _ r, e => by
    simp only [List.getElem?_cons_succ] at e
    exact r.at i e
theorem all2_dps {β : Type} {K : PySem.W.Frag} {H : Hp} {f : β → PyData} {R : V → β → Prop} (g : ∀ v b, Dp K H v (f b) → R v b) : ∀ {vs : List V} {bs : List β}, DpAll K H vs (bs.map f) → All2 R vs bs
  | _, [], .nil => .nil
  | _, _ :: _, .cons h r => .cons (g _ _ h) (all2_dps g r)
theorem take_one {α : Type} {l : List α} {i : Nat} {x : α} (h : l[i]? = some x) : l.take (i + 1) = l.take i ++ [x] := by
  rw [List.take_add_one, h]
  rfl
section
variable {P : Program} {w : World} {K : PySem.W.Frag} {mg : Str → Option Value} {base : Heap} {a : Ad}
theorem G__as_link (T : Txt K mg a) : FnOk P w K mg base CX0 2 a.f__as_link a.d__as_link ["link", "winds", "places"] (sp__as_link K) := by
  refine T.F__as_link.ok sc__as_link (fun vs H Q E h => ?_) (fun cdv A outer s H vs Q E hr h => ?_)
  · obtain ⟨v, wi, pl, ws, ps, k0, rfl, _⟩ := h
    rfl
  · obtain ⟨v, wi, pl, ws, ps, k0, rfl, hv, hW, hP, ok, hmax, k⟩ := h
    obtain ⟨t, u, vs, rfl, hT, hU, hD0⟩ := hv
    have lv : vs.length = k0.ts.length := by rw [dps_len hD0, List.length_map]
    refine ⟨_, (pss_cons (ps_if (pt_cmpR op_ne (pe_callB call_len_seq (by rfl) T.z_len PySem.boot_len (pa_cons (pv 0) pa_nil)) pe_int (nomark _)) pss_any pss_nil)
      (pss_cons (ps_asg (pv 0) (pg_tup (by rfl) (pgs_cons (pg_name (i := 3) sc__as_link.nd rfl (Or.inl rfl)) (pgs_cons (pg_name (i := 4) sc__as_link.nd rfl (Or.inl rfl)) (pgs_cons (pg_name (i := 5) sc__as_link.nd rfl (Or.inl rfl)) (pgs_cons (pg_name (i := 6) sc__as_link.nd rfl (Or.inl rfl)) pgs_nil))))))
      (pss_cons (ps_expr (pe_call (G__check_ends T) (hr.mono (by decide)) (by rfl) T.g__check_ends T.k__check_ends T.B__check_ends .nil pass0 (pa_cons pe_str (pa_cons (pv 4) (pa_cons (pv 5) (pa_cons (pv 2) pa_nil))))))
      (pss_cons (ps_if (pt_cmpR op_ne (pe_callB call_len_seq (by rfl) T.z_len PySem.boot_len (pa_cons (pv 6) pa_nil)) (pe_callB call_len_seq (by rfl) T.z_len PySem.boot_len (pa_cons (pv 1) pa_nil)) (nomark _)) pss_any pss_nil)
      (pss_one (ps_ret (pe_tup (pa_cons (pv 3) (pa_cons (pv 4) (pa_cons (pv 5) (pa_cons (pe_callTy call_tupK (by rfl) T.z_tuple (by decide +kernel) (pa_cons (pe_lc (own := [("bounds", 7)]) (g := gName 7) (tt := tYes) rfl sc__as_link.nd (pi_or (pi_list (pv 6)) (pi_tup (pv 6))) (blkOk_by (N := ["link", "winds", "places", "name", "one", "other", "times", "bounds"]) (sc := defScope s__as_link) (by decide +kernel)) (fun _ _ _ _ _ => pg_name (i := 7) sc__as_link.nd rfl (Or.inl rfl)) (fun _ _ _ _ _ => pts_nil) (fun _ _ _ _ _ => (pe_call (G__as_bounds T) (hr.mono (by decide)) (by rfl) T.g__as_bounds T.k__as_bounds T.B__as_bounds .nil pass0 (pa_cons (pv 7) pa_nil)))) pa_nil)) pa_nil))))))))))), ?_⟩
    refine ⟨_, rfl, t, _, rfl, .inr hT, rfl, _, rfl, iteNS rfl ?_⟩
    refine ⟨_, rfl, t, _, rfl, hT, rfl, _, _, rfl, _, _, rfl, _, _, rfl, _, _, rfl, rfl, ?_⟩
    refine ⟨_, rfl, _, rfl, _, rfl, _, k0.o, k0.t, pl, ps, rfl, hP, ok.o, ok.t, ok.ne, ?_⟩
    refine ⟨_, rfl, u, _, rfl, hU, _, rfl, wi, _, rfl, hW, rfl, _, rfl, iteNS (by rw [lv, ok.len, List.length_map]) ?_⟩
    refine ⟨_, rfl, _, rfl, _, rfl, ?_⟩
    let Pv : Addr → Nat → Hp → Prop := fun D i H' => Ex H H' ∧ ∃ made, H' D = some (.lst made) ∧ made.length = i ∧ DpAll K H' made ((k0.ts.take i).map dTime)
    have start : ∀ {D : Addr}, H D = none → Pv D 0 (upd H D (.lst [])) := fun hD => ⟨Ex.new hD, [], upd_same, rfl, .nil⟩
    have turn : ∀ {D : Addr} (i : Nat) (y : V) (H' : Hp) (σ : L2.St), H D = none → vs[i]? = some y → Pv D i H' → σ[7]? = some (some y) →
        tCall (sp__as_bounds K) [] E0 (tCons (tVar 7) tNil) σ H' fun y H4 => ∃ acc, H4 D = some (.lst acc) ∧ acc.length < sizeLine ∧ Pv D (i + 1) (upd H4 D (.lst (acc ++ [y]))) := by
      rintro D i y H' σ hD hy ⟨e, made, hm, hl, hd⟩ hs
      obtain ⟨d, hd1, hd2⟩ := dps_at hD0 hy
      have hil : i < vs.length := (List.getElem?_eq_some_iff.mp hy).1
      obtain ⟨b, hb⟩ : ∃ b, k0.ts[i]? = some b := ⟨k0.ts[i]'(by omega), List.getElem?_eq_getElem (by omega)⟩
      rw [List.getElem?_map, hb] at hd1
      obtain rfl : dTime b = d := Option.some.inj hd1
      refine ⟨y, hs, y, b, rfl, dp_ex e hd2, ok.ok b (List.mem_of_getElem? hb), fun v' H6 e6 hv' => ⟨made, e6 _ _ hm, sz_lt (by have := ok.len; omega), (e.trans e6).mut hD, _, upd_same, by rw [List.length_append, hl] <;> rfl, ?_⟩⟩
      rw [take_one hb, List.map_append]
      exact dps_app (dps_exT (exT_mut (e6 _ _ hm)) (dps_ex e6 hd) (frozen_times _)) (dps_one (dp_exT (exT_mut (e6 _ _ hm)) hv' (frozen_time _)))
    have fin : ∀ {D : Addr} {H' : Hp}, Pv D vs.length H' → rTupK K [.ref D] H' fun x H2 => (5 : Nat) - 1 ≤ sizeLine ∧ ∀ p, H2 p = none → Q (.ref p) (upd H2 p (.tup [.str k0.n, .str k0.o, .str k0.t, x])) := by
      rintro D H' ⟨e, made, hm, hl, hd⟩
      rw [lv, List.take_length] at hd
      refine ⟨D, made, rfl, .inl ⟨SqL.of hm, fun q hq => ⟨by decide, fun r hr0 => ?_⟩⟩⟩
      have e1 : Ex H' (upd (upd H' q (.tup made)) r (.tup [.str k0.n, .str k0.o, .str k0.t, .ref q])) := (Ex.new hq).trans (Ex.new hr0)
      have nqr : q ≠ r := ne_of_none upd_same hr0
      exact k _ r (e.trans e1) (fresh_back (e.trans (Ex.new hq)) hr0) (.tup (st_of upd_same) (.cons (.str _) (.cons (.str _) (.cons (.str _) (.cons (.tup (st_of (by rw [upd_ne nqr, upd_same])) (dps_ex e1 hd)) .nil)))))
    rcases hU with hU | hU
    · exact .inl ⟨_, rfl, u, rfl, ⟨_, hU⟩, fun D hD => lcY_list (K := K) (a := u) (xs := vs) (Pv D) (start hD) (fun i H' _ p => ex_l p.1 hU) (fun i y H' hi p => ⟨rfl, turn i y H' _ hD hi p rfl⟩) (fun H' p => fin p)⟩
    · exact .inr ⟨_, rfl, u, rfl, ⟨_, hU⟩, fun D hD => lcY_tup (K := K) (a := u) (xs := vs) (Pv D) (start hD) (fun i H' _ p => ex_t p.1 hU) (fun i y H' hi p => ⟨rfl, turn i y H' _ hD hi p rfl⟩) (fun H' p => fin p)⟩
theorem G__as_path (T : Txt K mg a) : FnOk P w K mg base CX0 2 a.f__as_path a.d__as_path ["path", "places"] (sp__as_path K) := by
  refine T.F__as_path.ok sc__as_path (fun vs H Q E h => ?_) (fun cdv A outer s H vs Q E hr h => ?_)
  · obtain ⟨v, pl, ps, p, rfl, _⟩ := h
    rfl
  · obtain ⟨v, pl, ps, p, rfl, hv, hP, ok, k⟩ := h
    obtain ⟨t, rfl, hT⟩ := path_in hv
    have lo := ok.lo
    have hi := ok.hi
    refine ⟨_, (pss_cons (ps_if (pt_cmpR op_ne (pe_callB call_len_seq (by rfl) T.z_len PySem.boot_len (pa_cons (pv 0) pa_nil)) pe_int (nomark _)) pss_any pss_nil)
      (pss_cons (ps_asg (pv 0) (pg_tup (by rfl) (pgs_cons (pg_name (i := 2) sc__as_path.nd rfl (Or.inl rfl)) (pgs_cons (pg_name (i := 3) sc__as_path.nd rfl (Or.inl rfl)) (pgs_cons (pg_name (i := 4) sc__as_path.nd rfl (Or.inl rfl)) pgs_nil)))))
      (pss_cons (ps_expr (pe_call (G__check_ends T) (hr.mono (by decide)) (by rfl) T.g__check_ends T.k__check_ends T.B__check_ends .nil pass0 (pa_cons pe_str (pa_cons (pv 2) (pa_cons (pv 3) (pa_cons (pv 1) pa_nil))))))
      (pss_cons (ps_if (pt_not (pt_chain op_le op_le pe_int (pv 4) (pe_gI rfl T.c_MOST_MINUTES))) pss_any pss_nil)
      (pss_one (ps_ret (pe_tup (pa_cons (pv 2) (pa_cons (pv 3) (pa_cons (pv 4) pa_nil)))))))))), ?_⟩
    refine ⟨_, rfl, t, _, rfl, .inr hT, rfl, _, rfl, iteNS rfl ?_⟩
    refine ⟨_, rfl, t, _, rfl, hT, rfl, _, _, rfl, _, _, rfl, _, _, rfl, rfl, ?_⟩
    refine ⟨_, rfl, _, rfl, _, rfl, _, p.1, p.2.1, pl, ps, rfl, hP, ok.o, ok.t, ok.ne, ?_⟩
    refine ⟨_, rfl, _, _, rfl, rfl, _, rfl, ?_⟩
    refine ite2 (fun _ => ?_) (fun n => absurd (decide_eq_true lo) n)
    refine ⟨_, _, rfl, rfl, _, rfl, iteNS hi ?_⟩
    refine ⟨_, rfl, _, rfl, _, rfl, by show 3 ≤ sizeLine; decide, fun q hq => ?_⟩
    exact k _ q (Ex.new hq) hq (.tup (st_of upd_same) (.cons (.str _) (.cons (.str _) (.cons (.int _) .nil))))
theorem G__check_single_paths (T : Txt K mg a) : FnOk P w K mg base CX0 1 a.f__check_single_paths a.d__check_single_paths ["paths"] (sp__check_single_paths K) := by
  refine T.F__check_single_paths.ok sc__check_single_paths (fun vs H Q E h => ?_) (fun cdv A outer s H vs Q E hr h => ?_)
  · obtain ⟨p, prs, pa, rfl, _⟩ := h
    rfl
  · obtain ⟨p, prs, pa, rfl, hT, hd, h60, hap, k⟩ := h
    have lp : prs.length = pa.length := by rw [dps_len hd, List.length_map]
    refine ⟨_, (pss_cons (ps_setLc (i := 1) (own := [("one", 2), ("other", 3), ("_", 4)]) (g := gTup K 3 (gCons (gName 2) (gCons (gName 3) (gCons (gName 4) gNil)))) (tt := tYes) rfl sc__check_single_paths.nd rfl rfl (sw_true rfl rfl rfl (by decide +kernel)) (pi_tup (pv 0)) (blkOk_by (N := ["paths", "ends", "one", "other", "_"]) (sc := defScope s__check_single_paths) (by decide +kernel)) (fun _ _ _ _ _ => (pg_tup (by rfl) (pgs_cons (pg_name (i := 2) sc__check_single_paths.nd rfl (Or.inl rfl)) (pgs_cons (pg_name (i := 3) sc__check_single_paths.nd rfl (Or.inl rfl)) (pgs_cons (pg_name (i := 4) sc__check_single_paths.nd rfl (Or.inl rfl)) pgs_nil))))) (fun _ _ _ _ _ => pts_nil) (fun _ _ _ _ _ => (pe_callTy (show CallR _ _ (rTupK K) from call_tupK) (by rfl) T.z_tuple (by decide +kernel) (pa_cons (pe_callB (show CallR _ _ (rSortedS K) from cr_sortedS) (by rfl) T.z_sorted (by decide +kernel) (pa_cons (pe_lst (pa_cons (pv 2) (pa_cons (pv 3) pa_nil))) pa_nil)) pa_nil))))
      (pss_one (ps_if (pt_cmpR op_ne (TxSet.pe_lenSetT hr rfl (by rfl) T.z_len (by rfl) T.z_set (pv 1)) (pe_callB call_len_seq (by rfl) T.z_len PySem.boot_len (pa_cons (pv 1) pa_nil)) (nomark _)) pss_any pss_nil))), ?_⟩
    refine ⟨_, rfl, p, rfl, ⟨_, hT⟩, fun D hD => lcY_tup (K := K) (a := p) (xs := prs) (fun i H' => Ex H H' ∧ ∃ ks : List (Addr × List Str), H' D = some (.lst (ks.map fun p => V.ref p.1)) ∧ (∀ p ∈ ks, H' p.1 = some (.tup (p.2.map V.str))) ∧ All2 (fun q r => q.2.Perm [r.1, r.2.1]) ks (pa.take i))
      ⟨Ex.new hD, [], upd_same, fun p hp => (by cases hp), .nil⟩ (fun i H' _ q => ex_t q.1 hT) (fun i y H' hi q => ?_) (fun H' q => ?_)⟩
    · obtain ⟨e, ks, hks, hat, h2⟩ := q
      have hil : i < prs.length := (List.getElem?_eq_some_iff.mp hi).1
      obtain ⟨d, hd1, hd2⟩ := dps_at hd hi
      obtain ⟨b, hb⟩ : ∃ b, pa[i]? = some b := ⟨pa[i]'(by omega), List.getElem?_eq_getElem (by omega)⟩
      rw [List.getElem?_map, hb] at hd1
      obtain rfl : dPath b = d := Option.some.inj hd1
      obtain ⟨t, rfl, hb2⟩ := path_in hd2
      have lk : ks.length = (pa.take i).length := h2.len
      refine ⟨t, _, rfl, ex_t e hb2, rfl, _, _, rfl, _, _, rfl, _, _, rfl, rfl, rfl, ?_⟩
      refine ⟨_, rfl, _, rfl, by show 2 ≤ sizeLine; decide, fun l hl => ?_⟩
      refine ⟨l, [b.1, b.2.1], rfl, SqL.of upd_same, (by show 2 < 64; decide), fun ys m pm _ hm => ?_⟩
      refine ⟨m, _, rfl, .inl ⟨SqL.of upd_same, fun n hn => ?_⟩⟩
      have e3 : Ex H' (upd (upd (upd H' l (.lst [.str b.1, .str b.2.1])) m (.lst (ys.map V.str))) n (.tup (ys.map V.str))) := ((Ex.new hl).trans (Ex.new hm)).trans (Ex.new hn)
      have hD3 := e3 _ _ hks
      refine ⟨_, hD3, sz_lt (by rw [List.length_map, lk, List.length_take]; omega), (e.trans e3).mut hD, ks ++ [(n, ys)], by rw [upd_same, List.map_append] <;> rfl, fun q hq => ?_, ?_⟩
      · rcases List.mem_append.mp hq with z | z
        · have h3 := e3 _ _ (hat q z)
          rw [upd_ne (ne_of h3 hD3 (by intro z; cases z))]
          exact h3
        · rw [List.mem_singleton.mp z]
          have h3 : (upd (upd (upd H' l (.lst [.str b.1, .str b.2.1])) m (.lst (ys.map V.str))) n (.tup (ys.map V.str))) n = some (.tup (ys.map V.str)) := upd_same
          show (upd _ D _) n = _
          rw [upd_ne (ne_of h3 hD3 (by intro z; cases z))]
          exact h3
      · rw [take_one hb]
        exact h2.app (.cons pm .nil)
    · obtain ⟨e, ks, hks, hat, h2⟩ := q
      rw [lp, List.take_length] at h2
      have lk := h2.len
      have diff : (ks.map (·.2)).Nodup := by
        have go : ∀ {ks : List (Addr × List Str)} {pa : List (Str × Str × Int)}, All2 (fun q r => q.2.Perm [r.1, r.2.1]) ks pa → (pa.map fun p => (p.1, p.2.1)).Pairwise Apart → (ks.map (·.2)).Nodup := by
          intro ks pa h
          induction h with
          | nil => intro _; exact List.nodup_nil
          | @cons q r ks pa h hr ih =>
            intro hp
            rw [List.map_cons, List.pairwise_cons] at hp
            rw [List.map_cons, List.nodup_cons]
            refine ⟨fun hm => ?_, ih hp.2⟩
            obtain ⟨q2, hq2, e2⟩ := List.mem_map.mp hm
            obtain ⟨i, hi, ei⟩ := List.getElem_of_mem hq2
            obtain ⟨r2, hr2, p2⟩ := hr.at i (show ks[i]? = some q2 by rw [List.getElem?_eq_getElem hi, ei])
            refine hp.1 (r2.1, r2.2.1) (List.mem_map.mpr ⟨r2, List.mem_of_getElem? hr2, rfl⟩) ?_
            rw [e2] at p2
            exact h.symm.trans p2
        exact go h2 hap
      refine ⟨_, rfl, D, ks, rfl, SqL.of hks, fun q hq => st_of (hat q hq), by omega, diff, _, rfl, D, _, rfl, .inl (SqL.of hks), rfl, _, rfl, ?_⟩
      rw [List.length_map]
      exact iteNS rfl (k _ e)
end
end EV

set_option Elab.async false
set_option linter.all false
set_option maxRecDepth 100000
set_option maxHeartbeats 4000000
namespace EV
open PySem PySem.Spec PyProof.Rows L2 EvS Evl
/-- a new land of well formed parts -/
def sp_init (K : PySem.W.Frag) (C : Addr) : Sp := fun vs H Q _ => ∃ (H0 : Hp) (x dx wi pl li pa : Addr) (D : LandD) (rows prs : List V), vs = [.ref x, .ref wi, .ref pl, .ref li, .ref pa] ∧ Ex H0 H ∧ H0 x = none ∧ H x = some (.ins C dx []) ∧
  SqL K H0 wi (D.ws.map V.str) ∧ Seq2 K H0 pl (D.ps.map V.str) ∧ Seq2 K H0 li rows ∧ All2 (LinkIn K H0) rows D.ls ∧ Seq2 K H0 pa prs ∧ DpAll K H0 prs (D.pa.map dPath) ∧ LandOk D ∧ ∀ H', Ex H0 H' → IsLand K C H' x D → Q .non H'
theorem bare_ins {H : Hp} {x u : Addr} {C dx : Addr} {fs gs : List (Str × V)} {xs : List V} (h : H x = some (.ins C dx fs)) (b : TupX.Bare H u xs) : TupX.Bare (upd H x (.ins C dx gs)) u xs := by
  obtain ⟨o, h1, h2⟩ := b
  exact ⟨o, by rw [upd_ne (ne_of h1 h (by intro z; cases z))]; exact h1, h2⟩
section
variable {P : Program} {w : World} {K : PySem.W.Frag} {mg : Str → Option Value} {base : Heap} {a : Ad}
theorem G_init (T : Txt K mg a) : FnOk P w K mg base CX0 3 a.f_init a.d_init ["self", "winds", "places", "links", "paths"] (sp_init K a.C) := by
  refine T.F_init.ok sc_init (fun vs H Q E h => ?_) (fun cdv A outer s H vs Q E hr h => ?_)
  · obtain ⟨H0, x, dx, wi, pl, li, pa, D, rows, prs, rfl, _⟩ := h
    rfl
  · obtain ⟨H0, x, dx, wi, pl, li, pa, D, rows, prs, rfl, e0, x0, hx, hW, hP, hL, hLs, hA, hAs, ok, k⟩ := h
    have lw : (D.ws.map V.str).length = D.ws.length := List.length_map ..
    have lp : (D.ps.map V.str).length = D.ps.length := List.length_map ..
    have ll := hLs.len
    have la : prs.length = D.pa.length := by rw [dps_len hAs, List.length_map]
    have b1 := ok.w1
    have b2 := ok.w4
    have b3 := ok.p1
    have b4 := ok.p24
    have b5 := ok.l60
    have b6 := ok.a60
    refine ⟨_, (pss_cons (ps_expr (pe_call (G__check_count T) (hr.mono (by decide)) (by rfl) T.g__check_count T.k__check_count T.B__check_count .nil pass0 (pa_cons pe_str (pa_cons (pv 1) (pa_cons pe_int (pa_cons (pe_gI rfl T.c_MOST_WINDS) pa_nil))))))
      (pss_cons (ps_expr (pe_call (G__check_names T) (hr.mono (by decide)) (by rfl) T.g__check_names T.k__check_names T.B__check_names .nil pass0 (pa_cons pe_str (pa_cons (pv 1) pa_nil))))
      (pss_cons (ps_expr (pe_call (G__check_count T) (hr.mono (by decide)) (by rfl) T.g__check_count T.k__check_count T.B__check_count .nil pass0 (pa_cons pe_str (pa_cons (pv 2) (pa_cons pe_int (pa_cons (pe_gI rfl T.c_MOST_PLACES) pa_nil))))))
      (pss_cons (ps_expr (pe_call (G__check_names T) (hr.mono (by decide)) (by rfl) T.g__check_names T.k__check_names T.B__check_names .nil pass0 (pa_cons pe_str (pa_cons (pv 2) pa_nil))))
      (pss_cons (ps_expr (pe_call (G__check_count T) (hr.mono (by decide)) (by rfl) T.g__check_count T.k__check_count T.B__check_count .nil pass0 (pa_cons pe_str (pa_cons (pv 3) (pa_cons pe_int (pa_cons (pe_gI rfl T.c_MOST_LINKS) pa_nil))))))
      (pss_cons (ps_expr (pe_call (G__check_count T) (hr.mono (by decide)) (by rfl) T.g__check_count T.k__check_count T.B__check_count .nil pass0 (pa_cons pe_str (pa_cons (pv 4) (pa_cons pe_int (pa_cons (pe_gI rfl T.c_MOST_PATHS) pa_nil))))))
      (pss_cons (ps_fld (pv 0) (pe_callTy TupX.call_tupF (by rfl) T.z_tuple (by decide +kernel) (pa_cons (pv 1) pa_nil)) rfl)
      (pss_cons (ps_fld (pv 0) (pe_callTy call_tupS (by rfl) T.z_tuple (by decide +kernel) (pa_cons (pv 2) pa_nil)) rfl)
      (Evl.pss_cut (ps_fld (pv 0) (pe_callTy call_tupK (by rfl) T.z_tuple (by decide +kernel) (pa_cons (pe_lc (own := [("link", 5)]) (g := gName 5) (tt := tYes) rfl sc_init.nd (pi_or (pi_list (pv 3)) (pi_tup (pv 3))) (blkOk_by (N := ["self", "winds", "places", "links", "paths", "link", "path"]) (sc := defScope s_init) (by decide +kernel)) (fun _ _ _ _ _ => pg_name (i := 5) sc_init.nd rfl (Or.inl rfl)) (fun _ _ _ _ _ => pts_nil) (fun _ _ _ _ _ => (pe_call (G__as_link T) (hr.mono (by decide)) (by rfl) T.g__as_link T.k__as_link T.B__as_link .nil pass0 (pa_cons (pv 5) (pa_cons (show PE _ _ (tFld K (tVar 0) "winds") from pe_fld (pv 0) rfl) (pa_cons (show PE _ _ (tFld K (tVar 0) "places") from pe_fld (pv 0) rfl) pa_nil)))))) pa_nil)) rfl)
      (pss_cons (ps_expr (pe_call (G__check_names T) (hr.mono (by decide)) (by rfl) T.g__check_names T.k__check_names T.B__check_names .nil pass0 (pa_cons pe_str (pa_cons (pe_prop (pv 0) T.cl T.p_link_names (G_link_names T) (hr.mono (by decide)) T.B_link_names .nil pass0 rfl) pa_nil))))
      (Evl.pss_cut (ps_fld (pv 0) (pe_callTy call_tupK (by rfl) T.z_tuple (by decide +kernel) (pa_cons (pe_lc (own := [("path", 6)]) (g := gName 6) (tt := tYes) rfl sc_init.nd (pi_or (pi_list (pv 4)) (pi_tup (pv 4))) (blkOk_by (N := ["self", "winds", "places", "links", "paths", "link", "path"]) (sc := defScope s_init) (by decide +kernel)) (fun _ _ _ _ _ => pg_name (i := 6) sc_init.nd rfl (Or.inl rfl)) (fun _ _ _ _ _ => pts_nil) (fun _ _ _ _ _ => (pe_call (G__as_path T) (hr.mono (by decide)) (by rfl) T.g__as_path T.k__as_path T.B__as_path .nil pass0 (pa_cons (pv 6) (pa_cons (show PE _ _ (tFld K (tVar 0) "places") from pe_fld (pv 0) rfl) pa_nil))))) pa_nil)) rfl)
      (pss_one (ps_expr (pe_call (G__check_single_paths T) (hr.mono (by decide)) (by rfl) T.g__check_single_paths T.k__check_single_paths T.B__check_single_paths .nil pass0 (pa_cons (pe_fld (pv 0) rfl) pa_nil))))))))))))))), ?_⟩
    refine ⟨_, rfl, _, wi, _, _, _, rfl, .inl (ex_l e0 hW), by rw [lw]; omega, by rw [lw]; omega, ?_⟩
    refine ⟨_, rfl, _, wi, D.ws, rfl, .inl (ex_l e0 hW), by omega, ok.gw, fun H1 e1 => ?_⟩
    have f1 : Ex H0 H1 := e0.trans e1
    refine ⟨_, rfl, _, pl, _, _, _, rfl, hP.ex f1, by rw [lp]; omega, by rw [lp]; omega, ?_⟩
    refine ⟨_, rfl, _, pl, D.ps, rfl, hP.ex f1, by omega, ok.gp, fun H2 e2 => ?_⟩
    have f2 : Ex H0 H2 := f1.trans e2
    have hx2 : H2 x = some (.ins a.C dx []) := e2 _ _ (e1 _ _ hx)
    refine ⟨_, rfl, _, li, _, _, _, rfl, hL.ex f2, by omega, by omega, ?_⟩
    refine ⟨_, rfl, _, pa, _, _, _, rfl, hA.ex f2, by omega, by omega, ?_⟩
    -- self.winds
    refine ⟨_, rfl, wi, _, rfl, ex_l f2 hW, fun u H3 _ e3 hu => ?_⟩
    have hx3 := e3 _ _ hx2
    refine ⟨_, rfl, x, a.C, dx, [], rfl, hx3, T.cl, T.nW, by show 0 < 1000; decide, ?_⟩
    have ins_t : ∀ {H : Hp} {fs gs : List (Str × V)}, H x = some (.ins a.C dx fs) → ExT H (upd H x (.ins a.C dx gs)) := fun {H fs gs} h b xs r => by
      rcases r with r | ⟨o, r⟩
      · exact .inl (by rw [upd_ne (ne_of r h (by intro z; cases z))]; exact r)
      · exact .inr ⟨o, by rw [upd_ne (ne_of r h (by intro z; cases z))]; exact r⟩
    have f4 : Ex H0 (upd H3 x (.ins a.C dx (putF "winds" (.ref u) []))) := (f2.trans e3).mut x0
    have hu4 := bare_ins (gs := putF "winds" (.ref u) []) hx3 hu
    have hx4 : (upd H3 x (.ins a.C dx (putF "winds" (.ref u) []))) x = some (.ins a.C dx (putF "winds" (.ref u) [])) := upd_same
    generalize upd H3 x (.ins a.C dx (putF "winds" (.ref u) [])) = H4 at f4 hu4 hx4
    -- self.places
    refine ⟨_, rfl, pl, _, rfl, hP.ex f4, fun q H5 e5 hq => ?_⟩
    have hx5 := e5 _ _ hx4
    refine ⟨_, rfl, x, a.C, dx, _, rfl, hx5, T.cl, T.nP, by show 1 < 1000; decide, ?_⟩
    have f6 : Ex H0 (upd H5 x (.ins a.C dx (putF "places" (.ref q) (putF "winds" (.ref u) [])))) := (f4.trans e5).mut x0
    have hu6 := bare_ins (gs := putF "places" (.ref q) (putF "winds" (.ref u) [])) hx5 (hu4.ex e5)
    have hq6 := exT_t (ins_t (gs := putF "places" (.ref q) (putF "winds" (.ref u) [])) hx5) hq
    have hx6 : (upd H5 x (.ins a.C dx (putF "places" (.ref q) (putF "winds" (.ref u) [])))) x = some (.ins a.C dx (putF "places" (.ref q) (putF "winds" (.ref u) []))) := upd_same
    generalize upd H5 x (.ins a.C dx (putF "places" (.ref q) (putF "winds" (.ref u) []))) = H6 at f6 hu6 hq6 hx6
    have lkW : (putF "places" (.ref q) (putF "winds" (.ref u) [])).lookup ("winds" : Str) = some (V.ref u) := by
      rw [lookup_putF, if_neg (by decide +kernel), lookup_putF, if_pos rfl]
    have lkP : (putF "places" (.ref q) (putF "winds" (.ref u) [])).lookup ("places" : Str) = some (V.ref q) := by
      rw [lookup_putF, if_pos rfl]
    -- self.links
    refine ⟨fun σ H' => σ = [some (.ref x), some (.ref wi), some (.ref pl), some (.ref li), some (.ref pa), none, none] ∧ ∃ v made, Ex H0 H' ∧ H' x = some (.ins a.C dx (putF "links" (.ref v) (putF "places" (.ref q) (putF "winds" (.ref u) [])))) ∧ TupX.Bare H' u (D.ws.map V.str) ∧ SqT K H' q (D.ps.map V.str) ∧ SqT K H' v made ∧ DpAll K H' made (D.ls.map dLink), ?_, ?_⟩
    let Pv : Addr → Nat → Hp → Prop := fun D0 i H' => Ex H6 H' ∧ ∃ made, H' D0 = some (.lst made) ∧ made.length = i ∧ DpAll K H' made ((D.ls.take i).map dLink)
    have start : ∀ {D0 : Addr}, H6 D0 = none → Pv D0 0 (upd H6 D0 (.lst [])) := fun hD => ⟨Ex.new hD, [], upd_same, rfl, .nil⟩
    have turn : ∀ {D0 : Addr} (i : Nat) (y : V) (H' : Hp) (σ : L2.St), H6 D0 = none → rows[i]? = some y → Pv D0 i H' → σ[5]? = some (some y) → σ[0]? = some (some (.ref x)) →
        tCall (sp__as_link K) [] E0 (tCons (tVar 5) (tCons (tFld K (tVar 0) "winds") (tCons (tFld K (tVar 0) "places") tNil))) σ H' fun y H4 => ∃ acc, H4 D0 = some (.lst acc) ∧ acc.length < sizeLine ∧ Pv D0 (i + 1) (upd H4 D0 (.lst (acc ++ [y]))) := by
      rintro D0 i y H' σ hD hy ⟨e, made, hm, hl, hd⟩ s5 s0
      obtain ⟨k0, hk0, hin⟩ := hLs.at i hy
      have hil : i < rows.length := (List.getElem?_eq_some_iff.mp hy).1
      have hx' := e _ _ hx6
      refine ⟨y, s5, _, s0, x, a.C, dx, _, _, rfl, hx', T.cl, T.nW, lkW, _, s0, x, a.C, dx, _, _, rfl, hx', T.cl, T.nP, lkP, ?_⟩
      refine ⟨y, u, q, D.ws, D.ps, k0, rfl, hin.ex (f6.trans e), .inr (hu6.ex e).sq, .inr (ex_t e hq6), ok.lk k0 (List.mem_of_getElem? hk0), by omega, fun H8 t e8 ht hM => ⟨made, e8 _ _ hm, sz_lt (by omega), (e.trans e8).mut hD, _, upd_same, by rw [List.length_append, hl] <;> rfl, ?_⟩⟩
      rw [take_one hk0, List.map_append]
      exact dps_app (dps_exT (exT_mut (e8 _ _ hm)) (dps_ex e8 hd) (frozen_links _)) (dps_one (dp_exT (exT_mut (e8 _ _ hm)) hM (frozen_link _)))
    · have fin : ∀ {D0 : Addr} {H' : Hp}, Pv D0 rows.length H' → rTupK K [.ref D0] H' fun y H1 => tVar 0 [some (.ref x), some (.ref wi), some (.ref pl), some (.ref li), some (.ref pa), none, none] H1 fun x2 H2 => ∃ (b C2 d2 : Addr) (fs : List (Str × V)), x2 = .ref b ∧ H2 b = some (.ins C2 d2 fs) ∧ Cls K C2 ∧ NoAttr K C2 "links" ∧ fs.length < 1000 ∧
          ∃ v made, Ex H0 (upd H2 b (.ins C2 d2 (putF "links" y fs))) ∧ (upd H2 b (.ins C2 d2 (putF "links" y fs))) x = some (.ins a.C dx (putF "links" (.ref v) (putF "places" (.ref q) (putF "winds" (.ref u) [])))) ∧ TupX.Bare (upd H2 b (.ins C2 d2 (putF "links" y fs))) u (D.ws.map V.str) ∧ SqT K (upd H2 b (.ins C2 d2 (putF "links" y fs))) q (D.ps.map V.str) ∧ SqT K (upd H2 b (.ins C2 d2 (putF "links" y fs))) v made ∧ DpAll K (upd H2 b (.ins C2 d2 (putF "links" y fs))) made (D.ls.map dLink) := by
        rintro D0 H' ⟨e, made, hm, hl, hd⟩
        rw [ll, List.take_length] at hd
        refine ⟨D0, made, rfl, .inl ⟨SqL.of hm, fun v hv => ?_⟩⟩
        have e2 : Ex H6 (upd H' v (.tup made)) := e.trans (Ex.new hv)
        have hx' := e2 _ _ hx6
        refine ⟨_, rfl, x, a.C, dx, _, rfl, hx', T.cl, T.nL, by show 2 < 1000; decide, v, made, (f6.trans e2).mut x0, upd_same, bare_ins hx' (hu6.ex e2), exT_t (ins_t hx') (ex_t e2 hq6), exT_t (ins_t hx') (st_of upd_same), dps_exT (ins_t hx') (dps_ex (Ex.new hv) hd) (frozen_links _)⟩
      rcases hL.ex f6 with hL6 | hL6
      · refine .inl ⟨_, rfl, li, rfl, ⟨_, hL6⟩, fun D0 hD => lcY_list (K := K) (a := li) (xs := rows) (Pv D0) (start hD) (fun i H' _ p => ex_l p.1 hL6) (fun i y H' hi p => ⟨rfl, turn i y H' _ hD hi p rfl rfl⟩) (fun H' p => ?_)⟩
        obtain ⟨p0, ys, y1, y2⟩ := fin p
        refine ⟨p0, ys, y1, ?_⟩
        rcases y2 with ⟨z1, z2⟩ | ⟨z1, z2⟩
        · refine .inl ⟨z1, fun l hl => ?_⟩
          obtain ⟨c1, c2, c3, c4, c5, c6, c7, c8, c9, c10, c11, c12⟩ := z2 l hl
          exact ⟨c1, c2, c3, c4, c5, c6, c7, c8, c9, c10, c11, rfl, c12⟩
        · obtain ⟨c1, c2, c3, c4, c5, c6, c7, c8, c9, c10, c11, c12⟩ := z2
          exact .inr ⟨z1, c1, c2, c3, c4, c5, c6, c7, c8, c9, c10, c11, rfl, c12⟩
      · refine .inr ⟨_, rfl, li, rfl, ⟨_, hL6⟩, fun D0 hD => lcY_tup (K := K) (a := li) (xs := rows) (Pv D0) (start hD) (fun i H' _ p => ex_t p.1 hL6) (fun i y H' hi p => ⟨rfl, turn i y H' _ hD hi p rfl rfl⟩) (fun H' p => ?_)⟩
        obtain ⟨p0, ys, y1, y2⟩ := fin p
        refine ⟨p0, ys, y1, ?_⟩
        rcases y2 with ⟨z1, z2⟩ | ⟨z1, z2⟩
        · refine .inl ⟨z1, fun l hl => ?_⟩
          obtain ⟨c1, c2, c3, c4, c5, c6, c7, c8, c9, c10, c11, c12⟩ := z2 l hl
          exact ⟨c1, c2, c3, c4, c5, c6, c7, c8, c9, c10, c11, rfl, c12⟩
        · obtain ⟨c1, c2, c3, c4, c5, c6, c7, c8, c9, c10, c11, c12⟩ := z2
          exact .inr ⟨z1, c1, c2, c3, c4, c5, c6, c7, c8, c9, c10, c11, rfl, c12⟩
    rintro σ H7 ⟨rfl, v, made, f7, hx7, hu7, hq7, hv7, hM7⟩
    have lkL : (putF "links" (.ref v) (putF "places" (.ref q) (putF "winds" (.ref u) []))).lookup ("links" : Str) = some (V.ref v) := by
      rw [lookup_putF, if_pos rfl]
    -- _check_names('links', self.link_names)
    refine ⟨_, rfl, x, dx, _, rfl, hx7, x, dx, _, v, made, D.ls, rfl, hx7, lkL, hv7, hM7, by omega, fun H8 t e8 ht hT => ?_⟩
    refine ⟨_, t, D.ls.map (·.n), rfl, .inr (st_of hT), by rw [List.length_map]; omega, ok.gl, fun H9 e9 => ?_⟩
    have f9 : Ex H0 H9 := (f7.trans e8).trans e9
    have hx9 := e9 _ _ (e8 _ _ hx7)
    have hu9 := (hu7.ex e8).ex e9
    have hq9 := ex_t e9 (ex_t e8 hq7)
    have hv9 := ex_t e9 (ex_t e8 hv7)
    have hM9 := dps_ex e9 (dps_ex e8 hM7)
    -- self.paths
    refine ⟨fun σ H' => σ = [some (.ref x), some (.ref wi), some (.ref pl), some (.ref li), some (.ref pa), none, none] ∧ ∃ y prs', Ex H0 H' ∧ LandAt K a.C H' x D dx u q v y made prs', ?_, ?_⟩
    · let Pw : Addr → Nat → Hp → Prop := fun D0 i H' => Ex H9 H' ∧ ∃ got, H' D0 = some (.lst got) ∧ got.length = i ∧ DpAll K H' got ((D.pa.take i).map dPath)
      have start : ∀ {D0 : Addr}, H9 D0 = none → Pw D0 0 (upd H9 D0 (.lst [])) := fun hD => ⟨Ex.new hD, [], upd_same, rfl, .nil⟩
      have lkP9 : (putF "links" (.ref v) (putF "places" (.ref q) (putF "winds" (.ref u) []))).lookup ("places" : Str) = some (V.ref q) := by
        rw [lookup_putF, if_neg (by decide +kernel), lookup_putF, if_pos rfl]
      have turn : ∀ {D0 : Addr} (i : Nat) (y : V) (H' : Hp) (σ : L2.St), H9 D0 = none → prs[i]? = some y → Pw D0 i H' → σ[6]? = some (some y) → σ[0]? = some (some (.ref x)) →
          tCall (sp__as_path K) [] E0 (tCons (tVar 6) (tCons (tFld K (tVar 0) "places") tNil)) σ H' fun y H4 => ∃ acc, H4 D0 = some (.lst acc) ∧ acc.length < sizeLine ∧ Pw D0 (i + 1) (upd H4 D0 (.lst (acc ++ [y]))) := by
        rintro D0 i y H' σ hD hy ⟨e, got, hm, hl, hd⟩ s6 s0
        obtain ⟨d, hd1, hd2⟩ := dps_at hAs hy
        have hil : i < prs.length := (List.getElem?_eq_some_iff.mp hy).1
        obtain ⟨b, hb⟩ : ∃ b, D.pa[i]? = some b := ⟨D.pa[i]'(by omega), List.getElem?_eq_getElem (by omega)⟩
        rw [List.getElem?_map, hb] at hd1
        obtain rfl : dPath b = d := Option.some.inj hd1
        refine ⟨y, s6, _, s0, x, a.C, dx, _, _, rfl, e _ _ hx9, T.cl, T.nP, lkP9, ?_⟩
        refine ⟨y, q, D.ps, b, rfl, dp_ex (f9.trans e) hd2, .inr (ex_t e hq9), ok.pt b (List.mem_of_getElem? hb), fun H8 t e8 ht hM => ⟨got, e8 _ _ hm, sz_lt (by omega), (e.trans e8).mut hD, _, upd_same, by rw [List.length_append, hl] <;> rfl, ?_⟩⟩
        rw [take_one hb, List.map_append]
        exact dps_app (dps_exT (exT_mut (e8 _ _ hm)) (dps_ex e8 hd) (frozen_paths _)) (dps_one (dp_exT (exT_mut (e8 _ _ hm)) hM (frozen_path _)))
      have fin : ∀ {D0 : Addr} {H' : Hp}, Pw D0 prs.length H' → ∃ got, H' D0 = some (.lst got) ∧ ∀ y, H' y = none → (upd H' y (.tup got)) x = some (.ins a.C dx (putF "links" (.ref v) (putF "places" (.ref q) (putF "winds" (.ref u) [])))) ∧
          ∃ y2 prs', Ex H0 (upd (upd H' y (.tup got)) x (.ins a.C dx (landFs u q v y))) ∧ LandAt K a.C (upd (upd H' y (.tup got)) x (.ins a.C dx (landFs u q v y))) x D dx u q v y2 made prs' := by
        rintro D0 H' ⟨e, got, hm, hl, hd⟩
        rw [la, List.take_length] at hd
        refine ⟨got, hm, fun y hy => ?_⟩
        have e2 : Ex H9 (upd H' y (.tup got)) := e.trans (Ex.new hy)
        have hx' := e2 _ _ hx9
        exact ⟨hx', y, got, (f9.trans e2).mut x0, upd_same, bare_ins hx' (hu9.ex e2), exT_t (ins_t hx') (ex_t e2 hq9), exT_t (ins_t hx') (ex_t e2 hv9), dps_exT (ins_t hx') (dps_ex e2 hM9) (frozen_links _), exT_t (ins_t hx') (st_of upd_same), dps_exT (ins_t hx') (dps_ex (Ex.new hy) hd) (frozen_paths _)⟩
      rcases hA.ex f9 with hA9 | hA9
      · refine .inl ⟨_, rfl, pa, rfl, ⟨_, hA9⟩, fun D0 hD => lcY_list (K := K) (a := pa) (xs := prs) (Pw D0) (start hD) (fun i H' _ p => ex_l p.1 hA9) (fun i y H' hi p => ⟨rfl, turn i y H' _ hD hi p rfl rfl⟩) (fun H' p => ?_)⟩
        obtain ⟨got, hm, z⟩ := fin p
        refine ⟨D0, got, rfl, .inl ⟨SqL.of hm, fun y hy => ?_⟩⟩
        obtain ⟨hx', z2⟩ := z y hy
        exact ⟨_, rfl, x, a.C, dx, _, rfl, hx', T.cl, T.nA, by show 3 < 1000; decide, rfl, z2⟩
      · refine .inr ⟨_, rfl, pa, rfl, ⟨_, hA9⟩, fun D0 hD => lcY_tup (K := K) (a := pa) (xs := prs) (Pw D0) (start hD) (fun i H' _ p => ex_t p.1 hA9) (fun i y H' hi p => ⟨rfl, turn i y H' _ hD hi p rfl rfl⟩) (fun H' p => ?_)⟩
        obtain ⟨got, hm, z⟩ := fin p
        refine ⟨D0, got, rfl, .inl ⟨SqL.of hm, fun y hy => ?_⟩⟩
        obtain ⟨hx', z2⟩ := z y hy
        exact ⟨_, rfl, x, a.C, dx, _, rfl, hx', T.cl, T.nA, by show 3 < 1000; decide, rfl, z2⟩
    rintro σ H10 ⟨rfl, y, prs', f10, L⟩
    refine ⟨_, rfl, x, a.C, dx, _, _, rfl, L.ob, T.cl, T.nA, fs_paths u q v y, y, prs', D.pa, rfl, L.pa, L.ps, ok.a60, ok.ap, fun H11 e11 => ?_⟩
    exact k H11 (f10.trans e11) (IsLand.ex e11 ⟨dx, u, q, v, y, made, prs', L⟩)
/-- which of __init__'s parameters a call names -/
theorem kb_wplp (T : Txt K mg a) : ∃ mv : List Value, KBn K a.d_init ["self", "winds", "places", "links", "paths"] 1 ["winds", "places", "links", "paths"] (fun us ws => us ++ (ws ++ mv)) (fun vs zs => vs ++ (zs ++ [])) :=
  T.F_init.kbinds0 (ps := ["self", "winds", "places", "links", "paths"]) 1 ["winds", "places", "links", "paths"] [] (fun us mv ws => us ++ (ws ++ mv)) (by simp) (fun q hq => by cases hq) (fun r1 r2 r3 => r1.append (r3.append r2))
    (fun D doc pm an cdv ct us mv ws h1 h2 h3 => match us, mv, ws, h1, h2, h3 with
      | [_], [], [_, _, _, _], _, _, _ => rfl)
theorem vals_take : ∀ {vs : List V} {us : List Value} (n : Nat), Vals vs us → Vals (vs.take n) (us.take n)
  | _, _, 0, _ => .nil
  | _, _, _ + 1, .nil => .nil
  | _, _, n + 1, .cons h r => .cons h (vals_take n r)
def turned {α : Type} (l : List α) : List α := (l.drop 2).take 1 ++ (l.take 1 ++ (l.drop 3 ++ (l.drop 1).take 1))
theorem kb_ppwl (T : Txt K mg a) : ∃ mv : List Value, KBn K a.d_init ["self", "winds", "places", "links", "paths"] 1 ["places", "paths", "winds", "links"] (fun us ws => us ++ (turned ws ++ mv)) (fun vs zs => vs ++ (turned zs ++ [])) :=
  T.F_init.kbinds0 (ps := ["self", "winds", "places", "links", "paths"]) 1 ["places", "paths", "winds", "links"] [] (fun us mv ws => us ++ (turned ws ++ mv)) (by simp) (fun q hq => by cases hq)
    (fun r1 r2 r3 => r1.append (((vals_take 1 (r3.drop 2)).append ((vals_take 1 r3).append ((r3.drop 3).append (vals_take 1 (r3.drop 1))))).append r2))
    (fun D doc pm an cdv ct us mv ws h1 h2 h3 => match us, mv, ws, h1, h2, h3 with
      | [_], [], [_, _, _, _], _, _, _ => rfl)
theorem kb_wp (T : Txt K mg a) : ∃ mv : List Value, KBn K a.d_init ["self", "winds", "places", "links", "paths"] 1 ["winds", "places"] (fun us ws => us ++ (ws ++ mv)) (fun vs zs => vs ++ (zs ++ [.ref a.tl, .ref a.te])) :=
  T.F_init.kbinds0 (ps := ["self", "winds", "places", "links", "paths"]) 1 ["winds", "places"] [("links", .ref a.tl), ("paths", .ref a.te)] (fun us mv ws => us ++ (ws ++ mv)) (by simp) (fun q hq => by simpa using hq) (fun r1 r2 r3 => r1.append (r3.append r2))
    (fun D doc pm an cdv ct us mv ws h1 h2 h3 => match us, mv, ws, h1, h2, h3 with
      | [_], [_, _], [_, _], _, _, _ => ⟨_, _, _, _, _, _, rfl, rfl, _, _, _, _, _, _, rfl, rfl, rfl⟩)
end
end EV

set_option Elab.async false
set_option linter.all false
set_option maxRecDepth 100000
set_option maxHeartbeats 4000000
namespace EV
open PySem PySem.Spec PyProof.Rows L2 EvS Evl
theorem num_in {ks : List Int} {i : Int} (h0 : 0 ≤ i) (h : i < ks.length) : ∃ n, n ∈ ks ∧ atI (ks.map V.int) i = some (.int n) ∧ n = ks.getD i.toNat 0 := by
  have hl : i.toNat < ks.length := by omega
  have e : ks[i.toNat]? = some ks[i.toNat] := List.getElem?_eq_getElem hl
  have z : atI (ks.map V.int) ((i.toNat : Nat) : Int) = some (.int ks[i.toNat]) := atI_nat (by rw [List.getElem?_map, e] <;> rfl)
  rw [show ((i.toNat : Nat) : Int) = i by omega] at z
  exact ⟨ks[i.toNat], List.getElem_mem hl, z, by rw [List.getD_eq_getElem?_getD, e] <;> rfl⟩
theorem at3 {α : Type} {x y z : α} {i : Int} (h0 : 0 ≤ i) (h : i < 3) : ∃ v, atI [x, y, z] i = some v ∧ (v = x ∨ v = y ∨ v = z) := by
  have c : i = 0 ∨ i = 1 ∨ i = 2 := by omega
  rcases c with rfl | rfl | rfl
  · exact ⟨x, atI_nat (j := 0) rfl, .inl rfl⟩
  · exact ⟨y, atI_nat (j := 1) rfl, .inr (.inl rfl)⟩
  · exact ⟨z, atI_nat (j := 2) rfl, .inr (.inr rfl)⟩
theorem at4 {α : Type} {x y z u : α} {i : Int} (h0 : 0 ≤ i) (h : i < 4) : ∃ v, atI [x, y, z, u] i = some v ∧ (v = x ∨ v = y ∨ v = z ∨ v = u) := by
  have c : i = 0 ∨ i = 1 ∨ i = 2 ∨ i = 3 := by omega
  rcases c with rfl | rfl | rfl | rfl
  · exact ⟨x, atI_nat (j := 0) rfl, .inl rfl⟩
  · exact ⟨y, atI_nat (j := 1) rfl, .inr (.inl rfl)⟩
  · exact ⟨z, atI_nat (j := 2) rfl, .inr (.inr (.inl rfl))⟩
  · exact ⟨u, atI_nat (j := 3) rfl, .inr (.inr (.inr rfl))⟩
/-- the drawn numbers -/
structure Nums (K : PySem.W.Frag) (H : Hp) (p : Addr) (ks : List Int) : Prop where
  at_ : SqL K H p (ks.map V.int)
  sm : Small ks
  lo : 90 ≤ ks.length
  hi : ks.length ≤ 1000
theorem Nums.ex {K : PySem.W.Frag} {H H' : Hp} {p : Addr} {ks : List Int} (e : Ex H H') (h : Nums K H p ks) : Nums K H' p ks := ⟨ex_l e h.at_, h.sm, h.lo, h.hi⟩
def sp__law_pick (K : PySem.W.Frag) : Sp := fun vs H Q _ => ∃ (p : Addr) (ks : List Int) (k : Int), vs = [.ref p, .int k] ∧ Nums K H p ks ∧ 0 ≤ k ∧ ∀ v, 0 ≤ v → Q (.int v) H
def sp__law_count : Sp := fun vs H Q _ => ∃ n lo hi : Int, vs = [.int n, .int lo, .int hi] ∧ lo ≤ hi ∧ ∀ v, lo ≤ v → v ≤ hi → Q (.int v) H
def sp__law_times (K : PySem.W.Frag) : Sp := fun vs H Q _ => ∃ (p : Addr) (ks : List Int) (k m : Int), vs = [.ref p, .int k, .int m] ∧ Nums K H p ks ∧ 0 ≤ k ∧ 0 ≤ m ∧ m ≤ 1000 ∧
  ∀ H' u us (ts : List (Option (Int × Int))), Ex H H' → H u = none → H' u = some (.lst us) → DpAll K H' us (ts.map dTime) → (ts.length : Int) = m → (∀ b ∈ ts, TimeOk b) → Q (.ref u) H'
section
variable {P : Program} {w : World} {K : PySem.W.Frag} {mg : Str → Option Value} {base : Heap} {a : Ad}
end
end EV

set_option Elab.async false
set_option linter.all false
set_option maxRecDepth 100000
set_option maxHeartbeats 4000000
namespace EV
open PySem PySem.Spec PyProof.Rows L2 EvS Evl
/-! ### names as the law makes them -/
def CH : List Nat := ("abcdefghijklmnopqrstuvwxyz0123456789" : Str).cps.toList
def chAt (i : Int) : Nat := CH.getD i.toNat 0
theorem ch_len : CH.length = 36 := by decide +kernel
theorem ch_slen : ("abcdefghijklmnopqrstuvwxyz0123456789" : Str).length = 36 := by decide +kernel
theorem ch_get {i : Int} (h0 : 0 ≤ i) (h : i < 36) : atI CH i = some (chAt i) := by
  have hl : i.toNat < CH.length := by rw [ch_len]; omega
  have z := atI_nat (xs := CH) (j := i.toNat) (List.getElem?_eq_getElem hl)
  rw [show ((i.toNat : Nat) : Int) = i by omega] at z
  rw [z]
  unfold chAt
  rw [List.getD_eq_getElem?_getD, List.getElem?_eq_getElem hl]
  rfl
theorem ch_all : ∀ i, i < 36 → okSign (CH.getD i 0) = true := by decide +kernel
theorem ch_let : ∀ i, i < 26 → decide (CH.getD i 0 ∈ LETS) = true := by decide +kernel
theorem ch_inj : ∀ i, i < 36 → ∀ j, j < 36 → CH.getD i 0 = CH.getD j 0 → i = j := by decide +kernel
theorem chAt_ok {i : Int} (h0 : 0 ≤ i) (h : i < 36) : okSign (chAt i) = true := ch_all i.toNat (by omega)
theorem chAt_let {i : Int} (h0 : 0 ≤ i) (h : i < 26) : chAt i ∈ LETS := of_decide_eq_true (ch_let i.toNat (by omega))
theorem chAt_inj {i j : Int} (h0 : 0 ≤ i) (h : i < 36) (k0 : 0 ≤ j) (k : j < 36) (e : chAt i = chAt j) : i = j := by
  have := ch_inj i.toNat (by omega) j.toNat (by omega) e
  omega
theorem m36 (x : Int) : 0 ≤ x % 36 ∧ x % 36 < 36 := ⟨Int.emod_nonneg _ (by decide), Int.emod_lt_of_pos _ (by decide)⟩
def bas (ks : List Int) (at_ : Nat) : Nat := if ks.getD 1 0 % 5 = 1 then 2 else at_
def preN (ks : List Int) (b n : Nat) : List Nat := chAt (ks.getD b 0 % 26) :: (List.range n).map fun (k : Nat) => chAt ((ks.getD (b + 2) 0 + (k : Int) * ks.getD (b + 3) 0) % 36)
def pre (ks : List Int) (b : Nat) : List Nat := preN ks b (ks.getD (b + 1) 0 % 10).toNat
def plc (ks : List Int) (b : Nat) : Nat := (1 + (ks.getD (b + 4) 0).fmod (((pre ks b).length : Nat) : Int)).toNat
def tailN (k : Nat) : List Nat := if 36 ≤ k then [113] else []
def codes (ks : List Int) (b k : Nat) : List Nat := (pre ks b).take (plc ks b) ++ ([chAt ((ks.getD (b + 5) 0 + 5 * (k : Int)) % 36)] ++ (tailN k ++ (pre ks b).drop (plc ks b)))
def nameOf (ks : List Int) (at_ k : Nat) : Str := ⟨(codes ks (bas ks at_) k).toArray⟩
def names (ks : List Int) (at_ m : Nat) : List Str := (List.range m).map (nameOf ks at_)
theorem pre_len (ks : List Int) (b : Nat) : 1 ≤ (pre ks b).length ∧ (pre ks b).length ≤ 10 := by
  unfold pre preN
  rw [List.length_cons, List.length_map, List.length_range]
  have := Int.emod_nonneg (ks.getD (b + 1) 0) (show (10 : Int) ≠ 0 by decide)
  have := Int.emod_lt_of_pos (ks.getD (b + 1) 0) (show (0 : Int) < 10 by decide)
  omega
theorem plc_le (ks : List Int) (b : Nat) : 1 ≤ plc ks b ∧ plc ks b ≤ (pre ks b).length := by
  have h := pre_len ks b
  have p : (0 : Int) < (((pre ks b).length : Nat) : Int) := by omega
  have := Int.fmod_nonneg_of_pos (ks.getD (b + 4) 0) p
  have := Int.fmod_lt_of_pos (ks.getD (b + 4) 0) p
  unfold plc
  omega
theorem pre_ok (ks : List Int) (b : Nat) : ∀ c ∈ pre ks b, okSign c = true := by
  intro c hc
  unfold pre preN at hc
  rcases List.mem_cons.mp hc with e | hc
  · rw [e]
    have := Int.emod_lt_of_pos (ks.getD b 0) (show (0 : Int) < 26 by decide)
    exact chAt_ok (Int.emod_nonneg _ (by decide)) (by omega)
  · obtain ⟨k, _, rfl⟩ := List.mem_map.mp hc
    exact chAt_ok (m36 _).1 (m36 _).2
theorem tail_len (k : Nat) : (tailN k).length = if 36 ≤ k then 1 else 0 := by
  unfold tailN
  split <;> rfl
theorem codes_len (ks : List Int) (b k : Nat) : (codes ks b k).length = (pre ks b).length + 1 + if 36 ≤ k then 1 else 0 := by
  have h := plc_le ks b
  unfold codes
  rw [List.length_append, List.length_append, List.length_append, List.length_take, List.length_drop, tail_len, List.length_singleton]
  omega
theorem name_ok (ks : List Int) (at_ k : Nat) : isName (nameOf ks at_ k) = true := by
  have hl := codes_len ks (bas ks at_) k
  have hp := pre_len ks (bas ks at_)
  have hq := plc_le ks (bas ks at_)
  have len : (nameOf ks at_ k).length = (codes ks (bas ks at_) k).length := by
    show (codes ks (bas ks at_) k).toArray.size = _
    rw [List.size_toArray]
  have lst : (nameOf ks at_ k).cps.toList = codes ks (bas ks at_) k := rfl
  unfold isName
  rw [lst, len, Bool.and_eq_true, Bool.and_eq_true]
  refine ⟨⟨decide_eq_true ⟨by omega, by rw [hl]; split <;> omega⟩, ?_⟩, ?_⟩
  · obtain ⟨m, hm⟩ : ∃ m, plc ks (bas ks at_) = m + 1 := ⟨plc ks (bas ks at_) - 1, by omega⟩
    have e : (codes ks (bas ks at_) k).head? = some (chAt (ks.getD (bas ks at_) 0 % 26)) := by
      unfold codes
      rw [hm]
      unfold pre preN
      rfl
    rw [e]
    exact decide_eq_true (chAt_let (Int.emod_nonneg _ (by decide)) (Int.emod_lt_of_pos _ (by decide)))
  · rw [List.all_eq_true]
    intro c hc
    unfold codes at hc
    rcases List.mem_append.mp hc with z | z
    · exact pre_ok _ _ c (List.mem_of_mem_take z)
    rcases List.mem_append.mp z with z | z
    · rw [List.mem_singleton.mp z]
      exact chAt_ok (m36 _).1 (m36 _).2
    rcases List.mem_append.mp z with z | z
    · unfold tailN at z
      split at z
      · rw [List.mem_singleton.mp z]
        decide +kernel
      · cases z
    · exact pre_ok _ _ c (List.mem_of_mem_drop z)
theorem name_inj (ks : List Int) (at_ : Nat) {i j : Nat} (hi : i < 72) (hj : j < 72) (e : nameOf ks at_ i = nameOf ks at_ j) : i = j := by
  have ec : codes ks (bas ks at_) i = codes ks (bas ks at_) j := by
    have z := congrArg (fun s : Str => s.cps.toList) e
    exact z
  have hl := congrArg List.length ec
  rw [codes_len, codes_len] at hl
  have hb : (36 ≤ i) ↔ (36 ≤ j) := by
    constructor
    · intro h
      rw [if_pos h] at hl
      by_cases q : 36 ≤ j
      · exact q
      · rw [if_neg q] at hl
        omega
    · intro h
      rw [if_pos h] at hl
      by_cases q : 36 ≤ i
      · exact q
      · rw [if_neg q] at hl
        omega
  have ht := plc_le ks (bas ks at_)
  have lt : ((pre ks (bas ks at_)).take (plc ks (bas ks at_))).length = plc ks (bas ks at_) := by
    rw [List.length_take]
    omega
  have gi : ∀ k, (codes ks (bas ks at_) k)[plc ks (bas ks at_)]? = some (chAt ((ks.getD (bas ks at_ + 5) 0 + 5 * (k : Int)) % 36)) := fun k => by
    unfold codes
    rw [List.getElem?_append_right (by omega), lt, Nat.sub_self]
    rfl
  have z := gi i
  rw [ec, gi j] at z
  have y := chAt_inj (m36 _).1 (m36 _).2 (m36 _).1 (m36 _).2 (Option.some.inj z)
  omega
theorem names_good (ks : List Int) (at_ : Nat) {m : Nat} (h : m ≤ 72) : Good (names ks at_ m) := by
  refine ⟨fun n hn => ?_, ?_⟩
  · obtain ⟨k, _, rfl⟩ := List.mem_map.mp hn
    exact name_ok ks at_ k
  · unfold names
    refine List.pairwise_map.mpr (List.Pairwise.imp_of_mem (fun ha hb ne e => ?_) (List.nodup_range (n := m)))
    have h1 := List.mem_range.mp ha
    have h2 := List.mem_range.mp hb
    exact ne (name_inj ks at_ (by omega) (by omega) e)
theorem names_len (ks : List Int) (at_ m : Nat) : (names ks at_ m).length = m := by
  unfold names
  rw [List.length_map, List.length_range]
theorem names_more (ks : List Int) (at_ m : Nat) : names ks at_ (m + 1) = names ks at_ m ++ [nameOf ks at_ m] := by
  unfold names
  rw [List.range_succ, List.map_append]
  rfl
/-! texts by their codes -/
abbrev tx (l : List Nat) : Str := ⟨l.toArray⟩
theorem tx_add (l m : List Nat) : tx l ++ tx m = tx (l ++ m) := Str.ext' (by rw [Str.cps_append]; simp)
theorem tx_one (c : Nat) : (⟨#[c]⟩ : Str) = tx [c] := rfl
theorem tx_len (l : List Nat) : (tx l).length = l.length := by
  show l.toArray.size = _
  rw [List.size_toArray]
theorem tx_to (l : List Nat) (n : Nat) : cutS (tx l) none (some (n : Int)) = tx (l.take n) := by
  have e : (tx l).cps.toList = l := rfl
  unfold cutS
  rw [HT.sIx_nat, HT.sIx_none, e, tx_len, List.drop_zero, Nat.sub_zero]
  rcases Nat.le_total n l.length with h | h
  · rw [Nat.min_eq_left h]
  · rw [Nat.min_eq_right h, List.take_length, List.take_of_length_le h]
theorem tx_from (l : List Nat) (n : Nat) : cutS (tx l) (some (n : Int)) none = tx (l.drop n) := by
  have e : (tx l).cps.toList = l := rfl
  unfold cutS
  rw [HT.sIx_nat, HT.sIx_none, e, tx_len]
  rcases Nat.le_total n l.length with h | h
  · rw [Nat.min_eq_left h, List.take_of_length_le (by rw [List.length_drop]; exact Nat.le_refl _)]
  · rw [Nat.min_eq_right h, List.drop_length, List.drop_eq_nil_of_le h, List.take_nil]
theorem one_len (c : Nat) : (⟨#[c]⟩ : Str).length = 1 := rfl
def sp__law_names (K : PySem.W.Frag) : Sp := fun vs H Q _ => ∃ (p : Addr) (ks : List Int) (at_ m : Nat), vs = [.ref p, .int (at_ : Int), .int (m : Int)] ∧ Nums K H p ks ∧ 2 ≤ at_ ∧ at_ ≤ 100 ∧ m ≤ 72 ∧
  ∀ H' q, Ex H H' → H q = none → H' q = some (.lst ((names ks at_ m).map V.str)) → Q (.ref q) H'
section
variable {P : Program} {w : World} {K : PySem.W.Frag} {mg : Str → Option Value} {base : Heap} {a : Ad}
end
end EV

set_option Elab.async false
set_option linter.all false
set_option maxRecDepth 100000
set_option maxHeartbeats 4000000
namespace EV
open PySem PySem.Spec PyProof.Rows L2 EvS Evl
/-! ### a heap without one place -/
def del (H : Hp) (D : Addr) : Hp := fun a => if a = D then none else H a
theorem del_upd {H : Hp} {D : Addr} {o : HO} : del (upd H D o) D = del H D := by
  funext a
  unfold del
  by_cases h : a = D
  · rw [if_pos h, if_pos h]
  · rw [if_neg h, if_neg h, upd_ne h]
theorem del_ex {H : Hp} {D : Addr} : Ex (del H D) H := fun a o h => by
  unfold del at h
  split at h
  · cases h
  · exact h
theorem ex_del {H H' : Hp} {D : Addr} (e : Ex H H') : Ex (del H D) (del H' D) := fun a o h => by
  unfold del at h ⊢
  split at h
  · cases h
  · rename_i n
    rw [if_neg n]
    exact e _ _ h
theorem ex_to_del {H H' : Hp} {D : Addr} (e : Ex H H') (h : H D = none) : Ex H (del H' D) := fun a o q => by
  unfold del
  rw [if_neg (ne_of_none q h)]
  exact e _ _ q
theorem del_at {H : Hp} {D a : Addr} {o : HO} (n : a ≠ D) (h : H a = some o) : del H D a = some o := by
  unfold del
  rw [if_neg n]
  exact h
theorem dps_drop {K : PySem.W.Frag} {H : Hp} : ∀ {vs : List V} {ds : List PyData} (n : Nat), DpAll K H vs ds → DpAll K H (vs.drop n) (ds.drop n)
  | _, _, 0, h => h
  | _, _, _ + 1, .nil => .nil
  | _, _, n + 1, .cons _ r => dps_drop n r
theorem dps_take {K : PySem.W.Frag} {H : Hp} : ∀ {vs : List V} {ds : List PyData} (n : Nat), DpAll K H vs ds → DpAll K H (vs.take n) (ds.take n)
  | _, _, 0, _ => .nil
  | _, _, _ + 1, .nil => .nil
  | _, _, n + 1, .cons h r => .cons h (dps_take n r)
theorem cut_from (xs : List V) (n : Nat) : cutV xs (some (n : Int)) none = xs.drop n := by
  unfold cutV
  rw [HT.sIx_nat, HT.sIx_none]
  rcases Nat.le_total n xs.length with h | h
  · rw [Nat.min_eq_left h, List.take_of_length_le (by rw [List.length_drop]; exact Nat.le_refl _)]
  · rw [Nat.min_eq_right h, List.drop_length, List.drop_eq_nil_of_le h, List.take_nil]
theorem cut_to (xs : List V) (n : Nat) : cutV xs none (some (n : Int)) = xs.take n := by
  unfold cutV
  rw [HT.sIx_nat, HT.sIx_none, List.drop_zero, Nat.sub_zero]
  rcases Nat.le_total n xs.length with h | h
  · rw [Nat.min_eq_left h]
  · rw [Nat.min_eq_right h, List.take_length, List.take_of_length_le h]
/-! ### pairs of places, by their numbers -/
def dIdx (ps : List Str) (q : Nat × Nat) : PyData := .tuple [.str (ps.getD q.1 ""), .str (ps.getD q.2 "")]
theorem getD_in {ps : List Str} {i : Nat} (h : i < ps.length) : ps.getD i "" ∈ ps ∧ ps[i]? = some (ps.getD i "") := by
  rw [List.getD_eq_getElem?_getD, List.getElem?_eq_getElem h]
  exact ⟨List.getElem_mem h, rfl⟩
theorem getD_inj {ps : List Str} (nd : ps.Nodup) {i j : Nat} (hi : i < ps.length) (hj : j < ps.length) (e : ps.getD i "" = ps.getD j "") : i = j := by
  rw [List.getD_eq_getElem?_getD, List.getElem?_eq_getElem hi, List.getD_eq_getElem?_getD, List.getElem?_eq_getElem hj] at e
  rcases Nat.lt_trichotomy i j with h | h | h
  · exact absurd e (List.pairwise_iff_getElem.mp nd i j hi hj h)
  · exact h
  · exact absurd e.symm (List.pairwise_iff_getElem.mp nd j i hj hi h)
theorem idx_ne {ps : List Str} (nd : ps.Nodup) {q r : Nat × Nat} (hq : q.1 < q.2 ∧ q.2 < ps.length) (hr : r.1 < r.2 ∧ r.2 < ps.length) (ne : q ≠ r) : ¬ [ps.getD q.1 "", ps.getD q.2 ""].Perm [ps.getD r.1 "", ps.getD r.2 ""] := fun p => by
  have inj := fun {i j : Nat} (hi : i < ps.length) (hj : j < ps.length) e => getD_inj nd hi hj e
  have h1 : q.1 = r.1 ∨ q.1 = r.2 := by
    have z := p.mem_iff.mp (List.mem_cons_self : ps.getD q.1 "" ∈ _)
    rcases List.mem_cons.mp z with z | z
    · exact .inl (inj (by omega) (by omega) z)
    · exact .inr (inj (by omega) (by omega) (List.mem_singleton.mp z))
  have h2 : q.2 = r.1 ∨ q.2 = r.2 := by
    have z := p.mem_iff.mp (List.mem_cons_of_mem _ (List.mem_singleton.mpr rfl) : ps.getD q.2 "" ∈ [ps.getD q.1 "", ps.getD q.2 ""])
    rcases List.mem_cons.mp z with z | z
    · exact .inl (inj (by omega) (by omega) z)
    · exact .inr (inj (by omega) (by omega) (List.mem_singleton.mp z))
  refine ne (Prod.ext ?_ ?_) <;> omega
theorem idx_apart {ps : List Str} (nd : ps.Nodup) {I : List (Nat × Nat)} : ∀ {pa : List (Str × Str × Int)}, I.Nodup → (∀ q ∈ I, q.1 < q.2 ∧ q.2 < ps.length) → All2 (fun (x : Str × Str × Int) (q : Nat × Nat) => [x.1, x.2.1].Perm [ps.getD q.1 "", ps.getD q.2 ""] ∧ 1 ≤ x.2.2 ∧ x.2.2 ≤ 1000) pa I → (pa.map fun p => (p.1, p.2.1)).Pairwise Apart ∧ ∀ p ∈ pa, PathOk ps p := by
  induction I with
  | nil =>
    intro pa _ _ h
    cases h
    exact ⟨List.Pairwise.nil, fun p hp => by cases hp⟩
  | cons q I ih =>
    intro pa hn hI h
    cases h with
    | @cons x _ xs _ hx r =>
      rw [List.nodup_cons] at hn
      obtain ⟨h1, h2⟩ := ih hn.2 (fun q hq => hI q (List.mem_cons_of_mem _ hq)) r
      have hq := hI q List.mem_cons_self
      refine ⟨?_, fun p hp => ?_⟩
      · rw [List.map_cons, List.pairwise_cons]
        refine ⟨fun y hy pm => ?_, h1⟩
        obtain ⟨z, hz, rfl⟩ := List.mem_map.mp hy
        obtain ⟨i, hi, ei⟩ := List.getElem_of_mem hz
        obtain ⟨r2, hr2, p2⟩ := r.at i (show xs[i]? = some z by rw [List.getElem?_eq_getElem hi, ei])
        have hm := List.mem_of_getElem? hr2
        exact idx_ne nd hq (hI r2 (List.mem_cons_of_mem _ hm)) (fun e => hn.1 (e ▸ hm)) (hx.1.symm.trans (pm.trans p2.1))
      · rcases List.mem_cons.mp hp with rfl | hp
        · have g1 := (getD_in (ps := ps) (i := q.1) (by omega)).1
          have g2 := (getD_in (ps := ps) (i := q.2) (by omega)).1
          have m1 := hx.1.mem_iff.mp (List.mem_cons_self : p.1 ∈ _)
          have m2 := hx.1.mem_iff.mp (List.mem_cons_of_mem _ (List.mem_singleton.mpr rfl) : p.2.1 ∈ [p.1, p.2.1])
          refine ⟨?_, ?_, fun e => ?_, hx.2.1, hx.2.2⟩
          · rcases List.mem_cons.mp m1 with z | z
            · rw [z]; exact g1
            · rw [List.mem_singleton.mp z]; exact g2
          · rcases List.mem_cons.mp m2 with z | z
            · rw [z]; exact g1
            · rw [List.mem_singleton.mp z]; exact g2
          · have z1 := hx.1.symm.mem_iff.mp (List.mem_cons_self : ps.getD q.1 "" ∈ _)
            have z2 := hx.1.symm.mem_iff.mp (List.mem_cons_of_mem _ (List.mem_singleton.mpr rfl) : ps.getD q.2 "" ∈ [ps.getD q.1 "", ps.getD q.2 ""])
            rw [← e] at z1 z2
            have w1 : ps.getD q.1 "" = p.1 := by simpa using z1
            have w2 : ps.getD q.2 "" = p.1 := by simpa using z2
            have := getD_inj nd (by omega) (by omega) (w1.trans w2.symm)
            omega
        · exact h2 p hp
def sp__law_paths (K : PySem.W.Frag) : Sp := fun vs H Q _ => ∃ (p pl : Addr) (ks : List Int) (ps : List Str) (k m : Int), vs = [.ref p, .int k, .ref pl, .int m] ∧ Nums K H p ks ∧ SqL K H pl (ps.map V.str) ∧ Good ps ∧ ps.length ≤ 24 ∧ 0 ≤ k ∧ 0 ≤ m ∧ m ≤ 60 ∧
  ∀ H' q (pa : List (Str × Str × Int)), Ex H H' → H q = none → Dp K H' (.ref q) (.list (pa.map dPath)) → pa.length ≤ 60 → (∀ p ∈ pa, PathOk ps p) → (pa.map fun p => (p.1, p.2.1)).Pairwise Apart → Q (.ref q) H'
section
variable {P : Program} {w : World} {K : PySem.W.Frag} {mg : Str → Option Value} {base : Heap} {a : Ad}
end
end EV

set_option Elab.async false
set_option linter.all false
set_option maxRecDepth 100000
set_option maxHeartbeats 4000000
namespace EV
open PySem PySem.Spec PyProof.Rows L2 EvS Evl
theorem other_ne {o y L : Int} (o0 : 0 ≤ o) (oL : o < L) (y0 : 0 ≤ y) (yL : y < L - 1) : 0 ≤ (o + 1 + y).fmod L ∧ (o + 1 + y).fmod L < L ∧ (o + 1 + y).fmod L ≠ o := by
  rw [Int.fmod_eq_emod_of_nonneg _ (by omega)]
  rcases Int.lt_or_le (o + 1 + y) L with h | h
  · rw [Int.emod_eq_of_lt (by omega) h]
    omega
  · have e : o + 1 + y = (o + 1 + y - L) + L := by omega
    rw [e, Int.add_emod_right, Int.emod_eq_of_lt (by omega) (by omega)]
    omega
def sp__law_parts (K : PySem.W.Frag) : Sp := fun vs H Q _ => ∃ (p : Addr) (ks : List Int), vs = [.ref p] ∧ Nums K H p ks ∧ ∀ H' q D, Ex H H' → H q = none → Dp K H' (.ref q) (dParts D) → LandOk D → Q (.ref q) H'
section
variable {P : Program} {w : World} {K : PySem.W.Frag} {mg : Str → Option Value} {base : Heap} {a : Ad}
end
end EV

set_option Elab.async false
set_option linter.all false
set_option maxRecDepth 100000
set_option maxHeartbeats 4000000
namespace EV
open PySem PySem.Spec PyProof.Rows L2 EvS Evl
/-! ### data that may be compared -/
theorem sign_small : ∀ c ∈ LETS ++ DIGS, c < 1114112 := by decide +kernel
theorem name_strOk {z : Str} (h : isName z = true) : PyData.strOk z = true := by
  unfold isName at h
  rw [Bool.and_eq_true] at h
  unfold PyData.strOk
  rw [Array.all_eq_true_iff_forall_mem]
  intro c hc
  have q := List.all_eq_true.mp h.2 c (Array.mem_toList_iff.mpr hc)
  unfold okSign at q
  rw [Bool.or_eq_true] at q
  refine decide_eq_true (sign_small c ?_)
  rcases q with q | q
  · exact List.mem_append_left _ (of_decide_eq_true q)
  · exact List.mem_append_right _ (of_decide_eq_true q)
theorem lay_of : ∀ {ds : List PyData}, (∀ d ∈ ds, PyData.canLay0 d = true) → PyData.canLayAll0 ds = true
  | [], _ => by simp [PyData.canLayAll0]
  | d :: ds, h => by
    rw [PyData.canLayAll0, h d List.mem_cons_self, lay_of fun x hx => h x (List.mem_cons_of_mem _ hx)]
    rfl
theorem deep_of {n : Nat} : ∀ {ds : List PyData}, (∀ d ∈ ds, PyData.depth d ≤ n) → PyData.depthAll ds ≤ n
  | [], _ => by simp [PyData.depthAll]
  | d :: ds, h => by
    have h1 := h d List.mem_cons_self
    have h2 := deep_of (n := n) (ds := ds) fun x hx => h x (List.mem_cons_of_mem _ hx)
    simp only [PyData.depthAll]
    omega
/-- small data: fit to be laid, and not deep -/
def Sh (n : Nat) (d : PyData) : Prop := PyData.canLay0 d = true ∧ PyData.depth d ≤ n
theorem sh_str {z : Str} {n : Nat} (h : isName z = true) : Sh (n + 1) (.str z) := ⟨by simp only [PyData.canLay0]; exact name_strOk h, by simp only [PyData.depth]; omega⟩
theorem sh_tup {n : Nat} {ds : List PyData} (h : ∀ d ∈ ds, Sh n d) : Sh (n + 1) (.tuple ds) := by
  have := deep_of (n := n) fun d hd => (h d hd).2
  exact ⟨by simp only [PyData.canLay0]; exact lay_of fun d hd => (h d hd).1, by simp only [PyData.depth]; omega⟩
theorem sh_lst {n : Nat} {ds : List PyData} (h : ∀ d ∈ ds, Sh n d) : Sh (n + 1) (.list ds) := by
  have := deep_of (n := n) fun d hd => (h d hd).2
  exact ⟨by simp only [PyData.canLay0]; exact lay_of fun d hd => (h d hd).1, by simp only [PyData.depth]; omega⟩
theorem sh_int (i : Int) (n : Nat) : Sh (n + 1) (.int i) := ⟨by simp only [PyData.canLay0], by simp only [PyData.depth]; omega⟩
theorem sh_up {n m : Nat} {d : PyData} (h : n ≤ m) (q : Sh n d) : Sh m d := ⟨q.1, Nat.le_trans q.2 h⟩
theorem sh_shaped {n : Nat} {d : PyData} (h : Sh n d) (hn : n ≤ 64) : SeqAt.shaped d = true := by
  show (PyData.canLay0 d && decide (PyData.depth d ≤ 64)) = true
  rw [Bool.and_eq_true]
  exact ⟨h.1, decide_eq_true (Nat.le_trans h.2 hn)⟩
theorem sh_time (b : Option (Int × Int)) : Sh 3 (dTime b) := by
  cases b with
  | none => exact ⟨by simp [dTime, PyData.canLay0], by simp [dTime, PyData.depth]⟩
  | some b =>
    refine sh_tup (n := 2) fun d hd => ?_
    rcases List.mem_cons.mp hd with rfl | hd
    · exact sh_int _ _
    · rw [List.mem_singleton.mp hd]
      exact sh_int _ _
theorem sh_strs {ns : List Str} (h : ∀ n ∈ ns, isName n = true) : Sh 6 (.tuple (ns.map .str)) := sh_tup (n := 5) fun d hd => by
  obtain ⟨n, hn, rfl⟩ := List.mem_map.mp hd
  exact sh_str (h n hn)
theorem mem4 {α : Type} {x a b c d : α} (h : x ∈ [a, b, c, d]) : x = a ∨ x = b ∨ x = c ∨ x = d := by simpa using h
theorem sh_link {D : LandD} (ok : LandOk D) {k : Link} (hk : k ∈ D.ls) : Sh 5 (dLink k) := by
  have l := ok.lk k hk
  refine sh_tup (n := 4) fun d hd => ?_
  rcases mem4 hd with rfl | rfl | rfl | rfl
  · exact sh_str (ok.gl.1 _ (List.mem_map.mpr ⟨k, hk, rfl⟩))
  · exact sh_str (ok.gp.1 _ l.o)
  · exact sh_str (ok.gp.1 _ l.t)
  · refine sh_tup (n := 3) fun d hd => ?_
    obtain ⟨b, _, rfl⟩ := List.mem_map.mp hd
    exact sh_time b
theorem sh_path {D : LandD} (ok : LandOk D) {p : Str × Str × Int} (hp : p ∈ D.pa) : Sh 5 (dPath p) := by
  have l := ok.pt p hp
  refine sh_tup (n := 4) fun d hd => ?_
  have q : d = .str p.1 ∨ d = .str p.2.1 ∨ d = .int p.2.2 := by simpa using hd
  rcases q with rfl | rfl | rfl
  · exact sh_str (ok.gp.1 _ l.o)
  · exact sh_str (ok.gp.1 _ l.t)
  · exact sh_int _ _
theorem sh_land {D : LandD} (ok : LandOk D) : Sh 7 (dLand D) := by
  refine sh_tup (n := 6) fun d hd => ?_
  rcases mem4 hd with rfl | rfl | rfl | rfl
  · exact sh_strs ok.gw.1
  · exact sh_strs ok.gp.1
  · refine sh_tup (n := 5) fun d hd => ?_
    obtain ⟨b, hb, rfl⟩ := List.mem_map.mp hd
    exact sh_link ok hb
  · refine sh_tup (n := 5) fun d hd => ?_
    obtain ⟨b, hb, rfl⟩ := List.mem_map.mp hd
    exact sh_path ok hb
theorem shaped_land {D : LandD} (ok : LandOk D) : SeqAt.shaped (dLand D) = true := sh_shaped (sh_land ok) (by decide)
theorem eqv_self {d : PyData} (h : SeqAt.shaped d = true) : PyData.eqv d d = true := SeqAt.eqv_refl _ (SeqAt.canLay_of_shaped h)
/-! ### the parts of a list of parts -/
structure PartsAt (K : PySem.W.Frag) (H : Hp) (p : Addr) (D : LandD) (wi pl li pa : Addr) (rows prs : List V) : Prop where
  ob : SqL K H p [.ref wi, .ref pl, .ref li, .ref pa]
  wi : SqL K H wi (D.ws.map V.str)
  pl : SqL K H pl (D.ps.map V.str)
  li : SqL K H li rows
  ls : DpAll K H rows (D.ls.map dRaw)
  pa : SqL K H pa prs
  ps : DpAll K H prs (D.pa.map dPath)
theorem PartsAt.ex {K : PySem.W.Frag} {H H' : Hp} {p : Addr} {D : LandD} {wi pl li pa : Addr} {rows prs : List V} (e : Ex H H') (h : PartsAt K H p D wi pl li pa rows prs) : PartsAt K H' p D wi pl li pa rows prs :=
  ⟨ex_l e h.ob, ex_l e h.wi, ex_l e h.pl, ex_l e h.li, dps_ex e h.ls, ex_l e h.pa, dps_ex e h.ps⟩
theorem parts_in {K : PySem.W.Frag} {H : Hp} {p : Addr} {D : LandD} (h : Dp K H (.ref p) (dParts D)) : ∃ wi pl li pa rows prs, PartsAt K H p D wi pl li pa rows prs := by
  unfold dParts at h
  cases h with
  | lst hs hr =>
    cases hr with
    | cons a1 hr =>
      cases a1 with
      | lst s1 d1 =>
        cases hr with
        | cons a2 hr =>
          cases a2 with
          | lst s2 d2 =>
            cases hr with
            | cons a3 hr =>
              cases a3 with
              | lst s3 d3 =>
                cases hr with
                | cons a4 hr =>
                  cases a4 with
                  | lst s4 d4 =>
                    cases hr
                    rw [dps_strs d1] at s1
                    rw [dps_strs d2] at s2
                    exact ⟨_, _, _, _, _, _, hs, s1, s2, s3, d3, s4, d4⟩
def sp__law_made (K : PySem.W.Frag) (C : Addr) : Sp := fun vs H Q _ => ∃ (p : Addr) (D : LandD), vs = [.ref p] ∧ Dp K H (.ref p) (dParts D) ∧ LandOk D ∧ ∀ H' x, Ex H H' → H x = none → IsLand K C H' x D → Q (.ref x) H'
def sp__law_frozen (K : PySem.W.Frag) : Sp := fun vs H Q _ => ∃ (p : Addr) (D : LandD), vs = [.ref p] ∧ Dp K H (.ref p) (dParts D) ∧ LandOk D ∧ ∀ H' q, Ex H H' → H q = none → Dp K H' (.ref q) (dLand D) → Q (.ref q) H'
def sp__law_same (K : PySem.W.Frag) (C : Addr) : Sp := fun vs H Q _ => ∃ (x d : Addr) (D : LandD), vs = [.ref x, .ref d] ∧ IsLand K C H x D ∧ Dp K H (.ref d) (dLand D) ∧ LandOk D ∧ ∀ H', Ex H H' → Q (.bl true) H'
section
variable {P : Program} {w : World} {K : PySem.W.Frag} {mg : Str → Option Value} {base : Heap} {a : Ad}
end
end EV

set_option Elab.async false
set_option linter.all false
set_option maxRecDepth 100000
set_option maxHeartbeats 4000000
namespace EV
open PySem PySem.Spec PyProof.Rows L2 EvS Evl
/-! ### names as the law makes them from one number -/
def sizeN (n : Int) : Nat := (n % 11).toNat
def restTo (n : Int) (m : Nat) : List Nat := (List.range m).map fun (k : Nat) => chAt ((n + 7 * (k : Int) * (k : Int)) % 36)
def restN (n : Int) : List Nat := restTo n (sizeN n)
def ownN (n : Int) (k : Nat) : List Nat := if (n / 121 + (k : Int)) % 3 = 0 then (restN n).drop 1 else restN n
def plcN (n : Int) : Nat := ((n / 11).fmod ((sizeN n : Int) + 1)).toNat
def spotN (n : Int) (k : Nat) : Nat := min (plcN n) (ownN n k).length
def stpN (n : Int) : Int := if (n / 363) % 2 = 1 then 31 else 5
def codesN (n : Int) (k : Nat) : List Nat := chAt ((n + 3 * (k : Int)) % 26) :: ((ownN n k).take (spotN n k) ++ (chAt ((n + stpN n * (k : Int)) % 36) :: (ownN n k).drop (spotN n k)))
def nameN (n : Int) (k : Nat) : Str := tx (codesN n k)
def namesN (n : Int) (m : Nat) : List Str := (List.range m).map (nameN n)
theorem sizeN_le (n : Int) : sizeN n ≤ 10 := by
  have := Int.emod_lt_of_pos n (show (0 : Int) < 11 by decide)
  unfold sizeN
  omega
theorem restTo_len (n : Int) (m : Nat) : (restTo n m).length = m := by unfold restTo; rw [List.length_map, List.length_range]
theorem restN_len (n : Int) : (restN n).length = sizeN n := restTo_len _ _
theorem ownN_len (n : Int) (k : Nat) : (ownN n k).length ≤ 10 := by
  have := sizeN_le n
  unfold ownN
  split
  · rw [List.length_drop, restN_len]; omega
  · rw [restN_len]; omega
theorem ownN_ok (n : Int) (k : Nat) : ∀ c ∈ ownN n k, okSign c = true := by
  have r : ∀ c ∈ restN n, okSign c = true := fun c hc => by
    obtain ⟨j, _, rfl⟩ := List.mem_map.mp hc
    exact chAt_ok (m36 _).1 (m36 _).2
  intro c hc
  unfold ownN at hc
  split at hc
  · exact r c (List.mem_of_mem_drop hc)
  · exact r c hc
theorem codesN_len (n : Int) (k : Nat) : (codesN n k).length = (ownN n k).length + 2 := by
  have h : spotN n k ≤ (ownN n k).length := Nat.min_le_right _ _
  unfold codesN
  rw [List.length_cons, List.length_append, List.length_take, List.length_cons, List.length_drop]
  omega
theorem nameN_ok (n : Int) (k : Nat) : isName (nameN n k) = true := by
  have hl := codesN_len n k
  have ho := ownN_len n k
  have len : (nameN n k).length = (codesN n k).length := by
    show (codesN n k).toArray.size = _
    rw [List.size_toArray]
  have lst : (nameN n k).cps.toList = codesN n k := rfl
  unfold isName
  rw [lst, len, Bool.and_eq_true, Bool.and_eq_true]
  refine ⟨⟨decide_eq_true ⟨by omega, by omega⟩, ?_⟩, ?_⟩
  · have e : (codesN n k).head? = some (chAt ((n + 3 * (k : Int)) % 26)) := rfl
    rw [e]
    exact decide_eq_true (chAt_let (Int.emod_nonneg _ (by decide)) (Int.emod_lt_of_pos _ (by decide)))
  · rw [List.all_eq_true]
    intro c hc
    unfold codesN at hc
    rcases List.mem_cons.mp hc with z | z
    · rw [z]
      have := Int.emod_lt_of_pos (n + 3 * (k : Int)) (show (0 : Int) < 26 by decide)
      exact chAt_ok (Int.emod_nonneg _ (by decide)) (by omega)
    rcases List.mem_append.mp z with z | z
    · exact ownN_ok _ _ c (List.mem_of_mem_take z)
    rcases List.mem_cons.mp z with z | z
    · rw [z]
      exact chAt_ok (m36 _).1 (m36 _).2
    · exact ownN_ok _ _ c (List.mem_of_mem_drop z)
theorem nameN_inj (n : Int) {i j : Nat} (hi : i < 36) (hj : j < 36) (e : nameN n i = nameN n j) : i = j := by
  have ec : codesN n i = codesN n j := congrArg (fun s : Str => s.cps.toList) e
  have hl := congrArg List.length ec
  rw [codesN_len, codesN_len] at hl
  have eo : ownN n i = ownN n j := by
    have hs := restN_len n
    unfold ownN at hl ⊢
    split <;> split
    · rfl
    · rename_i h1 h2
      rw [if_pos h1, if_neg h2, List.length_drop] at hl
      have z : (restN n).length = 0 := by omega
      rw [List.length_eq_zero_iff] at z
      rw [z]
      rfl
    · rename_i h1 h2
      rw [if_neg h1, if_pos h2, List.length_drop] at hl
      have z : (restN n).length = 0 := by omega
      rw [List.length_eq_zero_iff] at z
      rw [z]
      rfl
    · rfl
  have es : spotN n i = spotN n j := by unfold spotN; rw [eo]
  have hle : spotN n j ≤ (ownN n j).length := Nat.min_le_right _ _
  unfold codesN at ec
  rw [eo, es] at ec
  have z := (List.cons.inj ec).2
  have z2 := List.append_cancel_left z
  have z3 := (List.cons.inj z2).1
  have y := chAt_inj (m36 _).1 (m36 _).2 (m36 _).1 (m36 _).2 z3
  unfold stpN at y
  split at y <;> omega
theorem namesN_good (n : Int) {m : Nat} (h : m ≤ 36) : Good (namesN n m) := by
  refine ⟨fun z hz => ?_, ?_⟩
  · obtain ⟨k, _, rfl⟩ := List.mem_map.mp hz
    exact nameN_ok n k
  · unfold namesN
    refine List.pairwise_map.mpr (List.Pairwise.imp_of_mem (fun ha hb ne e => ?_) (List.nodup_range (n := m)))
    have h1 := List.mem_range.mp ha
    have h2 := List.mem_range.mp hb
    exact ne (nameN_inj n (by omega) (by omega) e)
theorem namesN_len (n : Int) (m : Nat) : (namesN n m).length = m := by unfold namesN; rw [List.length_map, List.length_range]
theorem namesN_more (n : Int) (m : Nat) : namesN n (m + 1) = namesN n m ++ [nameN n m] := by
  unfold namesN
  rw [List.range_succ, List.map_append]
  rfl
theorem join_ones : ∀ l : List Nat, Txt.join "" (l.map fun c => tx [c]) = tx l := fun l => by
  rw [show Txt.join "" (l.map fun c => tx [c]) = Str.join "" (l.map fun c => tx [c]) from StrLaws.glued_eq_join _ _]
  induction l with
  | nil => rfl
  | cons c r ih =>
    cases r with
    | nil => rfl
    | cons d r =>
      show tx [c] ++ "" ++ Str.join "" ((d :: r).map fun c => tx [c]) = tx (c :: d :: r)
      rw [ih]
      have e : (tx [c] ++ ("" : Str)) = tx [c] := Str.ext' (by rw [Str.cps_append]; simp; rfl)
      rw [e, tx_add]
      rfl
theorem ones_sum : ∀ l : List Nat, ((l.map fun c => tx [c]).map (·.length)).sum = l.length
  | [] => rfl
  | c :: r => by
    have ih := ones_sum r
    rw [List.map_cons, List.map_cons, List.sum_cons, ih, List.length_cons]
    show 1 + r.length = _
    omega
def sp2__law_names : Sp := fun vs H Q _ => ∃ (n : Int) (m : Nat), vs = [.int n, .int (m : Int)] ∧ 0 ≤ n ∧ n < 1009 ∧ m ≤ 36 ∧
  ∀ H' q, Ex H H' → H q = none → H' q = some (.lst ((namesN n m).map V.str)) → Q (.ref q) H'
end EV

set_option Elab.async false
set_option linter.all false
set_option maxRecDepth 100000
set_option maxHeartbeats 4000000
namespace EV
open PySem PySem.Spec PyProof.Rows L2 EvS Evl
section
variable {P : Program} {w : World} {K : PySem.W.Frag} {mg : Str → Option Value} {base : Heap} {a : Ad}
theorem G__law_names (T : Txt K mg a) : FnOk P w K mg base CX0 1 a.f__law_names a.d__law_names ["number", "many"] sp2__law_names := by
  refine T.F__law_names.ok sc__law_names (fun vs H Q E h => ?_) (fun cdv A outer s H vs Q E hr h => ?_)
  · obtain ⟨n, m, rfl, _⟩ := h
    rfl
  · obtain ⟨n, m, rfl, n0, n1, m36', k⟩ := h
    refine ⟨_, (pss_cons (ps_set (i := 2) sc__law_names.nd rfl (Or.inr rfl) pe_str)
      (pss_cons (ps_set (i := 3) sc__law_names.nd rfl (Or.inl rfl) (pe_op op_mod (pe_callTy call_int1 (by rfl) T.z_int (by decide +kernel) (pa_cons (pv 0) pa_nil)) pe_int))
      (pss_cons (ps_set (i := 4) sc__law_names.nd rfl (Or.inl rfl) (pe_join pe_str (pe_lc (own := [("k", 7)]) (g := gName 7) (tt := tYes) rfl sc__law_names.nd (pi_range1 (by rfl) T.z_range (pa_cons (pv 3) pa_nil)) (blkOk_by (N := ["number", "many", "letters", "size", "rest", "place", "names", "k", "own", "spot", "step"]) (sc := defScope s__law_names) (by decide +kernel)) (fun _ _ _ _ _ => pg_name (i := 7) sc__law_names.nd rfl (Or.inl rfl)) (fun _ _ _ _ _ => pts_nil) (fun _ _ _ _ _ => (pe_ix ix_str (pv 2) (pe_op op_mod (pe_callTy call_int1 (by rfl) T.z_int (by decide +kernel) (pa_cons (pe_op op_add (pv 0) (pe_op op_mul (pe_op op_mul pe_int (pv 7)) (pv 7))) pa_nil)) pe_int) (fun _ _ => rfl))))))
      (pss_cons (ps_set (i := 5) sc__law_names.nd rfl (Or.inl rfl) (pe_op op_modN (pe_callTy call_int1 (by rfl) T.z_int (by decide +kernel) (pa_cons (pe_op op_fdiv (pv 0) pe_int) pa_nil)) (pe_op op_add (pv 3) pe_int)))
      (pss_cons (ps_set (i := 6) sc__law_names.nd rfl (Or.inl rfl) (pe_lst pa_nil))
      (pss_cons (ps_for PassesOwn.never rfl (pi_range1 (by rfl) T.z_range (pa_cons (pv 1) pa_nil)) (pg_name (i := 7) sc__law_names.nd rfl (Or.inl rfl)) (pss_cons (ps_set (i := 8) sc__law_names.nd rfl (Or.inl rfl) (pv 4))
        (Evl.pss_cut (ps_if (pt_cmpR op_eq (pe_op op_mod (pe_callTy call_int1 (by rfl) T.z_int (by decide +kernel) (pa_cons (pe_op op_add (pe_op op_fdiv (pv 0) pe_int) (pv 7)) pa_nil)) pe_int) pe_int (nomark _)) (pss_one (ps_set (i := 8) sc__law_names.nd rfl (Or.inl rfl) (pe_slice sl_str (pv 4) (po_some pe_int) po_none))) pss_nil)
        (pss_cons (ps_set (i := 9) sc__law_names.nd rfl (Or.inl rfl) (pe_callB (call_min2 rfl) (by rfl) T.z_min (by decide +kernel) (pa_cons (pv 5) (pa_cons (pe_callB call_len_str (by rfl) T.z_len PySem.boot_len (pa_cons (pv 8) pa_nil)) pa_nil))))
        (pss_cons (ps_set (i := 10) sc__law_names.nd rfl (Or.inl rfl) pe_int)
        (Evl.pss_cut (ps_if (pt_cmpR op_eq (pe_op op_mod (pe_callTy call_int1 (by rfl) T.z_int (by decide +kernel) (pa_cons (pe_op op_fdiv (pv 0) pe_int) pa_nil)) pe_int) pe_int (nomark _)) (pss_one (ps_set (i := 10) sc__law_names.nd rfl (Or.inl rfl) pe_int)) pss_nil)
        (pss_one (ps_expr (pe_bm PySem.F.plainAttrs_list PySem.F.slot_list_append PySem.F.type_list_append mt_append (pv 6) (pa_cons (pe_op op_add_str (pe_op op_add_str (pe_op op_add_str (pe_ix ix_str (pv 2) (pe_op op_mod (pe_callTy call_int1 (by rfl) T.z_int (by decide +kernel) (pa_cons (pe_op op_add (pv 0) (pe_op op_mul pe_int (pv 7))) pa_nil)) pe_int) (fun _ _ => rfl)) (pe_slice sl_str (pv 8) po_none (po_some (pv 9)))) (pe_ix ix_str (pv 2) (pe_op op_mod (pe_callTy call_int1 (by rfl) T.z_int (by decide +kernel) (pa_cons (pe_op op_add (pv 0) (pe_op op_mul (pv 10) (pv 7))) pa_nil)) pe_int) (fun _ _ => rfl))) (pe_slice sl_str (pv 8) (po_some (pv 9)) po_none)) pa_nil))))))))))
      (pss_one (ps_ret (pv 6))))))))), ?_⟩
    have s36 : ("abcdefghijklmnopqrstuvwxyz0123456789" : Str).length ≤ sizeLine := by decide +kernel
    have z0 := Int.emod_nonneg n (show (11 : Int) ≠ 0 by decide)
    have z1 := Int.emod_lt_of_pos n (show (0 : Int) < 11 by decide)
    have es : n % 11 = ((sizeN n : Nat) : Int) := by unfold sizeN; omega
    have sl := sizeN_le n
    refine ⟨_, rfl, .inl ⟨_, rfl, _, _, rfl, rfl, (by show (0 : Int) < 11; decide), ?_⟩⟩
    -- rest
    refine ⟨⟨_, rfl⟩, _, rfl, _, rfl, by omega, by omega, fun D hD => lc_range (lo := 0) (n := (n % 11).toNat) (fun i H' => Ex H H' ∧ H' D = some (.lst (((restTo n i).map fun c => tx [c]).map V.str))) ⟨Ex.new hD, upd_same⟩ ?_ ?_⟩
    · rintro i H' hi ⟨e, hL⟩
      refine ⟨rfl, _, rfl, _, rfl, _, rfl, _, _, rfl, rfl, .inl ⟨by decide, by decide⟩, _, rfl, _, _, rfl, rfl, .inl ⟨by omega, by omega⟩, _, _, rfl, rfl, .inl ⟨_, rfl, _, _, rfl, rfl, (by show (0 : Int) < 36; decide), _, _, _, rfl, rfl, s36, ch_get (m36 _).1 (m36 _).2, _, hL, sz_lt ?_, e.mut hD, ?_⟩⟩
      · rw [List.length_map, List.length_map, restTo_len]; omega
      · rw [upd_same]
        have st : restTo n (i + 1) = restTo n i ++ [chAt ((n + 7 * (0 + (i : Int)) * (0 + (i : Int))) % 36)] := by
          unfold restTo
          rw [List.range_succ, List.map_append, Int.zero_add]
          rfl
        rw [st, List.map_append, List.map_append]
        rfl
    rintro H1 ⟨e1, hL1⟩
    refine ⟨_, D, _, rfl, rfl, .inl (SqL.of hL1), ?_, ?_⟩
    · rw [ones_sum, List.length_map, restTo_len]
      show _ + _ * 0 ≤ _
      omega
    have ej : Txt.join "" ((restTo n (n % 11).toNat).map fun c => tx [c]) = tx (restN n) := by rw [join_ones]; rfl
    clear hL1
    have er : restTo n (sizeN n) = restN n := rfl
    have rl := restN_len n
    -- place
    have pd : (0 : Int) < ((sizeN n : Nat) : Int) + 1 := by omega
    have pq := Int.fmod_nonneg_of_pos (n / 11) pd
    have ep : (n / 11).fmod (((sizeN n : Nat) : Int) + 1) = ((plcN n : Nat) : Int) := by unfold plcN; omega
    have pl : plcN n ≤ sizeN n := by
      have := Int.fmod_lt_of_pos (n / 11) pd
      omega
    refine ⟨_, rfl, _, _, rfl, rfl, ⟨by decide, by decide⟩, .inl ⟨_, rfl, _, rfl, _, _, rfl, rfl, _, _, rfl, rfl, by omega, ?_⟩⟩
    have ep' : (n / 11).fmod (n % 11 + 1) = ((plcN n : Nat) : Int) := by rw [es]; exact ep
    -- names
    refine ⟨Nat.zero_le _, fun q hq => ?_⟩
    have e2 : Ex H (upd H1 q (.lst [])) := e1.trans (Ex.new hq)
    have hqH := fresh_back e1 hq
    refine ⟨_, rfl, _, rfl, by omega, by omega, for_range (n := ((m : Nat) : Int).toNat) (fun i σ H' => ∃ v7 v8 v9 v10, σ = [some (.int n), some (.int (m : Int)), some (.str "abcdefghijklmnopqrstuvwxyz0123456789"), some (.int ((sizeN n : Nat) : Int)), some (.str (tx (restN n))), some (.int ((plcN n : Nat) : Int)), some (.ref q), v7, v8, v9, v10] ∧ Ex H H' ∧ H' q = some (.lst ((namesN n i).map V.str))) ?_ ?_ ?_⟩
    · refine ⟨none, none, none, none, ?_, e2, upd_same⟩
      show [some (V.int n), some (.int (m : Int)), some (.str "abcdefghijklmnopqrstuvwxyz0123456789"), some (.int (n % 11)), some (.str (Txt.join "" ((restTo n (n % 11).toNat).map fun c => tx [c]))), some (.int ((n / 11).fmod (n % 11 + 1))), some (.ref q), none, none, none, none] = _
      rw [ep', ej, es]
    · rintro i σ H' hi ⟨v7, v8, v9, v10, rfl, e, hL⟩
      have rls : (tx (restN n)).length ≤ sizeLine := sz_of (by rw [tx_len]; omega)
      -- own
      refine ⟨_, rfl, ?_⟩
      refine ⟨fun σ H2 => σ = [some (.int n), some (.int (m : Int)), some (.str "abcdefghijklmnopqrstuvwxyz0123456789"), some (.int ((sizeN n : Nat) : Int)), some (.str (tx (restN n))), some (.int ((plcN n : Nat) : Int)), some (.ref q), some (.int (0 + (i : Int))), some (.str (tx (ownN n i))), v9, v10] ∧ H2 = H', ?_, ?_⟩
      · refine ⟨_, rfl, _, _, rfl, rfl, ⟨by decide, by decide⟩, _, rfl, _, _, rfl, rfl, .inl ⟨_, rfl, _, _, rfl, rfl, (by show (0 : Int) < 3; decide), rfl, _, rfl, ?_⟩⟩
        refine ite2 (fun h => ?_) (fun h => ?_)
        · have h' : (n / 121 + (i : Int)) % 3 = 0 := by have := V.int.inj (of_decide_eq_true h); rwa [Int.zero_add] at this
          refine ⟨_, rfl, _, rfl, _, rfl, rls, ?_⟩
          refine ⟨?_, rfl⟩
          have eo : ownN n i = (restN n).drop 1 := by unfold ownN; rw [if_pos h']
          rw [show cutS (tx (restN n)) (some 1) none = tx ((restN n).drop 1) from tx_from _ 1, eo]
          rfl
        · have h' : ¬ (n / 121 + (i : Int)) % 3 = 0 := fun z => h (decide_eq_true (congrArg V.int (by rw [Int.zero_add]; exact z)))
          refine ⟨?_, rfl⟩
          have eo : ownN n i = restN n := by unfold ownN; rw [if_neg h']
          rw [eo]
          rfl
      rintro σ H2 ⟨rfl, hH⟩
      rw [hH]
      clear hH H2
      have ol := ownN_len n i
      have ols : (tx (ownN n i)).length ≤ sizeLine := sz_of (by rw [tx_len]; omega)
      -- spot
      refine ⟨_, rfl, _, rfl, _, rfl, ols, _, _, rfl, ?_⟩
      have esp : (if (((tx (ownN n i)).length : Nat) : Int) < ((plcN n : Nat) : Int) then (((tx (ownN n i)).length : Nat) : Int) else ((plcN n : Nat) : Int)) = ((spotN n i : Nat) : Int) := by
        rw [tx_len]
        unfold spotN
        split <;> omega
      have spl : spotN n i ≤ (ownN n i).length := Nat.min_le_right _ _
      -- step
      refine ⟨fun σ H2 => σ = [some (.int n), some (.int (m : Int)), some (.str "abcdefghijklmnopqrstuvwxyz0123456789"), some (.int ((sizeN n : Nat) : Int)), some (.str (tx (restN n))), some (.int ((plcN n : Nat) : Int)), some (.ref q), some (.int (0 + (i : Int))), some (.str (tx (ownN n i))), some (.int ((spotN n i : Nat) : Int)), some (.int (stpN n))] ∧ H2 = H', ?_, ?_⟩
      · refine ⟨_, rfl, _, _, rfl, rfl, ⟨by decide, by decide⟩, .inl ⟨_, rfl, _, _, rfl, rfl, (by show (0 : Int) < 2; decide), rfl, _, rfl, ?_⟩⟩
        refine ite2 (fun h => ?_) (fun h => ?_)
        · have h' : (n / 363) % 2 = 1 := V.int.inj (of_decide_eq_true h)
          refine ⟨?_, rfl⟩
          unfold stpN
          rw [if_pos h', ← esp]
          rfl
        · have h' : ¬ (n / 363) % 2 = 1 := fun z => h (decide_eq_true (congrArg V.int z))
          refine ⟨?_, rfl⟩
          unfold stpN
          rw [if_neg h', ← esp]
          rfl
      rintro σ H2 ⟨rfl, hH⟩
      rw [hH]
      clear hH H2
      have f0 := Int.emod_nonneg (n + 3 * (0 + (i : Int))) (show (26 : Int) ≠ 0 by decide)
      have f1 := Int.emod_lt_of_pos (n + 3 * (0 + (i : Int))) (show (0 : Int) < 26 by decide)
      have st0 : 0 ≤ stpN n ∧ stpN n ≤ 31 := by unfold stpN; split <;> omega
      refine ⟨_, rfl, .inl ⟨rfl, _, SqL.of hL⟩, _, rfl, _, rfl, _, rfl, _, _, rfl, rfl, .inl ⟨by decide, by decide⟩, _, _, rfl, rfl, .inl ⟨_, rfl, _, _, rfl, rfl, (by show (0 : Int) < 26; decide), _, _, _, rfl, rfl, s36, ch_get f0 (by omega), _, rfl, _, rfl, _, rfl, _, rfl, ols, _, _, rfl, rfl, sz_of ?_, ?_⟩⟩
      · rw [tx_to, tx_len, List.length_singleton, tx_len, List.length_take]; omega
      refine ⟨_, rfl, _, rfl, _, rfl, _, rfl, _, _, rfl, rfl, .inl ⟨by omega, by omega⟩, _, _, rfl, rfl, .inl ⟨_, rfl, _, _, rfl, rfl, (by show (0 : Int) < 36; decide), _, _, _, rfl, rfl, s36, ch_get (m36 _).1 (m36 _).2, _, _, rfl, rfl, sz_of ?_, _, rfl, _, rfl, _, rfl, _, rfl, ols, _, _, rfl, rfl, sz_of ?_, q, _, _, rfl, rfl, hL, sz_lt (by rw [List.length_map, namesN_len]; omega), ?_⟩⟩
      · rw [tx_to, Str.length_append, tx_len, List.length_singleton, tx_len, one_len, List.length_take]; omega
      · rw [tx_to, tx_from, Str.length_append, Str.length_append, tx_len, List.length_singleton, tx_len, one_len, tx_len, List.length_take, List.length_drop]; omega
      · refine ⟨_, _, _, _, rfl, e.mut hqH, ?_⟩
        rw [upd_same, namesN_more, List.map_append, tx_to, tx_from, tx_one, tx_one, tx_add, tx_add, tx_add]
        show some (HO.lst (_ ++ [V.str (tx _)])) = some (HO.lst (_ ++ [V.str (tx (codesN n i))]))
        unfold codesN
        rw [Int.zero_add, List.append_assoc, List.append_assoc]
        rfl
    · rintro σ H' ⟨v7, v8, v9, v10, rfl, e, hL⟩
      exact ⟨_, rfl, k H' q e hqH hL⟩
end
end EV

set_option Elab.async false
set_option linter.all false
set_option maxRecDepth 100000
set_option maxHeartbeats 4000000
namespace EV
open PySem PySem.Spec PyProof.Rows L2 EvS Evl
/-! ### the parts of a drawn land without paths -/
structure Parts3 (K : PySem.W.Frag) (H : Hp) (p : Addr) (D : LandD) (wi pl li : Addr) (rows : List V) : Prop where
  ob : SqL K H p [.ref wi, .ref pl, .ref li]
  wi : SqT K H wi (D.ws.map V.str)
  pl : SqT K H pl (D.ps.map V.str)
  li : SqT K H li rows
  ls : DpAll K H rows (D.ls.map dLink)
  nopa : D.pa = []
theorem Parts3.ex {K : PySem.W.Frag} {H H' : Hp} {p : Addr} {D : LandD} {wi pl li : Addr} {rows : List V} (e : Ex H H') (h : Parts3 K H p D wi pl li rows) : Parts3 K H' p D wi pl li rows :=
  ⟨ex_l e h.ob, ex_t e h.wi, ex_t e h.pl, ex_t e h.li, dps_ex e h.ls, h.nopa⟩
structure Small3 (D : LandD) : Prop where
  w3 : D.ws.length ≤ 3
  p2 : 2 ≤ D.ps.length
  p6 : D.ps.length ≤ 6
  l10 : D.ls.length ≤ 10
def sp3__law_parts (K : PySem.W.Frag) : Sp := fun vs H Q _ => ∃ (p : Addr) (ks : List Int), vs = [.ref p, .int 0] ∧ Nums K H p ks ∧
  ∀ H' q D wi pl li rows, Ex H H' → H q = none → H' q = some (.lst [.ref wi, .ref pl, .ref li]) → Parts3 K H' q D wi pl li rows → LandOk D → Small3 D → Q (.ref q) H'
end EV

set_option Elab.async false
set_option linter.all false
set_option maxRecDepth 100000
set_option maxHeartbeats 4000000
namespace EV
open PySem PySem.Spec PyProof.Rows L2 EvS Evl
section
variable {P : Program} {w : World} {K : PySem.W.Frag} {mg : Str → Option Value} {base : Heap} {a : Ad}
theorem G__law_parts (T : Txt K mg a) : FnOk P w K mg base CX0 2 a.f__law_parts a.d__law_parts ["numbers", "at"] (sp3__law_parts K) := by
  refine T.F__law_parts.ok sc__law_parts (fun vs H Q E h => ?_) (fun cdv A outer s H vs Q E hr h => ?_)
  · obtain ⟨p, ks, rfl, _⟩ := h
    rfl
  · obtain ⟨p, ks, rfl, N, k⟩ := h
    have lo := N.lo
    have sm := N.sm
    refine ⟨_, (pss_cons (ps_set (i := 2) sc__law_parts.nd rfl (Or.inl rfl) (pe_call (G__law_names T) (hr.mono (by decide)) (by rfl) T.g__law_names T.k__law_names T.B__law_names .nil pass0 (pa_cons (pe_ix ix_list (pv 0) (pv 1) (fun _ _ => rfl)) (pa_cons (pe_op op_add pe_int (pe_op op_mod (pe_callTy call_int1 (by rfl) T.z_int (by decide +kernel) (pa_cons (pe_ix ix_list (pv 0) (pe_op op_add (pv 1) pe_int) (fun _ _ => rfl)) pa_nil)) pe_int)) pa_nil))))
      (pss_cons (ps_set (i := 3) sc__law_parts.nd rfl (Or.inl rfl) (pe_call (G__law_names T) (hr.mono (by decide)) (by rfl) T.g__law_names T.k__law_names T.B__law_names .nil pass0 (pa_cons (pe_ix ix_list (pv 0) (pe_op op_add (pv 1) pe_int) (fun _ _ => rfl)) (pa_cons (pe_op op_add pe_int (pe_op op_mod (pe_callTy call_int1 (by rfl) T.z_int (by decide +kernel) (pa_cons (pe_ix ix_list (pv 0) (pe_op op_add (pv 1) pe_int) (fun _ _ => rfl)) pa_nil)) pe_int)) pa_nil))))
      (pss_cons (ps_set (i := 4) sc__law_parts.nd rfl (Or.inl rfl) (pe_call (G__law_names T) (hr.mono (by decide)) (by rfl) T.g__law_names T.k__law_names T.B__law_names .nil pass0 (pa_cons (pe_ix ix_list (pv 0) (pe_op op_add (pv 1) pe_int) (fun _ _ => rfl)) (pa_cons pe_int pa_nil))))
      (pss_cons (ps_set (i := 5) sc__law_parts.nd rfl (Or.inl rfl) (pe_lst pa_nil))
      (pss_cons (ps_for PassesOwn.never rfl (pi_range1 (by rfl) T.z_range (pa_cons (pe_op op_add (pe_op op_mod (pe_callTy call_int1 (by rfl) T.z_int (by decide +kernel) (pa_cons (pe_ix ix_list (pv 0) (pe_op op_add (pv 1) pe_int) (fun _ _ => rfl)) pa_nil)) pe_int) (pe_op op_mod (pe_callTy call_int1 (by rfl) T.z_int (by decide +kernel) (pa_cons (pe_op op_fdiv (pe_ix ix_list (pv 0) (pe_op op_add (pv 1) pe_int) (fun _ _ => rfl)) pe_int) pa_nil)) pe_int)) pa_nil)) (pg_name (i := 6) sc__law_parts.nd rfl (Or.inl rfl)) (pss_cons (ps_set (i := 7) sc__law_parts.nd rfl (Or.inl rfl) (pe_op op_add (pe_op op_add (pv 1) pe_int) (pe_op op_mul pe_int (pv 6))))
        (pss_cons (ps_set (i := 8) sc__law_parts.nd rfl (Or.inl rfl) (pe_op op_modN (pe_callTy call_int1 (by rfl) T.z_int (by decide +kernel) (pa_cons (pe_ix ix_list (pv 0) (pv 7) (fun _ _ => rfl)) pa_nil)) (pe_callB call_len_seq (by rfl) T.z_len PySem.boot_len (pa_cons (pv 3) pa_nil))))
        (pss_cons (ps_set (i := 9) sc__law_parts.nd rfl (Or.inl rfl) (pe_op op_modN (pe_callTy call_int1 (by rfl) T.z_int (by decide +kernel) (pa_cons (pe_op op_add (pe_op op_add (pv 8) pe_int) (pe_op op_modN (pe_callTy call_int1 (by rfl) T.z_int (by decide +kernel) (pa_cons (pe_op op_fdiv (pe_ix ix_list (pv 0) (pv 7) (fun _ _ => rfl)) pe_int) pa_nil)) (pe_op op_sub (pe_callB call_len_seq (by rfl) T.z_len PySem.boot_len (pa_cons (pv 3) pa_nil)) pe_int))) pa_nil)) (pe_callB call_len_seq (by rfl) T.z_len PySem.boot_len (pa_cons (pv 3) pa_nil))))
        (pss_cons (ps_set (i := 10) sc__law_parts.nd rfl (Or.inl rfl) (pe_lst pa_nil))
        (pss_cons (ps_for PassesOwn.never rfl (pi_range1 (by rfl) T.z_range (pa_cons (pe_callB call_len_seq (by rfl) T.z_len PySem.boot_len (pa_cons (pv 2) pa_nil)) pa_nil)) (pg_name (i := 11) sc__law_parts.nd rfl (Or.inl rfl)) (pss_cons (ps_set (i := 12) sc__law_parts.nd rfl (Or.inl rfl) (pe_ix ix_list (pv 0) (pe_op op_add (pe_op op_add (pv 7) pe_int) (pv 11)) (fun _ _ => rfl)))
          (pss_cons (ps_set (i := 13) sc__law_parts.nd rfl (Or.inl rfl) (pe_op op_add pe_int (pe_op op_mod (pe_callTy call_int1 (by rfl) T.z_int (by decide +kernel) (pa_cons (pe_op op_fdiv (pv 12) pe_int) pa_nil)) pe_int)))
          (Evl.pss_cut (ps_if (pt_cmpR op_eq (pe_op op_mod (pe_callTy call_int1 (by rfl) T.z_int (by decide +kernel) (pa_cons (pv 12) pa_nil)) pe_int) pe_int (nomark _)) (pss_cons (ps_set (i := 13) sc__law_parts.nd rfl (Or.inl rfl) (pe_op op_add pe_int (pe_callTy call_int1 (by rfl) T.z_int (by decide +kernel) (pa_cons (pv 12) pa_nil))))
            (pss_one (ps_set (i := 13) sc__law_parts.nd rfl (Or.inl rfl) (pe_callB (call_min2 rfl) (by rfl) T.z_min (by decide +kernel) (pa_cons pe_int (pa_cons (pv 13) pa_nil)))))) pss_nil)
          (pss_one (ps_if (pt_cmpR op_eq (pe_op op_mod (pe_callTy call_int1 (by rfl) T.z_int (by decide +kernel) (pa_cons (pv 12) pa_nil)) pe_int) pe_int (nomark _)) (pss_one (ps_expr (pe_bm PySem.F.plainAttrs_list PySem.F.slot_list_append PySem.F.type_list_append mt_append (pv 10) (pa_cons pe_non pa_nil)))) (pss_one (ps_expr (pe_bm PySem.F.plainAttrs_list PySem.F.slot_list_append PySem.F.type_list_append mt_append (pv 10) (pa_cons (pe_tup (pa_cons (pv 13) (pa_cons (pe_op op_add (pv 13) (pe_op op_mod (pe_callTy call_int1 (by rfl) T.z_int (by decide +kernel) (pa_cons (pe_op op_fdivN (pe_ix ix_list (pv 0) (pe_op op_add (pv 7) pe_int) (fun _ _ => rfl)) (pe_op op_add pe_int (pv 11))) pa_nil)) pe_int)) pa_nil))) pa_nil))))))))))
        (pss_one (ps_expr (pe_bm PySem.F.plainAttrs_list PySem.F.slot_list_append PySem.F.type_list_append mt_append (pv 5) (pa_cons (pe_tup (pa_cons (pe_ix ix_list (pv 4) (pv 6) (fun _ _ => rfl)) (pa_cons (pe_ix ix_list (pv 3) (pv 8) (fun _ _ => rfl)) (pa_cons (pe_ix ix_list (pv 3) (pv 9) (fun _ _ => rfl)) (pa_cons (pe_callTy call_tupK (by rfl) T.z_tuple (by decide +kernel) (pa_cons (pv 10) pa_nil)) pa_nil))))) pa_nil))))))))))
      (pss_one (ps_ret (pe_lst (pa_cons (pe_callTy call_tupK (by rfl) T.z_tuple (by decide +kernel) (pa_cons (pv 2) pa_nil)) (pa_cons (pe_callTy call_tupK (by rfl) T.z_tuple (by decide +kernel) (pa_cons (pv 3) pa_nil)) (pa_cons (pe_callTy call_tupK (by rfl) T.z_tuple (by decide +kernel) (pa_cons (pv 5) pa_nil)) pa_nil))))))))))), ?_⟩
    have get : ∀ {H' : Hp} {i : Int}, 0 ≤ i → i < 90 → ∃ n, 0 ≤ n ∧ n < 1009 ∧ atI (ks.map V.int) i = some (.int n) := fun {H' i} h0 h1 => by
      obtain ⟨n, hn, hat, _⟩ := num_in (ks := ks) (i := i) h0 (by omega)
      exact ⟨n, (sm n hn).1, (sm n hn).2, hat⟩
    -- winds
    obtain ⟨n0, l0, u0, g0⟩ := get (H' := H) (i := 0) (by decide) (by decide)
    obtain ⟨n1, l1, u1, g1⟩ := get (H' := H) (i := 0 + 1) (by decide) (by decide)
    obtain ⟨n2, l2, u2, g2⟩ := get (H' := H) (i := 0 + 2) (by decide) (by decide)
    obtain ⟨n3, l3, u3, g3⟩ := get (H' := H) (i := 0 + 3) (by decide) (by decide)
    obtain ⟨n4, l4, u4, g4⟩ := get (H' := H) (i := 0 + 4) (by decide) (by decide)
    obtain ⟨n5, l5, u5, g5⟩ := get (H' := H) (i := 0 + 5) (by decide) (by decide)
    have a0 := Int.emod_nonneg n1 (show (3 : Int) ≠ 0 by decide)
    have a1 := Int.emod_lt_of_pos n1 (show (0 : Int) < 3 by decide)
    obtain ⟨m1, em1⟩ : ∃ m1 : Nat, 1 + n1 % 3 = (m1 : Int) := ⟨_, (Int.toNat_of_nonneg (by omega)).symm⟩
    refine ⟨_, rfl, _, rfl, p, _, _, _, rfl, rfl, N.at_, g0, _, rfl, _, rfl, _, _, rfl, rfl, p, _, _, _, rfl, rfl, N.at_, g1, .inl ⟨_, rfl, _, _, rfl, rfl, (by show (0 : Int) < 3; decide), _, _, rfl, rfl, ?_⟩⟩
    refine ⟨n0, m1, congrArg (fun x : Int => [V.int n0, .int x]) em1, l0, u0, by omega, fun H1 q1 e1 f1 h1 => ?_⟩
    -- places
    have b0 := Int.emod_nonneg n3 (show (5 : Int) ≠ 0 by decide)
    have b1 := Int.emod_lt_of_pos n3 (show (0 : Int) < 5 by decide)
    obtain ⟨m2, em2⟩ : ∃ m2 : Nat, 2 + n3 % 5 = (m2 : Int) := ⟨_, (Int.toNat_of_nonneg (by omega)).symm⟩
    refine ⟨_, rfl, _, rfl, _, _, rfl, rfl, p, _, _, _, rfl, rfl, (N.ex e1).at_, g2, _, rfl, _, rfl, _, _, rfl, rfl, p, _, _, _, rfl, rfl, (N.ex e1).at_, g3, .inl ⟨_, rfl, _, _, rfl, rfl, (by show (0 : Int) < 5; decide), _, _, rfl, rfl, ?_⟩⟩
    refine ⟨n2, m2, congrArg (fun x : Int => [V.int n2, .int x]) em2, l2, u2, by omega, fun H2 q2 e2 f2 h2 => ?_⟩
    have g12 := e1.trans e2
    -- names
    refine ⟨_, rfl, _, rfl, _, _, rfl, rfl, p, _, _, _, rfl, rfl, (N.ex g12).at_, g4, n4, 10, rfl, l4, u4, by decide, fun H3 q3 e3 f3 h3 => ?_⟩
    have g13 := g12.trans e3
    have N3 := N.ex g13
    have h13 := e3 _ _ (e2 _ _ h1)
    have h23 := e3 _ _ h2
    have gw := namesN_good n0 (m := m1) (by omega)
    have gp := namesN_good n2 (m := m2) (by omega)
    have gn := namesN_good n4 (m := 10) (by omega)
    have lw := namesN_len n0 m1
    have lp := namesN_len n2 m2
    have ln := namesN_len n4 10
    generalize namesN n0 m1 = ws at h1 h13 gw lw
    generalize namesN n2 m2 = ps at h2 h23 gp lp
    generalize namesN n4 10 = ns at h3 gn ln
    have L1 : (ws.map V.str).length = m1 := by rw [List.length_map, lw]
    have L2 : (ps.map V.str).length = m2 := by rw [List.length_map, lp]
    have pat : ∀ {xs : List Str} {i : Nat} {j : Int}, i < xs.length → j = (i : Int) → atI (xs.map V.str) j = some (.str (xs.getD i "")) := fun {xs i j} hi ej => by
      rw [ej]
      exact atI_nat (by rw [List.getElem?_map, (getD_in hi).2] <;> rfl)
    clear e1 e2 e3 g12 f1 f2 f3 g0 g1 g2 g3 g4
    -- links
    have c0 := Int.emod_nonneg n5 (show (10 : Int) ≠ 0 by decide)
    have c1 := Int.emod_lt_of_pos n5 (show (0 : Int) < 10 by decide)
    have c2 := Int.emod_nonneg (n5 / 10) (show (2 : Int) ≠ 0 by decide)
    have c3 := Int.emod_lt_of_pos (n5 / 10) (show (0 : Int) < 2 by decide)
    refine ⟨Nat.zero_le _, fun D hD => ?_⟩
    have start : Ex H3 (upd H3 D (.lst [])) := Ex.new hD
    refine ⟨_, rfl, _, rfl, _, _, rfl, rfl, p, _, _, _, rfl, rfl, (N3.ex start).at_, g5, .inl ⟨_, rfl, _, _, rfl, rfl, (by show (0 : Int) < 10; decide), _, rfl, _, rfl, _, _, rfl, rfl, p, _, _, _, rfl, rfl, (N3.ex start).at_, g5, _, _, rfl, rfl, ⟨by decide, by decide⟩, .inl ⟨_, rfl, _, _, rfl, rfl, (by show (0 : Int) < 2; decide), _, _, rfl, rfl, _, rfl, by omega, by omega, for_range (n := (n5 % 10 + n5 / 10 % 2).toNat) (fun i σ H' => ∃ (rows : List V) (ls : List Link) (v6 v7 v8 v9 v10 v11 v12 v13 : Option V), σ = [some (.ref p), some (.int 0), some (.ref q1), some (.ref q2), some (.ref q3), some (.ref D), v6, v7, v8, v9, v10, v11, v12, v13] ∧ Ex H3 H' ∧ H' D = some (.lst rows) ∧ DpAll K H' rows (ls.map dLink) ∧ ls.map (·.n) = ns.take i ∧ (∀ k ∈ ls, LinkOk ws ps k)) ?_ ?_ ?_⟩⟩⟩
    · exact ⟨[], [], none, none, none, none, none, none, none, none, rfl, start, upd_same, .nil, rfl, (fun k hk => by cases hk)⟩
    · rintro i σ H4 hi ⟨rows, ls, v6, v7, v8, v9, v10, v11, v12, v13, rfl, e4, hR, hd, hn, hok⟩
      have hi3 : i < ns.length := by omega
      have N4 := N3.ex e4
      have sq2 := SqL.of (K := K) (e4 _ _ h23)
      have rl : rows.length = i := by
        have z := congrArg List.length hn
        rw [List.length_map, List.length_take] at z
        rw [dps_len hd, List.length_map, z]
        omega
      obtain ⟨x1, x10, x11, gx1⟩ := get (H' := H4) (i := 0 + 6 + 5 * (0 + (i : Int))) (by omega) (by omega)
      obtain ⟨x4, x40, x41, gx4⟩ := get (H' := H4) (i := 0 + 6 + 5 * (0 + (i : Int)) + 4) (by omega) (by omega)
      refine ⟨_, rfl, _, _, rfl, rfl, _, rfl, _, _, rfl, rfl, .inl ⟨by decide, by decide⟩, _, _, rfl, rfl, ?_⟩
      refine ⟨_, rfl, _, rfl, p, _, _, _, rfl, rfl, N4.at_, gx1, .inl ⟨_, rfl, _, rfl, q2, _, rfl, .inl sq2, _, _, rfl, rfl, by rw [L2]; omega, ?_⟩⟩
      refine ⟨_, rfl, _, _, rfl, rfl, _, rfl, _, rfl, p, _, _, _, rfl, rfl, N4.at_, gx1, _, _, rfl, rfl, ⟨by decide, by decide⟩, .inl ⟨_, rfl, _, rfl, q2, _, rfl, .inl sq2, _, _, rfl, rfl, _, _, rfl, rfl, by rw [L2]; omega, _, _, rfl, rfl, .inl ⟨_, rfl, _, rfl, q2, _, rfl, .inl sq2, _, _, rfl, rfl, by rw [L2]; omega, ?_⟩⟩⟩
      have o0 := Int.fmod_nonneg_of_pos x1 (b := (((ps.map V.str).length : Nat) : Int)) (by rw [L2]; omega)
      have o1 := Int.fmod_lt_of_pos x1 (b := (((ps.map V.str).length : Nat) : Int)) (by rw [L2]; omega)
      have y0 := Int.fmod_nonneg_of_pos (x1 / 7) (b := (((ps.map V.str).length : Nat) : Int) - 1) (by rw [L2]; omega)
      have y1 := Int.fmod_lt_of_pos (x1 / 7) (b := (((ps.map V.str).length : Nat) : Int) - 1) (by rw [L2]; omega)
      obtain ⟨t0, t1, tn⟩ := other_ne o0 o1 y0 y1
      obtain ⟨ia, ea⟩ : ∃ ia : Nat, x1.fmod (((ps.map V.str).length : Nat) : Int) = (ia : Int) := ⟨_, (Int.toNat_of_nonneg o0).symm⟩
      obtain ⟨ib, eb⟩ : ∃ ib : Nat, (x1.fmod (((ps.map V.str).length : Nat) : Int) + 1 + (x1 / 7).fmod ((((ps.map V.str).length : Nat) : Int) - 1)).fmod (((ps.map V.str).length : Nat) : Int) = (ib : Int) := ⟨_, (Int.toNat_of_nonneg t0).symm⟩
      have ha : ia < ps.length := by omega
      have hb : ib < ps.length := by omega
      have hab : ia ≠ ib := by omega
      -- times
      refine ⟨Nat.zero_le _, fun l hl => ?_⟩
      have e5 : Ex H4 (upd H4 l (.lst [])) := Ex.new hl
      refine ⟨_, rfl, q1, _, rfl, .inl (SqL.of (e5 _ _ (e4 _ _ h13))), _, rfl, by omega, by omega, for_range (n := (((ws.map V.str).length : Nat) : Int).toNat) (fun j σ H' => ∃ (us : List V) (ts : List (Option (Int × Int))) (v11 v12 v13 : Option V), σ = [some (.ref p), some (.int 0), some (.ref q1), some (.ref q2), some (.ref q3), some (.ref D), some (.int (0 + (i : Int))), some (.int (0 + 6 + 5 * (0 + (i : Int)))), some (.int (x1.fmod (((ps.map V.str).length : Nat) : Int))), some (.int ((x1.fmod (((ps.map V.str).length : Nat) : Int) + 1 + (x1 / 7).fmod ((((ps.map V.str).length : Nat) : Int) - 1)).fmod (((ps.map V.str).length : Nat) : Int))), some (.ref l), v11, v12, v13] ∧ Ex H4 H' ∧ H' l = some (.lst us) ∧ DpAll K H' us (ts.map dTime) ∧ ts.length = j ∧ (∀ b ∈ ts, TimeOk b)) ?_ ?_ ?_⟩
      · exact ⟨[], [], v11, v12, v13, rfl, e5, upd_same, .nil, rfl, (fun b hb => by cases hb)⟩
      · rintro j σ H6 hj ⟨us, ts, v11, v12, v13, rfl, e6, hU, hdu, hlu, hku⟩
        have hj3 : j < 3 := by omega
        have N6 := N4.ex e6
        have ul : us.length = j := by rw [dps_len hdu, List.length_map, hlu]
        obtain ⟨y, y10, y11, gy1⟩ := get (H' := H6) (i := 0 + 6 + 5 * (0 + (i : Int)) + 1 + (0 + (j : Int))) (by omega) (by omega)
        have z0 := Int.emod_nonneg (y / 4) (show (9 : Int) ≠ 0 by decide)
        have z1 := Int.emod_lt_of_pos (y / 4) (show (0 : Int) < 9 by decide)
        refine ⟨_, rfl, _, rfl, _, _, rfl, rfl, _, rfl, _, _, rfl, rfl, p, _, _, _, rfl, rfl, N6.at_, gy1, ?_⟩
        refine ⟨_, rfl, _, _, rfl, rfl, ⟨by decide, by decide⟩, .inl ⟨_, rfl, _, _, rfl, rfl, (by show (0 : Int) < 9; decide), _, _, rfl, rfl, ?_⟩⟩
        refine ⟨fun σ H' => ∃ L : Int, 1 ≤ L ∧ L ≤ 900 ∧ σ = [some (.ref p), some (.int 0), some (.ref q1), some (.ref q2), some (.ref q3), some (.ref D), some (.int (0 + (i : Int))), some (.int (0 + 6 + 5 * (0 + (i : Int)))), some (.int (x1.fmod (((ps.map V.str).length : Nat) : Int))), some (.int ((x1.fmod (((ps.map V.str).length : Nat) : Int) + 1 + (x1 / 7).fmod ((((ps.map V.str).length : Nat) : Int) - 1)).fmod (((ps.map V.str).length : Nat) : Int))), some (.ref l), some (.int (0 + (j : Int))), some (.int y), some (.int L)] ∧ H' = H6, ?_, ?_⟩
        · refine ⟨_, rfl, .inl ⟨_, rfl, _, _, rfl, rfl, (by show (0 : Int) < 97; decide), rfl, _, rfl, ?_⟩⟩
          refine ite2 (fun _ => ?_) (fun _ => ⟨1 + y / 4 % 9, by omega, by omega, rfl, rfl⟩)
          refine ⟨_, rfl, .inl ⟨_, rfl, _, _, rfl, rfl, ?_⟩⟩
          refine ⟨_, rfl, _, _, rfl, ?_⟩
          exact ⟨if 200 + y < 900 then 200 + y else 900, by split <;> omega, by split <;> omega, rfl, rfl⟩
        rintro σ H7 ⟨L, L1', L9, rfl, hH⟩
        rw [hH]
        clear hH H7
        refine ⟨_, rfl, .inl ⟨_, rfl, _, _, rfl, rfl, (by show (0 : Int) < 4; decide), rfl, _, rfl, ?_⟩⟩
        refine ite2 (fun _ => ?_) (fun _ => ?_)
        · refine ⟨_, rfl, .inl ⟨rfl, _, SqL.of hU⟩, l, us, _, rfl, rfl, hU, sz_lt (by omega), us ++ [.non], ts ++ [none], _, _, _, rfl, e6.mut hl, upd_same, ?_, by rw [List.length_append, hlu] <;> rfl, fun b hb => ?_⟩
          · rw [List.map_append]
            exact dps_app (dps_exT (exT_mut hU) hdu (frozen_times _)) (dps_one .non)
          · rcases List.mem_append.mp hb with z | z
            · exact hku b z
            · rw [List.mem_singleton.mp z]; trivial
        · have w0 := Int.emod_nonneg (x4.fdiv (1 + (0 + (j : Int)))) (show (8 : Int) ≠ 0 by decide)
          have w1 := Int.emod_lt_of_pos (x4.fdiv (1 + (0 + (j : Int)))) (show (0 : Int) < 8 by decide)
          refine ⟨_, rfl, .inl ⟨rfl, _, SqL.of hU⟩, _, rfl, _, rfl, _, rfl, _, rfl, _, _, rfl, rfl, p, _, _, _, rfl, rfl, N6.at_, gx4, _, rfl, _, _, rfl, rfl, _, _, rfl, rfl, ⟨by omega, by omega⟩, .inl ⟨_, rfl, _, _, rfl, rfl, (by show (0 : Int) < 8; decide), _, _, rfl, rfl, by show 2 ≤ sizeLine; decide, fun t ht => ?_⟩⟩
          have e7 : Ex H6 (upd H6 t (.tup [.int L, .int (L + x4.fdiv (1 + (0 + (j : Int))) % 8)])) := Ex.new ht
          refine ⟨l, us, _, rfl, rfl, e7 _ _ hU, sz_lt (by omega), us ++ [.ref t], ts ++ [some (L, L + x4.fdiv (1 + (0 + (j : Int))) % 8)], _, _, _, rfl, (e6.trans e7).mut hl, upd_same, ?_, by rw [List.length_append, hlu] <;> rfl, fun b hb => ?_⟩
          · rw [List.map_append]
            exact dps_app (dps_exT (exT_mut (e7 _ _ hU)) (dps_ex e7 hdu) (frozen_times _)) (dps_one (dp_exT (exT_mut (e7 _ _ hU)) (.tup (st_of upd_same) (.cons (.int _) (.cons (.int _) .nil))) (frozen_time (some (L, L + x4.fdiv (1 + (0 + (j : Int))) % 8)))))
          · rcases List.mem_append.mp hb with z | z
            · exact hku b z
            · rw [List.mem_singleton.mp z]
              exact ⟨L1', by show L ≤ L + x4.fdiv (1 + (0 + (j : Int))) % 8; omega, by show L + x4.fdiv (1 + (0 + (j : Int))) % 8 ≤ 1000; omega⟩
      rintro σ H6 ⟨us, ts, v11, v12, v13, rfl, e6, hU, hdu, hlu, hku⟩
      have g46 := e4.trans e6
      refine ⟨_, rfl, .inl ⟨rfl, _, SqL.of (e6 _ _ hR)⟩, _, rfl, _, rfl, q3, _, _, _, rfl, rfl, SqL.of (g46 _ _ h3), pat hi3 (Int.zero_add _), _, rfl, _, rfl, q2, _, _, _, rfl, rfl, SqL.of (g46 _ _ h23), pat ha ea, _, rfl, _, rfl, q2, _, _, _, rfl, rfl, SqL.of (g46 _ _ h23), pat hb eb, _, rfl, l, _, rfl, .inl ⟨SqL.of hU, fun u hu => ⟨by show 4 ≤ sizeLine; decide, fun t ht => ?_⟩⟩⟩
      have e8 : Ex H6 (upd (upd H6 u (.tup us)) t (.tup [.str (ns.getD i ""), .str (ps.getD ia ""), .str (ps.getD ib ""), .ref u])) := (Ex.new hu).trans (Ex.new ht)
      have hRR := e8 _ _ (e6 _ _ hR)
      refine ⟨D, rows, _, rfl, rfl, hRR, sz_lt (by omega), rows ++ [.ref t], ls ++ [⟨ns.getD i "", ps.getD ia "", ps.getD ib "", ts⟩], _, _, _, _, _, _, _, _, rfl, (g46.trans e8).mut hD, upd_same, ?_, ?_, fun k0 hk => ?_⟩
      · rw [List.map_append]
        refine dps_exT (exT_mut hRR) (dps_app (dps_ex (e6.trans e8) hd) (dps_one (.tup (st_of upd_same) (.cons (.str _) (.cons (.str _) (.cons (.str _) (.cons (.tup (st_of (Ex.new ht _ _ upd_same)) (dps_ex e8 hdu)) .nil))))))) ?_
        rw [← List.map_append]
        exact frozen_links _
      · rw [List.map_append, hn, take_one (getD_in hi3).2]
        rfl
      · rcases List.mem_append.mp hk with z | z
        · exact hok k0 z
        · rw [List.mem_singleton.mp z]
          refine ⟨(getD_in ha).1, (getD_in hb).1, fun q => hab (getD_inj gp.2 ha hb q), ?_, hku⟩
          show ts.length = ws.length
          omega
    rintro σ H4 ⟨rows, ls, v6, v7, v8, v9, v10, v11, v12, v13, rfl, e4, hR, hd, hn, hok⟩
    have ll : ls.length ≤ 10 := by
      have z := congrArg List.length hn
      rw [List.length_map, List.length_take] at z
      omega
    have gl : Good (ls.map (·.n)) := by
      rw [hn]
      exact ⟨fun z hz => gn.1 z (List.mem_of_mem_take hz), List.Nodup.sublist (List.take_sublist _ _) gn.2⟩
    refine ⟨_, rfl, q1, _, rfl, .inl ⟨SqL.of (e4 _ _ h13), fun s1 z1 => ?_⟩⟩
    refine ⟨_, rfl, q2, _, rfl, .inl ⟨SqL.of (Ex.new z1 _ _ (e4 _ _ h23)), fun s2 z2 => ?_⟩⟩
    have k2 := (Ex.new (o := .tup (ws.map V.str)) z1).trans (Ex.new (o := .tup (ps.map V.str)) z2)
    refine ⟨_, rfl, D, _, rfl, .inl ⟨SqL.of (k2 _ _ hR), fun s3 z3 => ?_⟩⟩
    refine ⟨by show 3 ≤ sizeLine; decide, fun r hr => ?_⟩
    have f4 := (Ex.new (o := .tup rows) z3).trans (Ex.new (o := .lst [.ref s1, .ref s2, .ref s3]) hr)
    have k5 := k2.trans f4
    have g05 := g13.trans (e4.trans k5)
    refine k _ r ⟨ws, ps, ls, []⟩ s1 s2 s3 rows g05 (fresh_back (g13.trans (e4.trans (k2.trans (Ex.new z3)))) hr) upd_same ⟨SqL.of upd_same, ?_, ?_, ?_, ?_, rfl⟩ ?_ ?_
    · exact st_of (f4 _ _ (Ex.new z2 _ _ upd_same))
    · exact st_of (f4 _ _ upd_same)
    · exact st_of (Ex.new hr _ _ upd_same)
    · exact dps_ex k5 hd
    · exact ⟨by show 1 ≤ ws.length; omega, by show ws.length ≤ 4; omega, by show 1 ≤ ps.length; omega, by show ps.length ≤ 24; omega, by show ls.length ≤ 60; omega, Nat.zero_le _, gw, gp, gl, hok, (fun p hp => by cases hp), List.Pairwise.nil⟩
    · exact ⟨by show ws.length ≤ 3; omega, by show 2 ≤ ps.length; omega, by show ps.length ≤ 6; omega, ll⟩
end
end EV

set_option Elab.async false
set_option linter.all false
set_option maxRecDepth 100000
set_option maxHeartbeats 4000000
namespace EV
open PySem PySem.Spec PyProof.Rows L2 EvS Evl
/-! ### weathers, sides, numbers -/
def dWr (r : Int × Str) : PyData := .tuple [.int r.1, .str r.2]
def dPm (r : Str × Int) : PyData := .tuple [.str r.1, .int r.2]
theorem link_in {K : PySem.W.Frag} {H : Hp} {v : V} {k : Link} (h : Dp K H v (dLink k)) : ∃ t u vs, v = .ref t ∧ SqT K H t [.str k.n, .str k.o, .str k.t, .ref u] ∧ SqT K H u vs ∧ DpAll K H vs (k.ts.map dTime) := by
  unfold dLink at h
  cases h with
  | tup hs hr =>
    cases hr with
    | cons a1 hr =>
      cases a1
      cases hr with
      | cons a2 hr =>
        cases a2
        cases hr with
        | cons a3 hr =>
          cases a3
          cases hr with
          | cons a4 hr =>
            cases hr
            cases a4 with
            | tup hl ha => exact ⟨_, _, _, rfl, hs, hl, ha⟩
theorem wr_in {K : PySem.W.Frag} {H : Hp} {v : V} {r : Int × Str} (h : Dp K H v (dWr r)) : ∃ t, v = .ref t ∧ SqT K H t [.int r.1, .str r.2] := by
  unfold dWr at h
  cases h with
  | tup st al =>
    cases al with
    | cons d1 al =>
      cases al with
      | cons d2 al =>
        cases al
        cases d1
        cases d2
        exact ⟨_, rfl, st⟩
theorem pm_in {K : PySem.W.Frag} {H : Hp} {v : V} {r : Str × Int} (h : Dp K H v (dPm r)) : ∃ t, v = .ref t ∧ SqT K H t [.str r.1, .int r.2] := by
  unfold dPm at h
  cases h with
  | tup st al =>
    cases al with
    | cons d1 al =>
      cases al with
      | cons d2 al =>
        cases al
        cases d1
        cases d2
        exact ⟨_, rfl, st⟩
theorem pick {α : Type} {f : α → PyData} {K : PySem.W.Frag} {H : Hp} {vs : List V} {xs : List α} {i : Nat} {v : V} (h : DpAll K H vs (xs.map f)) (e : vs[i]? = some v) : ∃ x, xs[i]? = some x ∧ x ∈ xs ∧ Dp K H v (f x) := by
  obtain ⟨d, hd, dp⟩ := dps_at h e
  rw [List.getElem?_map] at hd
  obtain ⟨x, hx, rfl⟩ := Option.map_eq_some_iff.mp hd
  exact ⟨x, hx, List.mem_of_getElem? hx, dp⟩
theorem pick_i {α : Type} {f : α → PyData} {K : PySem.W.Frag} {H : Hp} {vs : List V} {xs : List α} {i : Nat} {x : α} (h : DpAll K H vs (xs.map f)) (e : xs[i]? = some x) : ∃ v, vs[i]? = some v ∧ Dp K H v (f x) := by
  have l := dps_len h
  rw [List.length_map] at l
  have hi := (List.getElem?_eq_some_iff.mp e).1
  obtain ⟨v, hv⟩ : ∃ v, vs[i]? = some v := ⟨vs[i]'(by omega), List.getElem?_eq_getElem (by omega)⟩
  obtain ⟨y, hy, _, d⟩ := pick h hv
  rw [e] at hy
  cases hy
  exact ⟨v, hv, d⟩
structure WOk (D : LandD) (ws : List (Int × Str)) : Prop where
  l1 : 1 ≤ ws.length
  l40 : ws.length ≤ 40
  nm : ∀ r ∈ ws, r.2 ∈ D.ws
  h0 : ∀ r ∈ ws.head?, r.1 = 0
  asc : ws.Pairwise fun a b => a.1 < b.1
  top : ∀ r ∈ ws, 0 ≤ r.1 ∧ r.1 ≤ 100000
def wt (D : LandD) (ws : List (Int × Str)) : FP.Wt := ws.map fun r => (r.1, D.ws.idxOf r.2)
def sideN (s : Nat) (b : Option (Int × Int)) : Option Int := b.map fun b => if s = 0 then b.1 else b.2
def lkS (s : Nat) (k : Link) : FP.Lk := ⟨k.o, k.t, k.ts.map (sideN s)⟩
def fireOf (D : LandD) (ws : List (Int × Str)) (st bs : List (Str × Int)) (s : Nat) : FP.Fire := ⟨wt D ws, D.ls.map (lkS s), st, FP.minOf bs⟩
def vInt : Option Int → V
  | none => .non
  | some i => .int i
def windS (ws : List (Int × Str)) (m : Int) (i : Nat) : Str := (ws.take i).foldl (fun z r => if r.1 ≤ m then r.2 else z) (ws.headD (0, "")).2
theorem fold_idx {ns : List Str} {m : Int} : ∀ {ws : List (Int × Str)} {z : Str}, ns.idxOf (ws.foldl (fun z r => if r.1 ≤ m then r.2 else z) z) = (ws.map fun r => (r.1, ns.idxOf r.2)).foldl (fun z r => if r.1 ≤ m then r.2 else z) (ns.idxOf z)
  | [], z => rfl
  | r :: ws, z => by
    rw [List.foldl_cons, List.map_cons, List.foldl_cons, fold_idx]
    congr 1
    by_cases h : r.1 ≤ m
    · rw [if_pos h, if_pos h]
    · rw [if_neg h, if_neg h]
theorem wind_idx {D : LandD} {ws : List (Int × Str)} {m : Int} (ne : ws ≠ []) : D.ws.idxOf (windS ws m ws.length) = FP.windAt (wt D ws) m := by
  unfold windS FP.windAt wt
  rw [List.take_length, fold_idx]
  cases ws with
  | nil => exact absurd rfl ne
  | cons r ws => rfl
theorem wind_mem {D : LandD} {ws : List (Int × Str)} {m : Int} (ok : WOk D ws) (i : Nat) : windS ws m i ∈ D.ws := by
  have key : ∀ (l : List (Int × Str)) (z : Str), z ∈ D.ws → (∀ r ∈ l, r.2 ∈ D.ws) → l.foldl (fun z r => if r.1 ≤ m then r.2 else z) z ∈ D.ws := fun l => by
    induction l with
    | nil => exact fun z hz _ => hz
    | cons r l ih =>
      intro z hz h
      rw [List.foldl_cons]
      refine ih _ ?_ fun x hx => h x (List.mem_cons_of_mem _ hx)
      split
      · exact h r List.mem_cons_self
      · exact hz
  unfold windS
  have l1 := ok.l1
  have hz : (ws.headD (0, "")).2 ∈ D.ws := by
    cases ws with
    | nil => exact absurd l1 (by decide)
    | cons r l => exact ok.nm r List.mem_cons_self
  exact key _ _ hz fun r hr => ok.nm r (List.mem_of_mem_take hr)
theorem wind_lt {D : LandD} {ws : List (Int × Str)} {m : Int} (ok : WOk D ws) : FP.windAt (wt D ws) m < D.ws.length := by
  rw [← wind_idx (fun e => by have := ok.l1; rw [e] at this; exact absurd this (by decide))]
  exact List.idxOf_lt_length_of_mem (wind_mem ok _)
end EV

set_option Elab.async false
set_option linter.all false
set_option maxRecDepth 100000
set_option maxHeartbeats 4000000
namespace EV
open PySem PySem.Spec PyProof.Rows L2 EvS Evl FD
def StOk (D : LandD) (sts : List (Str × Int)) : Prop := ∀ r ∈ sts, r.1 ∈ D.ps ∧ 0 ≤ r.2
theorem fire_ok {D : LandD} (ok : LandOk D) {ws : List (Int × Str)} {sts bs : List (Str × Int)} (hs : StOk D sts) (s : Nat) : FP.Ok (fireOf D ws sts bs s) D.ps where
  nn := fun r hr => (hs r hr).2
  rows := fun l hl => by
    obtain ⟨k, hk, rfl⟩ := List.mem_map.mp hl
    intro x hx
    obtain ⟨b, hb, e⟩ := List.mem_map.mp hx
    cases b with
    | none => cases e
    | some b =>
      have t := (ok.lk k hk).ok _ hb
      unfold sideN at e
      obtain rfl := Option.some.inj e
      obtain ⟨h1, h2, h3⟩ := t
      split
      · exact h1
      · exact Int.le_trans h1 h2
  sp := fun r hr => (hs r hr).1
  ends := fun l hl => by
    obtain ⟨k, hk, rfl⟩ := List.mem_map.mp hl
    exact ⟨(ok.lk k hk).o, (ok.lk k hk).t⟩
theorem least_min (o : Option Int) (m : Int) : FP.least o (some m) = some (if (o.getD m) < m then o.getD m else m) := by
  cases o with
  | none => rw [if_neg (by simp)]; rfl
  | some c =>
    show (if m < c then some m else some c) = some (if c < m then c else m)
    by_cases h : m < c
    · rw [if_pos h, if_neg (by omega)]
    · rw [if_neg h]
      by_cases h2 : c < m
      · rw [if_pos h2]
      · rw [if_neg h2, show c = m by omega]
end EV

set_option Elab.async false
set_option linter.all false
set_option maxRecDepth 100000
set_option maxHeartbeats 4000000
namespace EV
open PySem PySem.Spec PyProof.Rows L2 EvS Evl FD
/-- the reading of t.index(x), over K -/
def rTupIx (K : PySem.W.Frag) : V → List V → Hp → VK → Prop := fun x xs H Q => ∃ p, ∃ ys : List Str, ∃ z j, x = .ref p ∧ xs = [.str z] ∧ SqT K H p (ys.map V.str) ∧ ys[j]? = some z ∧ (∀ m, m < j → ys[m]? ≠ some z) ∧ Q (.int (j : Nat)) H
/-- the reading of len(..) of a list or a tuple, over K -/
def rLenK (K : PySem.W.Frag) : List V → Hp → VK → Prop := fun xs H Q => ∃ p ys, xs = [.ref p] ∧ (SqL K H p ys ∨ SqT K H p ys) ∧ Q (.int (ys.length : Nat)) H
theorem iteNT {A B : Prop} (h : B) : if (!true) = true then A else B := by
  simpa using h
theorem fs_check_place (wi pl li pa : Addr) : (landFs wi pl li pa).lookup ("check_place" : Str) = none := by
  unfold landFs
  rw [lookup_putF, if_neg (by decide +kernel), lookup_putF, if_neg (by decide +kernel), lookup_putF, if_neg (by decide +kernel), lookup_putF, if_neg (by decide +kernel)]
  rfl
theorem fs_check_wind (wi pl li pa : Addr) : (landFs wi pl li pa).lookup ("check_wind" : Str) = none := by
  unfold landFs
  rw [lookup_putF, if_neg (by decide +kernel), lookup_putF, if_neg (by decide +kernel), lookup_putF, if_neg (by decide +kernel), lookup_putF, if_neg (by decide +kernel)]
  rfl
theorem inV_in {z : Str} {ys : List Str} (h : z ∈ ys) : inV (.str z) (ys.map V.str) = true := by
  unfold inV
  rw [List.any_map, List.any_eq_true]
  exact ⟨z, h, by show (z == z) = true; exact beq_self_eq_true z⟩
theorem flat_strs (ys : List Str) : (ys.map V.str).all flatV = true := by
  rw [List.all_map, List.all_eq_true]
  intro x _
  rfl
def sp_check_place (K : PySem.W.Frag) (C : Addr) : Sp := fun vs H Q _ => ∃ (x : Addr) (D : LandD) (z : Str), vs = [.ref x, .str z] ∧ IsLand K C H x D ∧ z ∈ D.ps ∧ Q .non H
def sp_check_wind (K : PySem.W.Frag) (C : Addr) : Sp := fun vs H Q _ => ∃ (x : Addr) (D : LandD) (z : Str), vs = [.ref x, .str z] ∧ IsLand K C H x D ∧ z ∈ D.ws ∧ Q .non H
def sp_check_winds (K : PySem.W.Frag) (C : Addr) : Sp := fun vs H Q _ => ∃ (x w : Addr) (D : LandD) (us : List V) (ws : List (Int × Str)), vs = [.ref x, .ref w] ∧ IsLand K C H x D ∧ SqL K H w us ∧ DpAll K H us (ws.map dWr) ∧ (∀ r ∈ ws, r.2 ∈ D.ws) ∧ Q .non H
def sp_check_rows (K : PySem.W.Frag) : Sp := fun vs H Q _ => ∃ (w : Addr) (D : LandD) (us : List V) (ws : List (Int × Str)), vs = [.ref w] ∧ SqL K H w us ∧ DpAll K H us (ws.map dWr) ∧ WOk D ws ∧ ∀ H', Ex H H' → Q .non H'
def sp_least_minutes (K : PySem.W.Frag) : Sp := fun vs H Q _ => ∃ (b : Addr) (ys : List V) (bs : List (Str × Int)), vs = [.ref b] ∧ SqL K H b ys ∧ DpAll K H ys (bs.map dPm) ∧ bs.length ≤ 1000 ∧ ∀ d H', Ex H H' → H d = none → Tab H' d (FP.minOf bs) → Q (.ref d) H'
def dOpt : Option Int → PyData
  | none => .none
  | some i => .int i
theorem dp_opt {K : PySem.W.Frag} {H : Hp} (o : Option Int) : Dp K H (vInt o) (dOpt o) := by
  cases o with
  | none => exact .non
  | some i => exact .int i
theorem opt_dp {K : PySem.W.Frag} {H : Hp} {v : V} {o : Option Int} (h : Dp K H v (dOpt o)) : v = vInt o := by
  cases o with
  | none => cases h; rfl
  | some i => cases h; rfl
def dSp (s : FP.Spell) : PyData := .tuple [.int s.1, dOpt s.2.1, .int (s.2.2 : Nat)]
theorem frozen_opt (o : Option Int) : frozen (dOpt o) = true := by cases o <;> simp [dOpt, frozen]
theorem frozen_sp (s : FP.Spell) : frozen (dSp s) = true := by simp [dSp, frozen, frozenAll, frozen_opt]
theorem spells_get : ∀ {l : FP.Wt} {i : Nat}, (FP.spells l)[i]? = l[i]?.map fun r => (r.1, l[i + 1]?.map (·.1), r.2)
  | [], i => by simp [FP.spells]
  | [r], 0 => rfl
  | [r], i + 1 => by simp [FP.spells]
  | r :: q :: l, 0 => rfl
  | r :: q :: l, i + 1 => by
    show (FP.spells (q :: l))[i]? = _
    rw [spells_get]
    rfl
theorem spells_len (l : FP.Wt) : (FP.spells l).length = l.length := by
  have key : ∀ l : FP.Wt, (FP.spells l).length = l.length := fun l => by
    induction l with
    | nil => rfl
    | cons r l ih =>
      cases l with
      | nil => rfl
      | cons q l =>
        show (FP.spells (q :: l)).length + 1 = _
        rw [ih]
        rfl
  exact key l
def sp_spells_of (K : PySem.W.Frag) (C : Addr) : Sp := fun vs H Q _ => ∃ (x w : Addr) (D : LandD) (us : List V) (ws : List (Int × Str)), vs = [.ref x, .ref w] ∧ IsLand K C H x D ∧ SqL K H w us ∧ DpAll K H us (ws.map dWr) ∧ WOk D ws ∧
  ∀ (l : Addr) (H' : Hp) (acc : List V), Ex H H' → H l = none → H' l = some (.lst acc) → DpAll K H' acc ((FP.spells (wt D ws)).map dSp) → Q (.ref l) H'
section
variable {P : Program} {w : World} {K : PySem.W.Frag} {mg : Str → Option Value} {base : Heap} {a : Ad}
end
end EV

set_option Elab.async false
set_option linter.all false
set_option maxRecDepth 100000
set_option maxHeartbeats 8000000
namespace EV
open PySem PySem.Spec PyProof.Rows L2 EvS Evl FD
def dRow (row : List (Option Int)) : PyData := .tuple (row.map dOpt)
theorem row_in {K : PySem.W.Frag} {H : Hp} {v : V} {row : List (Option Int)} (h : Dp K H v (dRow row)) : ∃ r, v = .ref r ∧ SqT K H r (row.map vInt) := by
  unfold dRow at h
  cases h with
  | tup st al =>
    have key : ∀ {vs : List V} {row : List (Option Int)}, DpAll K H vs (row.map dOpt) → vs = row.map vInt := fun {vs row} => by
      induction row generalizing vs with
      | nil => intro h; cases h; rfl
      | cons o row ih =>
        intro h
        cases h with
        | cons h1 h2 => rw [opt_dp h1, ih h2]; rfl
    rw [key al] at st
    exact ⟨_, rfl, st⟩
def numsS (s : Nat) (D : LandD) : List (List (Option Int)) := D.ls.map fun k => k.ts.map (sideN s)
def spNums (s : Nat) (K : PySem.W.Frag) (C : Addr) : Sp := fun vs H Q _ => ∃ (l : Addr) (D : LandD), vs = [.ref l] ∧ IsLand K C H l D ∧ LandOk D ∧ ∀ H' nt ns, Ex H H' → H nt = none → SqT K H' nt ns → DpAll K H' ns ((numsS s D).map dRow) → Q (.ref nt) H'
def sp_least_numbers (K : PySem.W.Frag) (C : Addr) : Sp := spNums 0 K C
def sp_most_numbers (K : PySem.W.Frag) (C : Addr) : Sp := spNums 1 K C
theorem frozen_row (row : List (Option Int)) : frozen (dRow row) = true := by
  unfold dRow
  rw [frozen]
  exact frozenAll_of fun d hd => by
    obtain ⟨b, _, rfl⟩ := List.mem_map.mp hd
    exact frozen_opt b
theorem dps_opt {K : PySem.W.Frag} {H : Hp} : ∀ row : List (Option Int), DpAll K H (row.map vInt) (row.map dOpt)
  | [] => .nil
  | o :: row => .cons (dp_opt o) (dps_opt row)
def Within1 : Option (Int × Int) → Option Int → Prop
  | none, none => True
  | some b, some x => b.1 ≤ x ∧ x ≤ b.2
  | _, _ => False
structure Within (D : LandD) (nums : List (List (Option Int))) : Prop where
  len : nums.length = D.ls.length
  row : ∀ (j : Nat) k row, D.ls[j]? = some k → nums[j]? = some row → row.length = k.ts.length ∧ ∀ (i : Nat) b x, k.ts[i]? = some b → row[i]? = some x → Within1 b x
theorem neq_ff {a b : Nat} (h : a = b) : ¬ (!decide (V.int (a : Int) = V.int (b : Int))) = true := by subst h; simp
theorem Nums.get {K : PySem.W.Frag} {H : Hp} {p : Addr} {ks : List Int} (N : Nums K H p ks) {i : Int} (h0 : 0 ≤ i) (h1 : i < 90) : ∃ n, 0 ≤ n ∧ n < 1009 ∧ atI (ks.map V.int) i = some (.int n) := by
  have lo := N.lo
  obtain ⟨n, hn, hat, _⟩ := num_in (ks := ks) (i := i) h0 (by omega)
  exact ⟨n, (N.sm n hn).1, (N.sm n hn).2, hat⟩
theorem str_pick {ps : List Str} (h : 1 ≤ ps.length) (x : Int) : ((ps.map V.str).length : Int) ≠ 0 ∧ ∃ z, z ∈ ps ∧ atI (ps.map V.str) (x.fmod ((ps.map V.str).length : Int)) = some (.str z) := by
  have L : (ps.map V.str).length = ps.length := List.length_map ..
  have o0 := Int.fmod_nonneg_of_pos x (b := (((ps.map V.str).length : Nat) : Int)) (by omega)
  have o1 := Int.fmod_lt_of_pos x (b := (((ps.map V.str).length : Nat) : Int)) (by omega)
  obtain ⟨i, ei⟩ : ∃ i : Nat, x.fmod (((ps.map V.str).length : Nat) : Int) = (i : Int) := ⟨_, (Int.toNat_of_nonneg o0).symm⟩
  have hi : i < ps.length := by omega
  refine ⟨by omega, ps[i], List.getElem_mem hi, ?_⟩
  rw [ei]
  exact atI_nat (by rw [List.getElem?_map, List.getElem?_eq_getElem hi] <;> rfl)
theorem str_at {ps : List Str} {v : Int} (h0 : 0 ≤ v) (h1 : v < ps.length) : ∃ z, z ∈ ps ∧ atI (ps.map V.str) v = some (.str z) := by
  obtain ⟨i, rfl⟩ : ∃ i : Nat, v = (i : Int) := ⟨_, (Int.toNat_of_nonneg h0).symm⟩
  have hi : i < ps.length := by omega
  exact ⟨ps[i], List.getElem_mem hi, atI_nat (by rw [List.getElem?_map, List.getElem?_eq_getElem hi] <;> rfl)⟩
theorem at_last {xs : List V} {v : V} (h : xs[xs.length - 1]? = some v) : atI xs (-1) = some v := by
  have := (List.getElem?_eq_some_iff.mp h).1
  unfold atI ixN
  rw [if_neg (by decide), if_pos (by omega)]
  show xs[(-1 + (xs.length : Int)).toNat]? = _
  rw [show (-1 + (xs.length : Int)).toNat = xs.length - 1 by omega, h]
theorem eq_str {x y : Str} : eqV (.str x) (.str y) = true ↔ x = y := ⟨fun e => eq_of_beq (show (x == y) = true from e), fun e => by rw [e]; exact beq_self_eq_true y⟩
theorem ne_str {x y : Str} (h : x ≠ y) : eqV (.str x) (.str y) = false := by
  cases e : eqV (.str x) (.str y) with
  | true => exact absurd (eq_str.mp e) h
  | false => rfl
def sp3__law_made (K : PySem.W.Frag) (C : Addr) : Sp := fun vs H Q _ => ∃ (p : Addr) (D : LandD) (wi pl li : Addr) (rows : List V), vs = [.ref p] ∧ Parts3 K H p D wi pl li rows ∧ LandOk D ∧ ∀ H' x, Ex H H' → H x = none → IsLand K C H' x D → Q (.ref x) H'
def RowW (k : Link) (row : List (Option Int)) : Prop := row.length = k.ts.length ∧ ∀ (i : Nat) b x, k.ts[i]? = some b → row[i]? = some x → Within1 b x
theorem row_at {row : List (Option Int)} {n w : Nat} (l : row.length = n) (h : w < n) : (row.map vInt)[w]? = some (vInt (FP.num row w)) := by
  unfold FP.num
  rw [List.getElem?_map, List.getD_eq_getElem?_getD, List.getElem?_eq_getElem (by omega)]
  rfl
theorem frozen_row1 (row : List (Option Int)) : frozenAll (row.map dOpt) = true := frozenAll_of fun d hd => by
  obtain ⟨b, _, rfl⟩ := List.mem_map.mp hd
  exact frozen_opt b
def sp5__law_between (K : PySem.W.Frag) : Sp := fun vs H Q _ => ∃ (p q : Addr) (ks : List Int) (D : LandD) (wi pl li : Addr) (rows : List V), vs = [.ref p, .ref q, .int 60] ∧ Nums K H q ks ∧ Parts3 K H p D wi pl li rows ∧ LandOk D ∧ Small3 D ∧
  ∀ H' nt ns nums, Ex H H' → H nt = none → SqT K H' nt ns → DpAll K H' ns (nums.map dRow) → Within D nums → Q (.ref nt) H'
def sp5__law_side (K : PySem.W.Frag) : Sp := fun vs H Q _ => ∃ (p : Addr) (s : Nat) (D : LandD) (wi pl li : Addr) (rows : List V), vs = [.ref p, .int (s : Int)] ∧ Parts3 K H p D wi pl li rows ∧ LandOk D ∧ s < 2 ∧
  ∀ H' nt ns, Ex H H' → H nt = none → SqT K H' nt ns → DpAll K H' ns ((numsS s D).map dRow) → Q (.ref nt) H'
section
variable {P : Program} {w : World} {K : PySem.W.Frag} {mg : Str → Option Value} {base : Heap} {a : Ad}
theorem G_least_numbers (T : Txt K mg a) : FnOk P w K mg base CX0 1 a.f_least_numbers a.d_least_numbers ["land"] (sp_least_numbers K a.C) := by
  refine T.F_least_numbers.ok sc_least_numbers (fun vs H Q E h => ?_) (fun cdv A outer s H vs Q E hr h => ?_)
  · obtain ⟨l, D, rfl, _⟩ := h
    rfl
  · obtain ⟨l, D, rfl, hl, ok, k⟩ := h
    obtain ⟨dxl, wi, pl, li, pa, rows, prs, L⟩ := hl
    have lr := dps_len L.ls
    rw [List.length_map] at lr
    have l60 := ok.l60
    have w4 := ok.w4
    refine ⟨_, (pss_one (ps_ret (pe_callTy call_tupK (by rfl) T.z_tuple (by decide +kernel) (pa_cons (pe_lc (own := [("link", 1)]) (g := gName 1) (tt := tYes) rfl sc_least_numbers.nd (pi_tup (pe_fld (pv 0) rfl)) (blkOk_by (N := ["land", "link", "bounds"]) (sc := defScope s_least_numbers) (by decide +kernel)) (fun _ _ _ _ _ => pg_name (i := 1) sc_least_numbers.nd rfl (Or.inl rfl)) (fun _ _ _ _ _ => pts_nil) (fun _ _ _ _ _ => (pe_callTy (show CallR _ _ (rTupK K) from call_tupK) (by rfl) T.z_tuple (by decide +kernel) (pa_cons (pe_lc (own := [("bounds", 2)]) (g := gName 2) (tt := tYes) rfl sc_least_numbers.nd (show PI _ _ _ (iTup K (tOp (rIxT K) (tVar 1) (tC (.int 3)))) from (pi_tup (pe_ix (show IxR _ (rIxT K) from ix_tup) (pv 1) pe_int (fun _ _ => rfl)))) (EvS.blkOk_nest (N := ["land", "link", "bounds"]) (sc := defScope s_least_numbers) rfl rfl (by decide +kernel)) (fun _ _ _ _ _ => pg_name (i := 2) sc_least_numbers.nd rfl (Or.inl rfl)) (fun _ _ _ _ _ => pts_nil) (fun _ _ _ _ _ => (pe_ifExp (pt_cmpR op_isN (pv 2) pe_non (nomark _)) pe_non (pe_ix (show IxR _ (rIxT K) from ix_tup) (pv 2) pe_int (fun _ _ => rfl))))) pa_nil)))) pa_nil)))), ?_⟩
    refine ⟨_, rfl, l, a.C, dxl, _, _, rfl, L.ob, T.cl, T.nL, fs_links .., li, rfl, ⟨_, L.li⟩, fun D0 hD => lcY_tup (K := K) (a := li) (xs := rows) (fun i H' => Ex H H' ∧ ∃ acc, H' D0 = some (.lst acc) ∧ acc.length = i ∧ DpAll K (del H' D0) acc (((numsS 0 D).take i).map dRow)) ⟨Ex.new hD, [], upd_same, rfl, .nil⟩ (fun i H' _ z => ex_t z.1 L.li) (fun i y H' hy z => ?_) (fun H2 z => ?_)⟩
    · obtain ⟨e, acc, ha, la, da⟩ := z
      have hi := (List.getElem?_eq_some_iff.mp hy).1
      obtain ⟨q, hq, hm, dp⟩ := pick (dps_ex e L.ls) hy
      obtain ⟨t, u, vs, rfl, hT, hU, hts⟩ := link_in dp
      have lv := dps_len hts
      rw [List.length_map] at lv
      have lkt := (ok.lk q hm).len
      have nq : (numsS 0 D)[i]? = some (q.ts.map (sideN 0)) := by unfold numsS; rw [List.getElem?_map, hq]; rfl
      refine ⟨rfl, _, rfl, t, _, _, _, rfl, rfl, hT, atI_nat (j := 3) rfl, u, rfl, ⟨_, hU⟩, fun D1 hD1 => lcY_tup (K := K) (a := u) (xs := vs) (fun j H2 => Ex H' H2 ∧ H2 D1 = some (.lst (((q.ts.take j).map (sideN 0)).map vInt))) ⟨Ex.new hD1, upd_same⟩ (fun j H2 _ z => ex_t z.1 hU) (fun j y2 H2 hy2 z => ?_) (fun H2 z => ?_)⟩
      · obtain ⟨e2, h1⟩ := z
        have hj := (List.getElem?_eq_some_iff.mp hy2).1
        obtain ⟨bn, hbn, _, db⟩ := pick (dps_ex e2 hts) hy2
        have nx : ∀ {v : V}, v = vInt (sideN 0 bn) → ∃ acc, H2 D1 = some (.lst acc) ∧ acc.length < sizeLine ∧ Ex H' (upd H2 D1 (.lst (acc ++ [v]))) ∧ (upd H2 D1 (.lst (acc ++ [v]))) D1 = some (.lst (((q.ts.take (j + 1)).map (sideN 0)).map vInt)) := fun {v} ev =>
          ⟨_, h1, sz_lt (by simp only [List.length_map, List.length_take]; omega), e2.mut hD1, by rw [upd_same, take_one hbn, List.map_append, List.map_append, ev]; rfl⟩
        refine ⟨rfl, _, rfl, ?_⟩
        cases bn with
        | none =>
          cases db
          exact ⟨rfl, _, rfl, iteT (nx rfl)⟩
        | some bn =>
          cases db with
          | @tup z _ _ hz hr =>
            cases hr with
            | cons a1 hr =>
              cases a1
              cases hr with
              | cons a2 hr =>
                cases a2
                cases hr
                exact ⟨rfl, _, rfl, iteF ⟨_, rfl, z, _, _, _, rfl, rfl, hz, atI_nat (j := 0) rfl, nx rfl⟩⟩
      obtain ⟨e2, h1⟩ := z
      rw [lv, List.take_length] at h1
      have ha2 := e2 _ _ ha
      refine ⟨D1, _, rfl, .inl ⟨SqL.of h1, fun tl htl => ?_⟩⟩
      have e3 := e2.trans (Ex.new (o := .tup ((q.ts.map (sideN 0)).map vInt)) htl)
      have tD : tl ≠ D0 := fun z => by rw [z, ha2] at htl; cases htl
      refine ⟨acc, e3 _ _ ha, sz_lt (by omega), (e.trans e3).mut hD, _, upd_same, by rw [List.length_append, la] <;> rfl, ?_⟩
      rw [del_upd, take_one nq, List.map_append]
      exact dps_app (dps_ex (ex_del e3) da) (dps_one (.tup (st_of (del_at tD upd_same)) (dps_opt _)))
    · obtain ⟨e, acc, ha, la, da⟩ := z
      have ln : (numsS 0 D).length = rows.length := by unfold numsS; rw [List.length_map, lr]
      rw [← ln, List.take_length] at da
      refine ⟨D0, acc, rfl, .inl ⟨SqL.of ha, fun nt hnt => ?_⟩⟩
      exact k _ nt acc (e.trans (Ex.new hnt)) (fresh_back e hnt) (st_of upd_same) (dps_ex (del_ex.trans (Ex.new hnt)) da)
theorem G_most_numbers (T : Txt K mg a) : FnOk P w K mg base CX0 1 a.f_most_numbers a.d_most_numbers ["land"] (sp_most_numbers K a.C) := by
  refine T.F_most_numbers.ok sc_most_numbers (fun vs H Q E h => ?_) (fun cdv A outer s H vs Q E hr h => ?_)
  · obtain ⟨l, D, rfl, _⟩ := h
    rfl
  · obtain ⟨l, D, rfl, hl, ok, k⟩ := h
    obtain ⟨dxl, wi, pl, li, pa, rows, prs, L⟩ := hl
    have lr := dps_len L.ls
    rw [List.length_map] at lr
    have l60 := ok.l60
    have w4 := ok.w4
    refine ⟨_, (pss_one (ps_ret (pe_callTy call_tupK (by rfl) T.z_tuple (by decide +kernel) (pa_cons (pe_lc (own := [("link", 1)]) (g := gName 1) (tt := tYes) rfl sc_most_numbers.nd (pi_tup (pe_fld (pv 0) rfl)) (blkOk_by (N := ["land", "link", "bounds"]) (sc := defScope s_most_numbers) (by decide +kernel)) (fun _ _ _ _ _ => pg_name (i := 1) sc_most_numbers.nd rfl (Or.inl rfl)) (fun _ _ _ _ _ => pts_nil) (fun _ _ _ _ _ => (pe_callTy (show CallR _ _ (rTupK K) from call_tupK) (by rfl) T.z_tuple (by decide +kernel) (pa_cons (pe_lc (own := [("bounds", 2)]) (g := gName 2) (tt := tYes) rfl sc_most_numbers.nd (show PI _ _ _ (iTup K (tOp (rIxT K) (tVar 1) (tC (.int 3)))) from (pi_tup (pe_ix (show IxR _ (rIxT K) from ix_tup) (pv 1) pe_int (fun _ _ => rfl)))) (EvS.blkOk_nest (N := ["land", "link", "bounds"]) (sc := defScope s_most_numbers) rfl rfl (by decide +kernel)) (fun _ _ _ _ _ => pg_name (i := 2) sc_most_numbers.nd rfl (Or.inl rfl)) (fun _ _ _ _ _ => pts_nil) (fun _ _ _ _ _ => (pe_ifExp (pt_cmpR op_isN (pv 2) pe_non (nomark _)) pe_non (pe_ix (show IxR _ (rIxT K) from ix_tup) (pv 2) pe_int (fun _ _ => rfl))))) pa_nil)))) pa_nil)))), ?_⟩
    refine ⟨_, rfl, l, a.C, dxl, _, _, rfl, L.ob, T.cl, T.nL, fs_links .., li, rfl, ⟨_, L.li⟩, fun D0 hD => lcY_tup (K := K) (a := li) (xs := rows) (fun i H' => Ex H H' ∧ ∃ acc, H' D0 = some (.lst acc) ∧ acc.length = i ∧ DpAll K (del H' D0) acc (((numsS 1 D).take i).map dRow)) ⟨Ex.new hD, [], upd_same, rfl, .nil⟩ (fun i H' _ z => ex_t z.1 L.li) (fun i y H' hy z => ?_) (fun H2 z => ?_)⟩
    · obtain ⟨e, acc, ha, la, da⟩ := z
      have hi := (List.getElem?_eq_some_iff.mp hy).1
      obtain ⟨q, hq, hm, dp⟩ := pick (dps_ex e L.ls) hy
      obtain ⟨t, u, vs, rfl, hT, hU, hts⟩ := link_in dp
      have lv := dps_len hts
      rw [List.length_map] at lv
      have lkt := (ok.lk q hm).len
      have nq : (numsS 1 D)[i]? = some (q.ts.map (sideN 1)) := by unfold numsS; rw [List.getElem?_map, hq]; rfl
      refine ⟨rfl, _, rfl, t, _, _, _, rfl, rfl, hT, atI_nat (j := 3) rfl, u, rfl, ⟨_, hU⟩, fun D1 hD1 => lcY_tup (K := K) (a := u) (xs := vs) (fun j H2 => Ex H' H2 ∧ H2 D1 = some (.lst (((q.ts.take j).map (sideN 1)).map vInt))) ⟨Ex.new hD1, upd_same⟩ (fun j H2 _ z => ex_t z.1 hU) (fun j y2 H2 hy2 z => ?_) (fun H2 z => ?_)⟩
      · obtain ⟨e2, h1⟩ := z
        have hj := (List.getElem?_eq_some_iff.mp hy2).1
        obtain ⟨bn, hbn, _, db⟩ := pick (dps_ex e2 hts) hy2
        have nx : ∀ {v : V}, v = vInt (sideN 1 bn) → ∃ acc, H2 D1 = some (.lst acc) ∧ acc.length < sizeLine ∧ Ex H' (upd H2 D1 (.lst (acc ++ [v]))) ∧ (upd H2 D1 (.lst (acc ++ [v]))) D1 = some (.lst (((q.ts.take (j + 1)).map (sideN 1)).map vInt)) := fun {v} ev =>
          ⟨_, h1, sz_lt (by simp only [List.length_map, List.length_take]; omega), e2.mut hD1, by rw [upd_same, take_one hbn, List.map_append, List.map_append, ev]; rfl⟩
        refine ⟨rfl, _, rfl, ?_⟩
        cases bn with
        | none =>
          cases db
          exact ⟨rfl, _, rfl, iteT (nx rfl)⟩
        | some bn =>
          cases db with
          | @tup z _ _ hz hr =>
            cases hr with
            | cons a1 hr =>
              cases a1
              cases hr with
              | cons a2 hr =>
                cases a2
                cases hr
                exact ⟨rfl, _, rfl, iteF ⟨_, rfl, z, _, _, _, rfl, rfl, hz, atI_nat (j := 1) rfl, nx rfl⟩⟩
      obtain ⟨e2, h1⟩ := z
      rw [lv, List.take_length] at h1
      have ha2 := e2 _ _ ha
      refine ⟨D1, _, rfl, .inl ⟨SqL.of h1, fun tl htl => ?_⟩⟩
      have e3 := e2.trans (Ex.new (o := .tup ((q.ts.map (sideN 1)).map vInt)) htl)
      have tD : tl ≠ D0 := fun z => by rw [z, ha2] at htl; cases htl
      refine ⟨acc, e3 _ _ ha, sz_lt (by omega), (e.trans e3).mut hD, _, upd_same, by rw [List.length_append, la] <;> rfl, ?_⟩
      rw [del_upd, take_one nq, List.map_append]
      exact dps_app (dps_ex (ex_del e3) da) (dps_one (.tup (st_of (del_at tD upd_same)) (dps_opt _)))
    · obtain ⟨e, acc, ha, la, da⟩ := z
      have ln : (numsS 1 D).length = rows.length := by unfold numsS; rw [List.length_map, lr]
      rw [← ln, List.take_length] at da
      refine ⟨D0, acc, rfl, .inl ⟨SqL.of ha, fun nt hnt => ?_⟩⟩
      exact k _ nt acc (e.trans (Ex.new hnt)) (fresh_back e hnt) (st_of upd_same) (dps_ex (del_ex.trans (Ex.new hnt)) da)
theorem kb_wpl (T : Txt K mg a) : ∃ mv : List Value, KBn K a.d_init ["self", "winds", "places", "links", "paths"] 1 ["winds", "places", "links"] (fun us ws => us ++ (ws ++ mv)) (fun vs zs => vs ++ (zs ++ [.ref a.te])) :=
  T.F_init.kbinds0 (ps := ["self", "winds", "places", "links", "paths"]) 1 ["winds", "places", "links"] [("paths", .ref a.te)] (fun us mv ws => us ++ (ws ++ mv)) (by simp) (fun q hq => by rw [List.mem_singleton] at hq; rw [hq]; simp) (fun r1 r2 r3 => r1.append (r3.append r2))
    (fun D doc pm an cdv ct us mv ws h1 h2 h3 => match us, mv, ws, h1, h2, h3 with
      | [_], [_], [_, _, _], _, _, _ => ⟨_, _, _, _, _, _, rfl, rfl, rfl⟩)
theorem G__law_made (T : Txt K mg a) : FnOk P w K mg base CX0 5 a.f__law_made a.d__law_made ["parts"] (sp3__law_made K a.C) := by
  obtain ⟨mv, kb_Land_wpl⟩ := kb_wpl T
  refine T.F__law_made.ok sc__law_made (fun vs H Q E h => ?_) (fun cdv A outer s H vs Q E hr h => ?_)
  · obtain ⟨p, D, wi, pl, li, rows, rfl, _⟩ := h
    rfl
  · obtain ⟨p, D, wi, pl, li, rows, rfl, S, ok, k⟩ := h
    refine ⟨_, (pss_one (ps_ret (pe_makeK0 T.mk_Land (G_init T) (hr.mono (by decide)) (by rfl) T.g_Land kb_Land_wpl pass0 (pk_cons (pe_callTy call_lstK (by rfl) T.z_list (by decide +kernel) (pa_cons (pe_ix ix_list (pv 0) pe_int (fun _ _ => rfl)) pa_nil)) (pk_cons (pe_callTy call_lstK (by rfl) T.z_list (by decide +kernel) (pa_cons (pe_ix ix_list (pv 0) pe_int (fun _ _ => rfl)) pa_nil)) (pk_cons (pe_callTy call_lstK (by rfl) T.z_list (by decide +kernel) (pa_cons (pe_ix ix_list (pv 0) pe_int (fun _ _ => rfl)) pa_nil)) pk_nil)))))), ?_⟩
    refine ⟨_, rfl, p, _, _, _, rfl, rfl, S.ob, atI_nat (j := 0) rfl, wi, _, rfl, .inr S.wi, fun l1 h1 => ?_⟩
    have S1 := S.ex (Ex.new (o := .lst (D.ws.map V.str)) h1)
    refine ⟨_, rfl, p, _, _, _, rfl, rfl, S1.ob, atI_nat (j := 1) rfl, pl, _, rfl, .inr S1.pl, fun l2 h2 => ?_⟩
    have S2 := S1.ex (Ex.new (o := .lst (D.ps.map V.str)) h2)
    refine ⟨_, rfl, p, _, _, _, rfl, rfl, S2.ob, atI_nat (j := 2) rfl, li, _, rfl, .inr S2.li, fun l3 h3 => ?_⟩
    have S3 := S2.ex (Ex.new (o := .lst rows) h3)
    have b1 := upd_same (H := H) (a := l1) (o := .lst (D.ws.map V.str))
    have b2 := upd_same (H := upd H l1 (.lst (D.ws.map V.str))) (a := l2) (o := .lst (D.ps.map V.str))
    have e0 : Ex H (upd (upd (upd H l1 (.lst (D.ws.map V.str))) l2 (.lst (D.ps.map V.str))) l3 (.lst rows)) := ((Ex.new h1).trans (Ex.new h2)).trans (Ex.new h3)
    have c1 := Ex.new h3 (o := .lst rows) _ _ (Ex.new h2 (o := .lst (D.ps.map V.str)) _ _ b1)
    have c2 := Ex.new h3 (o := .lst rows) _ _ b2
    have c3 : (upd (upd (upd H l1 (.lst (D.ws.map V.str))) l2 (.lst (D.ps.map V.str))) l3 (.lst rows)) l3 = some (.lst rows) := upd_same
    refine ⟨rfl, rfl, fun x dx nx ndx ne => ?_⟩
    exact ⟨_, x, dx, l1, l2, l3, a.te, D, rows, [], rfl, (Ex.new ndx).mut nx, nx, upd_same, SqL.of c1, .inl (SqL.of c2), .inl (SqL.of c3), all2_dps (f := dLink) (R := LinkIn K _) (fun v b h => made_in h) S3.ls, .inr (T.teT _), by rw [S.nopa]; exact .nil, ok, fun H' e hl => ⟨rfl, k H' x (e0.trans e) (fresh_back e0 nx) hl⟩⟩
theorem G__law_side (T : Txt K mg a) : FnOk P w K mg base CX0 1 a.f__law_side a.d__law_side ["parts", "side"] (sp5__law_side K) := by
  refine T.F__law_side.ok sc__law_side (fun vs H Q E h => ?_) (fun cdv A outer s H vs Q E hr h => ?_)
  · obtain ⟨p, sd, D, wi, pl, li, rows, rfl, _⟩ := h
    rfl
  · obtain ⟨p, sd, D, wi, pl, li, rows, rfl, S, ok, s2, k⟩ := h
    have lr := dps_len S.ls
    rw [List.length_map] at lr
    have l60 := ok.l60
    have w4 := ok.w4
    refine ⟨_, (pss_cons (ps_set (i := 2) sc__law_side.nd rfl (Or.inl rfl) (pe_lst pa_nil))
      (pss_cons (ps_for PassesOwn.never rfl (pi_tup (pe_ix ix_list (pv 0) pe_int (fun _ _ => rfl))) (pg_name (i := 3) sc__law_side.nd rfl (Or.inl rfl)) (pss_cons (ps_set (i := 4) sc__law_side.nd rfl (Or.inl rfl) (pe_lst pa_nil))
        (pss_cons (ps_for PassesOwn.never rfl (pi_tup (pe_ix ix_tup (pv 3) pe_int (fun _ _ => rfl))) (pg_name (i := 5) sc__law_side.nd rfl (Or.inl rfl)) (pss_one (ps_if (pt_cmpR op_isN (pv 5) pe_non (nomark _)) (pss_one (ps_expr (pe_bm PySem.F.plainAttrs_list PySem.F.slot_list_append PySem.F.type_list_append mt_append (pv 4) (pa_cons pe_non pa_nil)))) (pss_one (ps_expr (pe_bm PySem.F.plainAttrs_list PySem.F.slot_list_append PySem.F.type_list_append mt_append (pv 4) (pa_cons (pe_ix ix_tup (pv 5) (pv 1) (fun _ _ => rfl)) pa_nil)))))))
        (pss_one (ps_expr (pe_bm PySem.F.plainAttrs_list PySem.F.slot_list_append PySem.F.type_list_append mt_append (pv 2) (pa_cons (pe_callTy call_tupK (by rfl) T.z_tuple (by decide +kernel) (pa_cons (pv 4) pa_nil)) pa_nil)))))))
      (pss_one (ps_ret (pe_callTy call_tupK (by rfl) T.z_tuple (by decide +kernel) (pa_cons (pv 2) pa_nil)))))), ?_⟩
    refine ⟨by show 0 ≤ sizeLine; decide, fun L hL => ?_⟩
    have eL := Ex.new (o := .lst []) hL
    have SL := S.ex eL
    refine ⟨_, rfl, p, _, _, _, rfl, rfl, SL.ob, atI_nat (j := 2) rfl, li, rfl, ⟨_, SL.li⟩, for_tup (K := K) (a := li) (xs := rows) (fun i σ H' => ∃ (v3 v4 v5 : Option V) (acc : List V), σ = [some (.ref p), some (.int (sd : Int)), some (.ref L), v3, v4, v5] ∧ Ex H H' ∧ H' L = some (.lst acc) ∧ acc.length = i ∧ DpAll K (del H' L) acc (((numsS sd D).take i).map dRow)) ⟨none, none, none, [], rfl, eL, upd_same, rfl, .nil⟩ (fun i σ H' _ z => by obtain ⟨_, _, _, _, _, e, _⟩ := z; exact ex_t e S.li) (fun i y σ H' hy z => ?_) (fun σ H' z => ?_)⟩
    · obtain ⟨v3, v4, v5, acc, rfl, e, ha, la, da⟩ := z
      have hi := (List.getElem?_eq_some_iff.mp hy).1
      obtain ⟨q, hq, hm, dp⟩ := pick (dps_ex e S.ls) hy
      obtain ⟨t, u, vs, rfl, hT, hU, hts⟩ := link_in dp
      have lv := dps_len hts
      rw [List.length_map] at lv
      have lkt := (ok.lk q hm).len
      have nq : (numsS sd D)[i]? = some (q.ts.map (sideN sd)) := by unfold numsS; rw [List.getElem?_map, hq]; rfl
      refine ⟨by show 0 ≤ sizeLine; decide, fun M hM => ?_⟩
      have eM := Ex.new (o := .lst []) hM
      have haM := eM _ _ ha
      have mM : (upd H' M (.lst [])) M = some (.lst []) := upd_same
      refine ⟨_, rfl, t, _, _, _, rfl, rfl, ex_t eM hT, atI_nat (j := 3) rfl, u, rfl, ⟨_, ex_t eM hU⟩, for_tup (K := K) (a := u) (xs := vs) (fun j σ H2 => ∃ v5, σ = [some (.ref p), some (.int (sd : Int)), some (.ref L), some (.ref t), some (.ref M), v5] ∧ Ex H' H2 ∧ H2 M = some (.lst (((q.ts.take j).map (sideN sd)).map vInt))) ⟨_, rfl, eM, mM⟩ (fun j σ H2 _ z => by obtain ⟨_, _, e2, _⟩ := z; exact ex_t e2 hU) (fun j y2 σ H2 hy2 z => ?_) (fun σ H2 z => ?_)⟩
      · obtain ⟨v5, rfl, e2, h1⟩ := z
        have hj := (List.getElem?_eq_some_iff.mp hy2).1
        obtain ⟨bn, hbn, _, db⟩ := pick (dps_ex e2 hts) hy2
        have nx : ∀ {v : V}, v = vInt (sideN sd bn) → ∃ l2 xs2 y3, V.ref M = .ref l2 ∧ [v] = [y3] ∧ H2 l2 = some (.lst xs2) ∧ xs2.length < sizeLine ∧ ∃ v5' : Option V, [some (V.ref p), some (.int (sd : Int)), some (.ref L), some (.ref t), some (.ref M), some y2] = [some (.ref p), some (.int (sd : Int)), some (.ref L), some (.ref t), some (.ref M), v5'] ∧ Ex H' (upd H2 l2 (.lst (xs2 ++ [y3]))) ∧ (upd H2 l2 (.lst (xs2 ++ [y3]))) M = some (.lst (((q.ts.take (j + 1)).map (sideN sd)).map vInt)) := fun {v} ev =>
          ⟨M, _, v, rfl, rfl, h1, sz_lt (by simp only [List.length_map, List.length_take]; omega), _, rfl, e2.mut hM, by rw [upd_same, take_one hbn, List.map_append, List.map_append, ev]; rfl⟩
        cases bn with
        | none =>
          cases db
          exact ⟨_, rfl, rfl, _, rfl, iteT ⟨_, rfl, .inl ⟨rfl, _, SqL.of h1⟩, nx rfl⟩⟩
        | some bn =>
          cases db with
          | @tup z _ _ hz hr =>
            cases hr with
            | cons a1 hr =>
              cases a1
              cases hr with
              | cons a2 hr =>
                cases a2
                cases hr
                refine ⟨_, rfl, rfl, _, rfl, iteF ⟨_, rfl, .inl ⟨rfl, _, SqL.of h1⟩, _, rfl, _, rfl, z, _, _, .int (if sd = 0 then bn.1 else bn.2), rfl, rfl, hz, ?_, nx rfl⟩⟩
                match sd, s2 with
                | 0, _ => exact atI_nat (j := 0) rfl
                | 1, _ => exact atI_nat (j := 1) rfl
      · obtain ⟨v5, rfl, e2, h1⟩ := z
        rw [lv, List.take_length] at h1
        have ha2 := e2 _ _ ha
        refine ⟨_, rfl, .inl ⟨rfl, _, SqL.of ha2⟩, _, rfl, M, _, rfl, .inl ⟨SqL.of h1, fun tl htl => ?_⟩⟩
        have e3 := e2.trans (Ex.new (o := .tup ((q.ts.map (sideN sd)).map vInt)) htl)
        have tD : tl ≠ L := fun z => by rw [z, ha2] at htl; cases htl
        refine ⟨L, acc, _, rfl, rfl, e3 _ _ ha, sz_lt (by omega), _, _, _, acc ++ [.ref tl], rfl, (e.trans e3).mut hL, upd_same, by rw [List.length_append, la] <;> rfl, ?_⟩
        rw [del_upd, take_one nq, List.map_append]
        exact dps_app (dps_ex (ex_del e3) da) (dps_one (.tup (st_of (del_at tD upd_same)) (dps_opt _)))
    · obtain ⟨v3, v4, v5, acc, rfl, e, ha, la, da⟩ := z
      have ln : (numsS sd D).length = rows.length := by unfold numsS; rw [List.length_map, lr]
      rw [← ln, List.take_length] at da
      refine ⟨_, rfl, L, acc, rfl, .inl ⟨SqL.of ha, fun nt hnt => ?_⟩⟩
      exact k _ nt acc (e.trans (Ex.new hnt)) (fresh_back e hnt) (st_of upd_same) (dps_ex (del_ex.trans (Ex.new hnt)) da)
theorem G__law_between (T : Txt K mg a) : FnOk P w K mg base CX0 1 a.f__law_between a.d__law_between ["parts", "numbers", "at"] (sp5__law_between K) := by
  refine T.F__law_between.ok sc__law_between (fun vs H Q E h => ?_) (fun cdv A outer s H vs Q E hr h => ?_)
  · obtain ⟨p, q, ks, D, wi, pl, li, rows, rfl, _⟩ := h
    rfl
  · obtain ⟨p, q, ks, D, wi, pl, li, rows, rfl, N, S, ok, sm, k⟩ := h
    have l10 := sm.l10
    have w3 := sm.w3
    have lr := dps_len S.ls
    rw [List.length_map] at lr
    have lw : (D.ws.map V.str).length = D.ws.length := List.length_map ..
    refine ⟨_, (pss_cons (ps_set (i := 3) sc__law_between.nd rfl (Or.inl rfl) (pe_lst pa_nil))
      (pss_cons (ps_for PassesOwn.never rfl (pi_range1 (by rfl) T.z_range (pa_cons (pe_callB call_len_seq (by rfl) T.z_len PySem.boot_len (pa_cons (pe_ix ix_list (pv 0) pe_int (fun _ _ => rfl)) pa_nil)) pa_nil)) (pg_name (i := 4) sc__law_between.nd rfl (Or.inl rfl)) (pss_cons (ps_set (i := 5) sc__law_between.nd rfl (Or.inl rfl) (pe_lst pa_nil))
        (pss_cons (ps_for PassesOwn.never rfl (pi_range1 (by rfl) T.z_range (pa_cons (pe_callB call_len_seq (by rfl) T.z_len PySem.boot_len (pa_cons (pe_ix ix_list (pv 0) pe_int (fun _ _ => rfl)) pa_nil)) pa_nil)) (pg_name (i := 6) sc__law_between.nd rfl (Or.inl rfl)) (pss_cons (ps_set (i := 7) sc__law_between.nd rfl (Or.inl rfl) (pe_ix ix_tup (pe_ix ix_tup (pe_ix ix_tup (pe_ix ix_list (pv 0) pe_int (fun _ _ => rfl)) (pv 4) (fun _ _ => rfl)) pe_int (fun _ _ => rfl)) (pv 6) (fun _ _ => rfl)))
          (pss_one (ps_if (pt_cmpR op_isN (pv 7) pe_non (nomark _)) (pss_one (ps_expr (pe_bm PySem.F.plainAttrs_list PySem.F.slot_list_append PySem.F.type_list_append mt_append (pv 5) (pa_cons pe_non pa_nil)))) (pss_one (ps_expr (pe_bm PySem.F.plainAttrs_list PySem.F.slot_list_append PySem.F.type_list_append mt_append (pv 5) (pa_cons (pe_op op_add (pe_ix ix_tup (pv 7) pe_int (fun _ _ => rfl)) (pe_op op_modN (pe_callTy call_int1 (by rfl) T.z_int (by decide +kernel) (pa_cons (pe_op op_fdivN (pe_ix ix_list (pv 1) (pe_op op_add (pv 2) (pv 4)) (fun _ _ => rfl)) (pe_op op_add pe_int (pe_op op_mul pe_int (pv 6)))) pa_nil)) (pe_op op_add (pe_op op_sub (pe_ix ix_tup (pv 7) pe_int (fun _ _ => rfl)) (pe_ix ix_tup (pv 7) pe_int (fun _ _ => rfl))) pe_int))) pa_nil))))))))
        (pss_one (ps_expr (pe_bm PySem.F.plainAttrs_list PySem.F.slot_list_append PySem.F.type_list_append mt_append (pv 3) (pa_cons (pe_callTy call_tupK (by rfl) T.z_tuple (by decide +kernel) (pa_cons (pv 5) pa_nil)) pa_nil)))))))
      (pss_one (ps_ret (pe_callTy call_tupK (by rfl) T.z_tuple (by decide +kernel) (pa_cons (pv 3) pa_nil)))))), ?_⟩
    refine ⟨by show 0 ≤ sizeLine; decide, fun L hL => ?_⟩
    have eL := Ex.new (o := .lst []) hL
    have SL := S.ex eL
    refine ⟨_, rfl, p, _, _, _, rfl, rfl, SL.ob, atI_nat (j := 2) rfl, li, _, rfl, .inr SL.li, _, rfl, by omega, by omega, for_range (n := ((rows.length : Nat) : Int).toNat) (fun i σ H' => ∃ (v4 v5 v6 v7 : Option V) (acc : List V) (nums : List (List (Option Int))), σ = [some (.ref p), some (.ref q), some (.int 60), some (.ref L), v4, v5, v6, v7] ∧ Ex H H' ∧ H' L = some (.lst acc) ∧ DpAll K (del H' L) acc (nums.map dRow) ∧ nums.length = i ∧ ∀ (j : Nat) k row, D.ls[j]? = some k → nums[j]? = some row → RowW k row) ⟨none, none, none, none, [], [], rfl, eL, upd_same, .nil, rfl, fun j k row _ h => by cases h⟩ (fun i σ H' hi z => ?_) (fun σ H' z => ?_)⟩
    · obtain ⟨v4, v5, v6, v7, acc, nums, rfl, e, ha, da, ln, dr⟩ := z
      have lacc : acc.length = i := by rw [dps_len da, List.length_map, ln]
      have hi' : i < D.ls.length := by omega
      obtain ⟨kk, hkk⟩ : ∃ kk, D.ls[i]? = some kk := ⟨_, List.getElem?_eq_getElem hi'⟩
      have S1 := S.ex e
      obtain ⟨y, hy, dp⟩ := pick_i S1.ls hkk
      obtain ⟨t, u, vs, rfl, hT, hU, hts⟩ := link_in dp
      have lvs := dps_len hts
      rw [List.length_map] at lvs
      have lkt := (ok.lk kk (List.mem_of_getElem? hkk)).len
      have ei : (0 : Int) + (i : Int) = ((i : Nat) : Int) := by omega
      refine ⟨by show 0 ≤ sizeLine; decide, fun M hM => ?_⟩
      have eM := Ex.new (o := .lst []) hM
      have SM := S1.ex eM
      have haM := eM _ _ ha
      have mM : (upd H' M (.lst [])) M = some (.lst []) := upd_same
      refine ⟨_, rfl, p, _, _, _, rfl, rfl, SM.ob, atI_nat (j := 0) rfl, wi, _, rfl, .inr SM.wi, _, rfl, by omega, by omega, for_range (n := (((D.ws.map V.str).length : Nat) : Int).toNat) (fun j σ H2 => ∃ (v6 v7 : Option V) (row : List (Option Int)), σ = [some (.ref p), some (.ref q), some (.int 60), some (.ref L), some (.int (0 + (i : Int))), some (.ref M), v6, v7] ∧ Ex H' H2 ∧ H2 M = some (.lst (row.map vInt)) ∧ row.length = j ∧ ∀ (n : Nat) b x, kk.ts[n]? = some b → row[n]? = some x → Within1 b x) ⟨_, _, [], rfl, eM, mM, rfl, fun n b x _ h => by cases h⟩ (fun j σ H2 hj z => ?_) (fun σ H2 z => ?_)⟩
      · obtain ⟨v6, v7, row, rfl, e2, hm, lrow, dt⟩ := z
        have hj' : j < kk.ts.length := by omega
        have S2 := S1.ex e2
        obtain ⟨bn, hbn⟩ : ∃ bn, kk.ts[j]? = some bn := ⟨_, List.getElem?_eq_getElem hj'⟩
        have hts2 := dps_ex e2 hts
        obtain ⟨bv, hbv, db⟩ := pick_i hts2 hbn
        have ej : (0 : Int) + (j : Int) = ((j : Nat) : Int) := by omega
        have lrv : (row.map vInt).length = j := by rw [List.length_map, lrow]
        have nx : ∀ {v7' : Option V} {x : Option Int}, Within1 bn x → ∃ l2 xs2 y2, V.ref M = .ref l2 ∧ [vInt x] = [y2] ∧ H2 l2 = some (.lst xs2) ∧ xs2.length < sizeLine ∧ ∃ (v6 v7 : Option V) (row : List (Option Int)), [some (V.ref p), some (.ref q), some (.int 60), some (.ref L), some (.int (0 + (i : Int))), some (.ref M), some (.int (0 + (j : Int))), v7'] = [some (.ref p), some (.ref q), some (.int 60), some (.ref L), some (.int (0 + (i : Int))), some (.ref M), v6, v7] ∧ Ex H' (upd H2 l2 (.lst (xs2 ++ [y2]))) ∧ (upd H2 l2 (.lst (xs2 ++ [y2]))) M = some (.lst (row.map vInt)) ∧ row.length = j + 1 ∧ ∀ (n : Nat) b x, kk.ts[n]? = some b → row[n]? = some x → Within1 b x := fun {v7' x} wx => by
          refine ⟨M, _, _, rfl, rfl, hm, sz_lt (by omega), _, _, row ++ [x], rfl, e2.mut hM, by rw [upd_same, List.map_append]; rfl, by rw [List.length_append, lrow] <;> rfl, fun n b x' hb hx' => ?_⟩
          by_cases c : n < row.length
          · rw [List.getElem?_append_left c] at hx'
            exact dt n b x' hb hx'
          · rw [List.getElem?_append_right (by omega)] at hx'
            have en : n = j := by
              have := (List.getElem?_eq_some_iff.mp hx').1
              simp only [List.length_cons, List.length_nil] at this
              omega
            subst en
            rw [lrow, Nat.sub_self] at hx'
            cases hx'
            rw [hbn] at hb
            cases hb
            exact wx
        refine ⟨_, rfl, p, _, _, _, rfl, rfl, S2.ob, atI_nat (j := 2) rfl, _, rfl, li, _, _, _, rfl, rfl, S2.li, by rw [ei]; exact atI_nat hy, t, _, _, _, rfl, rfl, ex_t e2 hT, atI_nat (j := 3) rfl, _, rfl, u, _, _, _, rfl, rfl, ex_t e2 hU, by rw [ej]; exact atI_nat hbv, ?_⟩
        cases bn with
        | none =>
          cases db
          exact ⟨_, rfl, rfl, _, rfl, iteT ⟨_, rfl, .inl ⟨rfl, _, SqL.of hm⟩, nx (x := none) trivial⟩⟩
        | some bn =>
          cases db with
          | @tup z _ _ hz hr =>
            cases hr with
            | cons a1 hr =>
              cases a1
              cases hr with
              | cons a2 hr =>
                cases a2
                cases hr
                have tk := (ok.lk kk (List.mem_of_getElem? hkk)).ok _ (List.mem_of_getElem? hbn)
                obtain ⟨t1, t2, t3⟩ := tk
                obtain ⟨x, x0, x1, gx⟩ := (N.ex (e.trans e2)).get (i := 60 + (0 + (i : Int))) (by omega) (by omega)
                have fm0 := Int.fmod_nonneg_of_pos (x.fdiv (1 + 3 * (0 + (j : Int)))) (b := bn.2 - bn.1 + 1) (by omega)
                have fm1 := Int.fmod_lt_of_pos (x.fdiv (1 + 3 * (0 + (j : Int)))) (b := bn.2 - bn.1 + 1) (by omega)
                refine ⟨_, rfl, rfl, _, rfl, iteF ⟨_, rfl, .inl ⟨rfl, _, SqL.of hm⟩, ?_⟩⟩
                refine ⟨_, rfl, z, _, _, _, rfl, rfl, hz, atI_nat (j := 0) rfl, ?_⟩
                refine ⟨_, rfl, _, rfl, _, rfl, _, _, rfl, rfl, q, _, _, _, rfl, rfl, (N.ex (e.trans e2)).at_, gx, ?_⟩
                refine ⟨_, rfl, _, _, rfl, rfl, .inl ⟨by decide, by decide⟩, _, _, rfl, rfl, _, _, rfl, rfl, ⟨by omega, by omega⟩, .inl ⟨_, rfl, ?_⟩⟩
                refine ⟨_, rfl, z, _, _, _, rfl, rfl, hz, atI_nat (j := 1) rfl, _, rfl, z, _, _, _, rfl, rfl, hz, atI_nat (j := 0) rfl, _, _, rfl, rfl, _, _, rfl, rfl, _, _, rfl, rfl, by omega, _, _, rfl, rfl, ?_⟩
                exact nx (x := some (bn.1 + (x.fdiv (1 + 3 * (0 + (j : Int)))).fmod (bn.2 - bn.1 + 1))) ⟨by omega, by omega⟩
      · obtain ⟨v6, v7, row, rfl, e2, hm, lrow, dt⟩ := z
        have ha2 := e2 _ _ ha
        refine ⟨_, rfl, .inl ⟨rfl, _, SqL.of ha2⟩, _, rfl, M, _, rfl, .inl ⟨SqL.of hm, fun tl htl => ?_⟩⟩
        have e3 := e2.trans (Ex.new (o := .tup (row.map vInt)) htl)
        have tD : tl ≠ L := fun z => by rw [z, ha2] at htl; cases htl
        refine ⟨L, acc, _, rfl, rfl, e3 _ _ ha, sz_lt (by omega), _, _, _, _, acc ++ [.ref tl], nums ++ [row], rfl, (e.trans e3).mut hL, upd_same, ?_, by rw [List.length_append, ln] <;> rfl, fun j k1 r1 h1 h2 => ?_⟩
        · rw [del_upd, List.map_append]
          exact dps_app (dps_ex (ex_del e3) da) (dps_one (.tup (st_of (del_at tD upd_same)) (dps_opt _)))
        · by_cases c : j < nums.length
          · rw [List.getElem?_append_left c] at h2
            exact dr j k1 r1 h1 h2
          · rw [List.getElem?_append_right (by omega)] at h2
            have en : j = i := by
              have := (List.getElem?_eq_some_iff.mp h2).1
              simp only [List.length_cons, List.length_nil] at this
              omega
            subst en
            rw [ln, Nat.sub_self] at h2
            cases h2
            rw [hkk] at h1
            cases h1
            exact ⟨by omega, dt⟩
    · obtain ⟨v4, v5, v6, v7, acc, nums, rfl, e, ha, da, ln, dr⟩ := z
      refine ⟨_, rfl, L, acc, rfl, .inl ⟨SqL.of ha, fun nt hnt => ?_⟩⟩
      exact k _ nt acc nums (e.trans (Ex.new hnt)) (fresh_back e hnt) (st_of upd_same) (dps_ex (del_ex.trans (Ex.new hnt)) da) ⟨by omega, dr⟩
end
end EV

set_option Elab.async false
set_option linter.all false
set_option maxRecDepth 100000
set_option maxHeartbeats 8000000
namespace EV
open PySem PySem.Spec PyProof.Rows L2 EvS Evl FD
theorem it_len {i : Int} (h : i.natAbs.log2 < 1920) : (Str.ofString (toString i)).length ≤ 1921 := by
  rw [PySem.ofString_length]
  exact int_text_length_le (by decide) h
theorem it_small {i : Int} (h : i.natAbs ≤ 1000000) : i.natAbs.log2 < 1920 := by
  by_cases z : i.natAbs = 0
  · rw [z]; decide
  · exact Nat.lt_of_lt_of_le ((Nat.log2_lt z).mpr (Nat.lt_of_le_of_lt h (show 1000000 < 2 ^ 20 by decide))) (by decide)
theorem js1 {x : Str} (hx : x.length ≤ 100) : (Str.empty ++ x).length ≤ sizeLine := by
  rw [Str.length_append, sizeLine_eq, show Str.empty.length = 0 from rfl]; omega
theorem js2 {x y : Str} (hx : x.length ≤ 100) (hy : y.length ≤ 2000) : ((Str.empty ++ x) ++ y).length ≤ sizeLine := by
  rw [Str.length_append, Str.length_append, sizeLine_eq, show Str.empty.length = 0 from rfl]; omega
theorem js3 {x y z : Str} (hx : x.length ≤ 100) (hy : y.length ≤ 2000) (hz : z.length ≤ 100) : (((Str.empty ++ x) ++ y) ++ z).length ≤ sizeLine := by
  rw [Str.length_append, Str.length_append, Str.length_append, sizeLine_eq, show Str.empty.length = 0 from rfl]; omega
theorem js4 {x y z u : Str} (hx : x.length ≤ 100) (hy : y.length ≤ 2000) (hz : z.length ≤ 100) (hu : u.length ≤ 2000) : ((((Str.empty ++ x) ++ y) ++ z) ++ u).length ≤ sizeLine := by
  rw [Str.length_append, Str.length_append, Str.length_append, Str.length_append, sizeLine_eq, show Str.empty.length = 0 from rfl]; omega
theorem it_le {i : Int} (h : i.natAbs ≤ 1000000) : (Str.ofString (toString i)).length ≤ 2000 := Nat.le_trans (it_len (it_small h)) (by decide)
/-! ### numbers in rows that are lists or tuples -/
def SqE (K : PySem.W.Frag) (H : Hp) (a : Addr) (xs : List V) : Prop := SqL K H a xs ∨ SqT K H a xs
theorem SqE.ex {K : PySem.W.Frag} {H H' : Hp} {a : Addr} {xs : List V} (e : Ex H H') (h : SqE K H a xs) : SqE K H' a xs := h.imp (ex_l e) (ex_t e)
structure NumAt (K : PySem.W.Frag) (H : Hp) (nt : Addr) (ns : List V) (nums : List (List (Option Int))) : Prop where
  sq : SqE K H nt ns
  ln : ns.length = nums.length
  row : ∀ (i : Nat) v row, ns[i]? = some v → nums[i]? = some row → ∃ z, v = .ref z ∧ SqE K H z (row.map vInt)
theorem NumAt.ex {K : PySem.W.Frag} {H H' : Hp} {nt : Addr} {ns : List V} {nums : List (List (Option Int))} (e : Ex H H') (h : NumAt K H nt ns nums) : NumAt K H' nt ns nums := ⟨h.sq.ex e, h.ln, fun i v row h1 h2 => by
  obtain ⟨z, h3, h4⟩ := h.row i v row h1 h2
  exact ⟨z, h3, h4.ex e⟩⟩
theorem NumAt.of {K : PySem.W.Frag} {H : Hp} {nt : Addr} {ns : List V} {nums : List (List (Option Int))} (h : SqT K H nt ns) (d : DpAll K H ns (nums.map dRow)) : NumAt K H nt ns nums := ⟨.inr h, by rw [dps_len d, List.length_map], fun i v row h1 h2 => by
  obtain ⟨row', h3, _, dp⟩ := pick d h1
  rw [h2] at h3
  cases h3
  obtain ⟨z, e, s⟩ := row_in dp
  exact ⟨z, e, .inr s⟩⟩
def TameN (nums : List (List (Option Int))) : Prop := nums.length ≤ 1000 ∧ ∀ row ∈ nums, row.length ≤ 1000 ∧ ∀ x, some x ∈ row → x.natAbs ≤ 1000000
def sp__is_within (K : PySem.W.Frag) : Sp := fun vs H Q _ => ∃ (v : V) (bn : Option (Int × Int)) (x : Option Int), vs = [v, vInt x] ∧ Dp K H v (dTime bn) ∧ ∀ r : Bool, (r = true ↔ Within1 bn x) → Q (.bl r) H
def sp_check_numbers (K : PySem.W.Frag) (C I : Addr) : Sp := fun vs H Q E => ∃ (l nt : Addr) (D : LandD) (ns : List V) (nums : List (List (Option Int))), vs = [.ref l, .ref nt] ∧ IsLand K C H l D ∧ LandOk D ∧ NumAt K H nt ns nums ∧ TameN nums ∧
  (Within D nums → ∀ H', Ex H H' → Q .non H') ∧ (¬ Within D nums → ∀ H', Ex H H' → E (.ref I) none H')
def sp__law_checked (K : PySem.W.Frag) (C : Addr) : Sp := fun vs H Q _ => ∃ (l nt : Addr) (D : LandD) (ns : List V) (nums : List (List (Option Int))), vs = [.ref l, .ref nt] ∧ IsLand K C H l D ∧ LandOk D ∧ NumAt K H nt ns nums ∧ TameN nums ∧
  (Within D nums → ∀ H', Ex H H' → Q (.bl true) H') ∧ (¬ Within D nums → ∀ H', Ex H H' → Q (.bl false) H')
section
variable {P : Program} {w : World} {K : PySem.W.Frag} {mg : Str → Option Value} {base : Heap} {a : Ad}
theorem G__is_within (T : Txt K mg a) : FnOk P w K mg base CX0 1 a.f__is_within a.d__is_within ["bounds", "number"] (sp__is_within K) := by
  refine T.F__is_within.ok sc__is_within (fun vs H Q E h => ?_) (fun cdv A outer s H vs Q E hr h => ?_)
  · obtain ⟨v, bn, x, rfl, _⟩ := h
    rfl
  · obtain ⟨v, bn, x, rfl, db, k⟩ := h
    refine ⟨_, (pss_cons (ps_if (PW.pt (pw_or (pt_cmpR op_isN (pv 0) pe_non (nomark _)) (pw_or1 (pt_cmpR op_isN (pv 1) pe_non (nomark _))))) (pss_one (ps_ret (pe_and (pe_cmpR op_isN (pv 0) pe_non (nomark _)) (pe_one (pe_cmpR op_isN (pv 1) pe_non (nomark _)))))) pss_nil)
      (pss_one (ps_ret (pe_chain op_le op_le (pe_ix ix_tup (pv 0) pe_int (fun _ _ => rfl)) (pv 1) (pe_ix ix_tup (pv 0) pe_int (fun _ _ => rfl)))))), ?_⟩
    cases bn with
    | none =>
      cases db
      cases x with
      | some x => exact ⟨_, rfl, rfl, _, rfl, iteT ⟨_, rfl, rfl, _, rfl, iteT ⟨_, rfl, rfl, k false ⟨fun h => (by cases h), fun h => h.elim⟩⟩⟩⟩
      | none => exact ⟨_, rfl, rfl, _, rfl, iteT ⟨_, rfl, rfl, _, rfl, iteT ⟨_, rfl, rfl, k true ⟨fun _ => trivial, fun _ => rfl⟩⟩⟩⟩
    | some b =>
      cases db with
      | @tup z _ _ hz hr =>
        cases hr with
        | cons a1 hr =>
          cases a1
          cases hr with
          | cons a2 hr =>
            cases a2
            cases hr
            cases x with
            | none => exact ⟨_, rfl, rfl, _, rfl, iteF ⟨_, rfl, rfl, _, rfl, iteT ⟨_, rfl, rfl, _, rfl, iteF (k false ⟨fun h => (by cases h), fun h => h.elim⟩)⟩⟩⟩
            | some x =>
              refine ⟨_, rfl, rfl, _, rfl, iteF ⟨_, rfl, rfl, _, rfl, iteF ?_⟩⟩
              refine ⟨_, rfl, z, _, _, _, rfl, rfl, hz, atI_nat (j := 0) rfl, _, rfl, _, _, rfl, rfl, _, rfl, ?_⟩
              refine ite2 (fun h1 => ?_) (fun h1 => ?_)
              · refine ⟨_, rfl, z, _, _, _, rfl, rfl, hz, atI_nat (j := 1) rfl, _, _, rfl, rfl, ?_⟩
                refine k (decide (x ≤ b.2)) ⟨fun h2 => ⟨of_decide_eq_true h1, of_decide_eq_true h2⟩, fun h2 => decide_eq_true h2.2⟩
              · exact k false ⟨fun h => (by cases h), fun h2 => absurd (decide_eq_true h2.1) h1⟩
theorem G_check_numbers (T : Txt K mg a) (hP : PF P) : FnOk P w K mg base (CX P w) 2 a.f_check_numbers a.d_check_numbers ["land", "numbers"] (sp_check_numbers K a.C a.X_InvalidQuestion) := by
  refine T.F_check_numbers.okX sc_check_numbers (fun vs H Q E h => ?_) (fun cdv A outer s H vs Q E hr h => ?_)
  · obtain ⟨l, nt, D, ns, nums, rfl, _⟩ := h
    rfl
  · obtain ⟨l, nt, D, ns, nums, rfl, hl, ok, hn, tm, k1, k2⟩ := h
    obtain ⟨dxl, wi, pl, li, pa, rows, prs, L⟩ := hl
    have lr := dps_len L.ls
    rw [List.length_map] at lr
    have ln := hn.ln
    have lw : (D.ws.map V.str).length = D.ws.length := List.length_map ..
    have l60 := ok.l60
    have t1 := tm.1
    have b1 : ((rows.length : Nat) : Int).natAbs ≤ 1000000 := by omega
    have b2 : ((ns.length : Nat) : Int).natAbs ≤ 1000000 := by omega
    refine ⟨_, (pss_cons (ps_if (pt_cmpR op_ne (pe_callB call_len_seq (by rfl) T.z_len PySem.boot_len (pa_cons (pv 1) pa_nil)) (pe_callB call_len_seq (by rfl) T.z_len PySem.boot_len (pa_cons (pe_fld (pv 0) rfl) pa_nil)) (nomark _)) (pss_one (ps_raise rfl (takes_of rfl rfl rfl rfl) (SkE.pmk_own1 PySem.F.excBase_ValueError T.x_InvalidQuestion T.g_InvalidQuestion T.k_InvalidQuestion (raises_own T.b_InvalidQuestion T.t_InvalidQuestion) (by exact rfl) (pe_joined (PJ.cons pe_str (PJ.cons (pe_fmt (pe_callB call_len_seq (by rfl) T.z_len PySem.boot_len (pa_cons (pe_fld (pv 0) rfl) pa_nil))) (PJ.cons pe_str (PJ.cons (pe_fmt (pe_callB call_len_seq (by rfl) T.z_len PySem.boot_len (pa_cons (pv 1) pa_nil))) PJ.nil)))))))) pss_nil)
      (pss_one (ps_for (passes_of rfl) rfl (ZpX.pi_zipE (by rfl) T.z_zip (pa_cons (pe_fld (pv 0) rfl) (pa_cons (pv 1) pa_nil))) (pg_tup (by rfl) (pgs_cons (pg_name (i := 2) sc_check_numbers.nd rfl (Or.inl rfl)) (pgs_cons (pg_name (i := 3) sc_check_numbers.nd rfl (Or.inl rfl)) pgs_nil))) (pss_cons (ps_if (pt_cmpR op_ne (pe_callB call_len_seq (by rfl) T.z_len PySem.boot_len (pa_cons (pv 3) pa_nil)) (pe_callB call_len_seq (by rfl) T.z_len PySem.boot_len (pa_cons (pe_fld (pv 0) rfl) pa_nil)) (nomark _)) (pss_one (ps_raise rfl (takes_of rfl rfl rfl rfl) (SkE.pmk_own1 PySem.F.excBase_ValueError T.x_InvalidQuestion T.g_InvalidQuestion T.k_InvalidQuestion (raises_own T.b_InvalidQuestion T.t_InvalidQuestion) (by exact rfl) (pe_joined (PJ.cons pe_str (PJ.cons (pe_fmt (pe_ix ix_tup (pv 2) pe_int (fun _ _ => rfl))) PJ.nil)))))) pss_nil)
        (pss_one (ps_for (passes_of rfl) rfl (ZpX.pi_zipE (by rfl) T.z_zip (pa_cons (pe_ix ix_tup (pv 2) pe_int (fun _ _ => rfl)) (pa_cons (pv 3) pa_nil))) (pg_tup (by rfl) (pgs_cons (pg_name (i := 4) sc_check_numbers.nd rfl (Or.inl rfl)) (pgs_cons (pg_name (i := 5) sc_check_numbers.nd rfl (Or.inl rfl)) pgs_nil))) (pss_one (ps_if (pt_not (pt_val (pe_call (G__is_within T) (hr.mono (by decide)) (by rfl) T.g__is_within T.k__is_within T.B__is_within .nil pass0 (pa_cons (pv 4) (pa_cons (pv 5) pa_nil))))) (pss_one (ps_raise rfl (takes_of rfl rfl rfl rfl) (SkE.pmk_own1 PySem.F.excBase_ValueError T.x_InvalidQuestion T.g_InvalidQuestion T.k_InvalidQuestion (raises_own T.b_InvalidQuestion T.t_InvalidQuestion) (by exact rfl) (pe_joined (PJ.cons pe_str (PJ.cons (pe_fmt (pe_ix ix_tup (pv 2) pe_int (fun _ _ => rfl))) (PJ.cons pe_str (PJ.cons (FmtN.pe_fmtN (pv 5)) PJ.nil)))))))) pss_nil)))))))), ?_⟩
    refine ⟨_, rfl, nt, _, rfl, hn.sq, _, rfl, l, a.C, dxl, _, _, rfl, L.ob, T.cl, T.nL, fs_links .., li, _, rfl, .inr L.li, rfl, _, rfl, ?_⟩
    refine ite2 (fun c => ?_) (fun c => ?_)
    · refine ⟨_, rfl, js1 (by decide +kernel), _, rfl, l, a.C, dxl, _, _, rfl, L.ob, T.cl, T.nL, fs_links .., li, _, rfl, .inr L.li, .inr ⟨_, rfl, it_small b1, _, rfl, js2 (by decide +kernel) (it_le b1), _, rfl, js3 (by decide +kernel) (it_le b1) (by decide +kernel), _, rfl, nt, _, rfl, hn.sq, .inr ⟨_, rfl, it_small b2, _, rfl, js4 (by decide +kernel) (it_le b1) (by decide +kernel) (it_le b2), ?_⟩⟩⟩
      refine k2 (fun wi' => ?_) H (Ex.refl _)
      exact neq_ff (by have := wi'.len; omega) c
    have ll : nums.length = D.ls.length := by
      by_cases q : nums.length = D.ls.length
      · exact q
      · refine absurd ?_ c
        show (!decide (V.int ((ns.length : Nat) : Int) = V.int ((rows.length : Nat) : Int))) = true
        rw [decide_eq_false (fun z => q (by have := V.int.inj z; omega))]
        rfl
    have hsq := hn.sq
    rcases hsq with h | h
    case' inl => refine .inr ⟨_, rfl, l, a.C, dxl, _, _, rfl, L.ob, T.cl, T.nL, fs_links .., _, rfl, li, nt, rows, ns, rfl, L.li, h, ZpX.for_zipM (K := K) (a := li) (b := nt) (xs := rows) (ys := ns) (by omega) (fun i σ H' => ∃ v2 v3 v4 v5, σ = [some (.ref l), some (.ref nt), v2, v3, v4, v5] ∧ Ex H H' ∧ ∀ (j : Nat) k row, j < i → D.ls[j]? = some k → nums[j]? = some row → RowW k row) ⟨none, none, none, none, rfl, Ex.refl _, fun j k row h => absurd h (Nat.not_lt_zero _)⟩ (fun i σ H' z => by obtain ⟨_, _, _, _, _, e, _⟩ := z; exact ⟨ex_t e L.li, ex_l e h⟩) (fun i x y Tz σ H' hx hy z hT => ?_) (fun σ H' z => by obtain ⟨_, _, _, _, _, e, f⟩ := z; exact k1 ⟨ll, fun j k row h1 h2 => f j k row (by have := (List.getElem?_eq_some_iff.mp h1).1; omega) h1 h2⟩ _ e)⟩
    case' inr => refine .inl ⟨_, rfl, l, a.C, dxl, _, _, rfl, L.ob, T.cl, T.nL, fs_links .., _, rfl, li, nt, rows, ns, rfl, .inr ⟨L.li, h, RZ.for_zipT (K := K) (a := li) (b := nt) (xs := rows) (ys := ns) (by omega) (fun i σ H' => ∃ v2 v3 v4 v5, σ = [some (.ref l), some (.ref nt), v2, v3, v4, v5] ∧ Ex H H' ∧ ∀ (j : Nat) k row, j < i → D.ls[j]? = some k → nums[j]? = some row → RowW k row) ⟨none, none, none, none, rfl, Ex.refl _, fun j k row h => absurd h (Nat.not_lt_zero _)⟩ (fun i σ H' z => by obtain ⟨_, _, _, _, _, e, _⟩ := z; exact ⟨ex_t e L.li, ex_t e h⟩) (fun i x y Tz σ H' hx hy z hT => ?_) (fun σ H' z => by obtain ⟨_, _, _, _, _, e, f⟩ := z; exact k1 ⟨ll, fun j k row h1 h2 => f j k row (by have := (List.getElem?_eq_some_iff.mp h1).1; omega) h1 h2⟩ _ e)⟩⟩
    all_goals
      obtain ⟨v2, v3, v4, v5, rfl, e, done⟩ := z
      have eT := Ex.new (o := .tup [x, y]) hT
      have mT : (upd H' Tz (.tup [x, y])) Tz = some (.tup [x, y]) := upd_same
      have e1 := e.trans eT
      generalize upd H' Tz (.tup [x, y]) = H1 at e1 mT
      obtain ⟨q, hq, hm, dp⟩ := pick (dps_ex e1 L.ls) hx
      obtain ⟨t, u, vs, rfl, hT', hU, hts⟩ := link_in dp
      have ly := (List.getElem?_eq_some_iff.mp hy).1
      obtain ⟨row, hrow⟩ : ∃ row, nums[i]? = some row := ⟨nums[i]'(by omega), List.getElem?_eq_getElem (by omega)⟩
      obtain ⟨z, rfl, hz⟩ := (hn.ex e1).row i _ row hy hrow
      have trow := tm.2 row (List.mem_of_getElem? hrow)
      have lv := dps_len hts
      rw [List.length_map] at lv
      have lkt := (ok.lk q hm).len
      have lz : (row.map vInt).length = row.length := List.length_map ..
      have nq := ok.gl.1 q.n (List.mem_map.mpr ⟨q, hm, rfl⟩)
      have lq := (name_len nq).2
      have fzn : q.n.length ≤ sizeLine := by rw [sizeLine_eq]; omega
      have lq2 : q.n.length ≤ 2000 := by omega
      refine ⟨Tz, _, rfl, st_of mT, rfl, _, _, rfl, _, _, rfl, rfl, ?_⟩
      refine ⟨_, rfl, z, _, rfl, hz, _, rfl, l, a.C, dxl, _, _, rfl, e1 _ _ L.ob, T.cl, T.nW, fs_winds .., wi, _, rfl, .inr (ex_t e1 L.wi.sq), rfl, _, rfl, ?_⟩
      refine ite2 (fun c => ?_) (fun c => ?_)
      · refine ⟨_, rfl, js1 (by decide +kernel), _, rfl, t, _, _, _, rfl, rfl, hT', atI_nat (j := 0) rfl, .inl ⟨_, rfl, fzn, _, rfl, js2 (by decide +kernel) lq2, ?_⟩⟩
        refine k2 (fun wi' => ?_) H1 e1
        exact neq_ff (by have := (wi'.row i q row hq hrow).1; omega) c
      have lrow : row.length = q.ts.length := by
        by_cases w : row.length = q.ts.length
        · exact w
        · refine absurd ?_ c
          show (!decide (V.int (((row.map vInt).length : Nat) : Int) = V.int (((D.ws.map V.str).length : Nat) : Int))) = true
          rw [decide_eq_false (fun z => w (by have := V.int.inj z; omega))]
          rfl
      have fin : ∀ {v4 v5 : Option V} {H2 : Hp}, Ex H1 H2 → (∀ (n : Nat) b x, n < vs.length → q.ts[n]? = some b → row[n]? = some x → Within1 b x) → ∃ v2' v3' v4' v5', [some (V.ref l), some (.ref nt), some (.ref t), some (.ref z), v4, v5] = [some (.ref l), some (.ref nt), v2', v3', v4', v5'] ∧ Ex H H2 ∧ ∀ (j : Nat) k row, j < i + 1 → D.ls[j]? = some k → nums[j]? = some row → RowW k row := fun {v4 v5 H2} e2 f => ⟨_, _, _, _, rfl, e1.trans e2, fun j k' row' hj h1 h2 => by
        by_cases c : j < i
        · exact done j k' row' c h1 h2
        · obtain rfl : j = i := by omega
          rw [hq] at h1
          rw [hrow] at h2
          cases h1
          cases h2
          exact ⟨lrow, fun n b x hb hx => f n b x (by have := (List.getElem?_eq_some_iff.mp hb).1; omega) hb hx⟩⟩
      rcases hz with h2 | h2
      case' inl => refine .inr ⟨_, rfl, t, _, _, _, rfl, rfl, hT', atI_nat (j := 3) rfl, _, rfl, u, z, vs, _, rfl, hU, h2, ZpX.for_zipM (K := K) (a := u) (b := z) (xs := vs) (ys := row.map vInt) (by omega) (fun j σ H' => ∃ v4 v5, σ = [some (.ref l), some (.ref nt), some (.ref t), some (.ref z), v4, v5] ∧ Ex H1 H' ∧ ∀ (n : Nat) b x, n < j → q.ts[n]? = some b → row[n]? = some x → Within1 b x) ⟨_, _, rfl, Ex.refl _, fun n b x h => absurd h (Nat.not_lt_zero _)⟩ (fun j σ H' w => by obtain ⟨_, _, _, e, _⟩ := w; exact ⟨ex_t e hU, ex_l e h2⟩) (fun j x y Ty σ H' hx hy w hT => ?_) (fun σ H' w => by obtain ⟨_, _, rfl, e, f⟩ := w; exact fin e f)⟩
      case' inr => refine .inl ⟨_, rfl, t, _, _, _, rfl, rfl, hT', atI_nat (j := 3) rfl, _, rfl, u, z, vs, _, rfl, .inr ⟨hU, h2, RZ.for_zipT (K := K) (a := u) (b := z) (xs := vs) (ys := row.map vInt) (by omega) (fun j σ H' => ∃ v4 v5, σ = [some (.ref l), some (.ref nt), some (.ref t), some (.ref z), v4, v5] ∧ Ex H1 H' ∧ ∀ (n : Nat) b x, n < j → q.ts[n]? = some b → row[n]? = some x → Within1 b x) ⟨_, _, rfl, Ex.refl _, fun n b x h => absurd h (Nat.not_lt_zero _)⟩ (fun j σ H' w => by obtain ⟨_, _, _, e, _⟩ := w; exact ⟨ex_t e hU, ex_t e h2⟩) (fun j x y Ty σ H' hx hy w hT => ?_) (fun σ H' w => by obtain ⟨_, _, rfl, e, f⟩ := w; exact fin e f)⟩⟩
      all_goals
        obtain ⟨v4, v5, rfl, e2, done2⟩ := w
        have eT2 := Ex.new (o := .tup [x, y]) hT
        have mT2 : (upd H' Ty (.tup [x, y])) Ty = some (.tup [x, y]) := upd_same
        have e3 := e2.trans eT2
        generalize upd H' Ty (.tup [x, y]) = H2 at e3 mT2
        obtain ⟨bn, hbn, _, db⟩ := pick (dps_ex e3 hts) hx
        rw [List.getElem?_map] at hy
        obtain ⟨o, ho, rfl⟩ := Option.map_eq_some_iff.mp hy
        refine ⟨Ty, _, rfl, st_of mT2, rfl, _, _, rfl, _, _, rfl, rfl, _, rfl, _, rfl, x, bn, o, rfl, db, fun r hr => ⟨_, rfl, ?_⟩⟩
        cases r with
        | true => exact iteNT ⟨_, _, rfl, e3, fun n b x' hn' hb hx' => by
            by_cases c : n < j
            · exact done2 n b x' c hb hx'
            · obtain rfl : n = j := by omega
              rw [hbn] at hb
              rw [ho] at hx'
              cases hb
              cases hx'
              exact hr.mp rfl⟩
        | false =>
          have bad : ¬ Within D nums := fun wi' => by
            have := (wi'.row i q row hq hrow).2 j bn o hbn ho
            cases hr.mpr this
          refine iteT ⟨_, rfl, js1 (by decide +kernel), _, rfl, t, _, _, _, rfl, rfl, ex_t e3 hT', atI_nat (j := 0) rfl, .inl ⟨_, rfl, fzn, _, rfl, js2 (by decide +kernel) lq2, _, rfl, js3 (by decide +kernel) lq2 (by decide +kernel), _, rfl, ?_⟩⟩
          cases o with
          | none => exact .inl ⟨rfl, _, rfl, js4 (by decide +kernel) lq2 (by decide +kernel) (by decide +kernel), k2 bad _ (e1.trans e3)⟩
          | some o =>
            have so := trow.2 o (List.mem_of_getElem? ho)
            exact .inr (.inr ⟨o, rfl, it_small so, _, rfl, js4 (by decide +kernel) lq2 (by decide +kernel) (it_le so), k2 bad _ (e1.trans e3)⟩)
theorem G__law_checked (T : Txt K mg a) (hP : PF P) : FnOk P w K mg base CX0 6 a.f__law_checked a.d__law_checked ["land", "numbers"] (sp__law_checked K a.C) := by
  refine T.F__law_checked.ok sc__law_checked (fun vs H Q E h => ?_) (fun cdv A outer s H vs Q E hr h => ?_)
  · obtain ⟨l, nt, D, ns, nums, rfl, _⟩ := h
    rfl
  · obtain ⟨l, nt, D, ns, nums, rfl, hl, ok, hn, tm, k1, k2⟩ := h
    refine ⟨_, (pss_one (ps_try_as (i := 2) rfl rfl sc__law_checked.nd rfl rfl ⟨rfl, by decide, .inl T.g_InvalidQuestion⟩ takes0 (fun W pn xe tk _ => (pss_one (ps_ret (pe_cmpR op_isN (by exact (pe_callS (G_check_numbers T hP) (hr.mono (by decide)) (by rfl) T.g_check_numbers T.k_check_numbers T.B_check_numbers (fun σ => passAt tk σ) (by exact (pa_cons (pv 0) (pa_cons (pv 1) pa_nil))))) pe_non (nomark _))))) (fun ex oe cls dd pn hz hf => (pss_one (ps_ret (pe_ix (show IxR _ (rIxL K) from ix_list) (pe_lst (pa_cons pe_non (pa_cons pe_bl pa_nil))) (pe_callTy call_int1 (by rfl) T.z_int (by decide +kernel) (pa_cons (pe_and (pe_callB (SupX.call_isX hz hf) (by rfl) T.z_isinstance (by decide +kernel) (pa_cons (pv 2) (pa_cons (pe_glob (v := .ref a.X_EveryfireError) (by rfl) T.g_EveryfireError rfl) pa_nil))) (pe_one (pe_callB (SupX.call_isX hz hf) (by rfl) T.z_isinstance (by decide +kernel) (pa_cons (pv 2) (pa_cons (pe_bltn (v := .ty "ValueError") (u := .type "ValueError") (by rfl) T.z_ValueError (by decide +kernel) rfl) pa_nil))))) pa_nil)) (fun _ _ => rfl))))))), ?_⟩
    refine ⟨_, rfl, _, rfl, l, nt, D, ns, nums, rfl, hl, ok, hn, tm, fun wi' H1 e1 => ?_, fun bad H1 e1 => ?_⟩
    · exact ⟨rfl, k1 wi' H1 e1⟩
    · refine ⟨true, T.em_InvalidQuestion_InvalidQuestion, fun _ ae hae => ?_, fun z => nomatch z⟩
      refine ⟨by show 2 ≤ sizeLine; decide, fun L hL => ?_⟩
      refine ⟨_, rfl, ⟨_, _, true, a.X_InvalidQuestion, rfl, rfl, T.ec_InvalidQuestion, (fun u r => r), T.kt_InvalidQuestion_EveryfireError, (fun dd e => nomatch e), _, rfl, iteT ?_⟩⟩
      refine ⟨_, rfl, ⟨_, _, true, a.X_InvalidQuestion, rfl, rfl, T.ec_InvalidQuestion, (fun u r => r), T.kt_InvalidQuestion_ValueError, (fun dd e => nomatch e), .inr ⟨true, rfl, ?_⟩⟩⟩
      refine ⟨L, _, _, _, rfl, rfl, SqL.of upd_same, atI_nat (j := 1) rfl, ?_⟩
      exact k2 bad _ (e1.trans (Ex.new hL))
end
end EV

set_option Elab.async false
set_option linter.all false
set_option maxRecDepth 100000
set_option maxHeartbeats 8000000
namespace EV
open PySem PySem.Spec PyProof.Rows L2 EvS Evl FD
def RowsAt (K : PySem.W.Frag) (H : Hp) (ns : List V) (nums : List (List (Option Int))) : Prop := ns.length = nums.length ∧ ∀ (i : Nat) v row, ns[i]? = some v → nums[i]? = some row → ∃ z, v = .ref z ∧ SqE K H z (row.map vInt)
theorem RowsAt.ex {K : PySem.W.Frag} {H H' : Hp} {ns : List V} {nums : List (List (Option Int))} (e : Ex H H') (h : RowsAt K H ns nums) : RowsAt K H' ns nums := ⟨h.1, fun i v row h1 h2 => by
  obtain ⟨z, h3, h4⟩ := h.2 i v row h1 h2
  exact ⟨z, h3, h4.ex e⟩⟩
theorem RowsAt.app {K : PySem.W.Frag} {H : Hp} {a b : List V} {n m : List (List (Option Int))} (h : RowsAt K H a n) (g : RowsAt K H b m) : RowsAt K H (a ++ b) (n ++ m) := by
  have hl := h.1
  refine ⟨by rw [List.length_append, List.length_append, h.1, g.1], fun i v row h1 h2 => ?_⟩
  by_cases c : i < a.length
  · rw [List.getElem?_append_left c] at h1
    rw [List.getElem?_append_left (by omega)] at h2
    exact h.2 i v row h1 h2
  · rw [List.getElem?_append_right (by omega)] at h1
    rw [List.getElem?_append_right (by omega), ← hl] at h2
    exact g.2 _ v row h1 h2
theorem RowsAt.one {K : PySem.W.Frag} {H : Hp} {z : Addr} {row : List (Option Int)} (h : SqE K H z (row.map vInt)) : RowsAt K H [.ref z] [row] := ⟨rfl, fun i v r h1 h2 => by
  cases i with
  | zero => cases h1; cases h2; exact ⟨z, rfl, h⟩
  | succ i => cases h1⟩
theorem RowsAt.take {K : PySem.W.Frag} {H : Hp} {a : List V} {n : List (List (Option Int))} (h : RowsAt K H a n) (k : Nat) : RowsAt K H (a.take k) (n.take k) := ⟨by rw [List.length_take, List.length_take, h.1], fun i v row h1 h2 => by
  have li := (List.getElem?_eq_some_iff.mp h1).1
  rw [List.length_take] at li
  rw [List.getElem?_take_of_lt (by omega)] at h1 h2
  exact h.2 i v row h1 h2⟩
theorem RowsAt.drop {K : PySem.W.Frag} {H : Hp} {a : List V} {n : List (List (Option Int))} (h : RowsAt K H a n) (k : Nat) : RowsAt K H (a.drop k) (n.drop k) := ⟨by rw [List.length_drop, List.length_drop, h.1], fun i v row h1 h2 => by
  rw [List.getElem?_drop] at h1 h2
  exact h.2 _ v row h1 h2⟩
theorem RowsAt.at {K : PySem.W.Frag} {H : Hp} {nt : Addr} {a : List V} {n : List (List (Option Int))} (h : RowsAt K H a n) (s : SqE K H nt a) : NumAt K H nt a n := ⟨s, h.1, h.2⟩
theorem ones_row (w : Nat) : (List.replicate w [V.int 1]).flatten = (List.replicate w (some (1 : Int))).map vInt := by
  induction w with
  | zero => rfl
  | succ w ih => rw [List.replicate_succ, List.flatten_cons, ih, List.replicate_succ, List.map_cons]; rfl
def smallR (row : List (Option Int)) : Prop := row.length ≤ 1000 ∧ ∀ x, some x ∈ row → x.natAbs ≤ 1000000
theorem within_small {D : LandD} (ok : LandOk D) {nums : List (List (Option Int))} (h : Within D nums) : ∀ row ∈ nums, smallR row := fun row hr => by
  obtain ⟨j, hj⟩ := List.mem_iff_getElem?.mp hr
  have lt := (List.getElem?_eq_some_iff.mp hj).1
  obtain ⟨k, hk⟩ : ∃ k, D.ls[j]? = some k := ⟨_, List.getElem?_eq_getElem (by rw [← h.len]; exact lt)⟩
  obtain ⟨e, w⟩ := h.row j k row hk hj
  have lo := ok.lk k (List.mem_of_getElem? hk)
  have := lo.len
  have := ok.w4
  refine ⟨by omega, fun x hx => ?_⟩
  obtain ⟨i, hi⟩ := List.mem_iff_getElem?.mp hx
  have lti := (List.getElem?_eq_some_iff.mp hi).1
  obtain ⟨b, hb⟩ : ∃ b, k.ts[i]? = some b := ⟨_, List.getElem?_eq_getElem (by rw [← e]; exact lti)⟩
  have q := w i b (some x) hb hi
  cases b with
  | none => exact q.elim
  | some b =>
    obtain ⟨h1, h2, h3⟩ := lo.ok _ (List.mem_of_getElem? hb)
    have q1 : b.1 ≤ x := q.1
    have q2 : x ≤ b.2 := q.2
    omega
theorem tame_of {nums : List (List (Option Int))} (l : nums.length ≤ 1000) (h : ∀ row ∈ nums, smallR row) : TameN nums := ⟨l, fun row hr => h row hr⟩
/-- another row at a place -/
theorem setrow_bad {D : LandD} {nums : List (List (Option Int))} {k : Nat} {kk : Link} (hl : nums.length = D.ls.length) (hk : D.ls[k]? = some kk) {row : List (Option Int)} (bad : ¬ RowW kk row) : ¬ Within D (nums.take k ++ [row] ++ nums.drop (k + 1)) := fun h => by
  have lt := (List.getElem?_eq_some_iff.mp hk).1
  refine bad (h.row k kk row hk ?_)
  have lt2 : (nums.take k).length = k := by rw [List.length_take]; omega
  rw [List.append_assoc, List.getElem?_append_right (by omega), lt2, Nat.sub_self]
  rfl
def sp__law_faulty (K : PySem.W.Frag) : Sp := fun vs H Q _ => ∃ (p nt : Addr) (x y : Int) (D : LandD) (wi pl li : Addr) (rows ns : List V) (nums : List (List (Option Int))), vs = [.ref p, .ref nt, .int x, .int y] ∧ Parts3 K H p D wi pl li rows ∧ LandOk D ∧ SqT K H nt ns ∧ DpAll K H ns (nums.map dRow) ∧ Within D nums ∧ 0 ≤ x ∧ 0 ≤ y ∧ y < 2000 ∧
  ∀ H' o ns' nums', Ex H H' → NumAt K H' o ns' nums' → TameN nums' → ¬ Within D nums' → Q (.ref o) H'
section
variable {P : Program} {w : World} {K : PySem.W.Frag} {mg : Str → Option Value} {base : Heap} {a : Ad}
theorem G__law_faulty (T : Txt K mg a) : FnOk P w K mg base CX0 1 a.f__law_faulty a.d__law_faulty ["parts", "rows", "number", "other"] (sp__law_faulty K) := by
  refine T.F__law_faulty.ok sc__law_faulty (fun vs H Q E h => ?_) (fun cdv A outer s H vs Q E hr h => ?_)
  · obtain ⟨p, nt, x, y, D, wi, pl, li, rows, ns, nums, rfl, _⟩ := h
    rfl
  · obtain ⟨p, nt, x, y, D, wi, pl, li, rows, ns, nums, rfl, S, ok, hn, dn, wi', x0, y0, y2, k⟩ := h
    have lnm := wi'.len
    have lns : ns.length = nums.length := by rw [dps_len dn, List.length_map]
    have l60 := ok.l60
    have w1 := ok.w1
    have w4 := ok.w4
    have lw : (D.ws.map V.str).length = D.ws.length := List.length_map ..
    have lrw : rows.length = D.ls.length := by rw [dps_len S.ls, List.length_map]
    have sm := within_small ok wi'
    have one : smallR (List.replicate D.ws.length (some (1 : Int))) := ⟨by rw [List.length_replicate]; omega, fun x hx => by have := List.eq_of_mem_replicate hx; cases this; decide⟩
    have RA : RowsAt K H ns nums := ⟨lns, (NumAt.of hn dn).row⟩
    refine ⟨_, (pss_cons (ps_set (i := 4) sc__law_faulty.nd rfl (Or.inl rfl) (pe_op op_mod (pe_callTy call_int1 (by rfl) T.z_int (by decide +kernel) (pa_cons (pv 2) pa_nil)) pe_int))
      (pss_cons (ps_if (pt_cmpR op_eq (pv 4) pe_int (nomark _)) (pss_one (ps_ret (pe_op TupS.op_catS (pv 1) (pe_tup (pa_cons (pe_op TupS.op_repS (pe_tup (pa_cons pe_int pa_nil)) (pe_callB call_len_seq (by rfl) T.z_len PySem.boot_len (pa_cons (pe_ix ix_list (pv 0) pe_int (fun _ _ => rfl)) pa_nil))) pa_nil))))) pss_nil)
      (pss_cons (ps_if (pt_cmpR op_eq (pe_callB call_len_seq (by rfl) T.z_len PySem.boot_len (pa_cons (pv 1) pa_nil)) pe_int (nomark _)) (pss_one (ps_ret (pe_tup (pa_cons (pe_op TupS.op_repS (pe_tup (pa_cons pe_int pa_nil)) (pe_callB call_len_seq (by rfl) T.z_len PySem.boot_len (pa_cons (pe_ix ix_list (pv 0) pe_int (fun _ _ => rfl)) pa_nil))) pa_nil)))) pss_nil)
      (pss_cons (ps_set (i := 5) sc__law_faulty.nd rfl (Or.inl rfl) (pe_op op_modN (pe_callTy call_int1 (by rfl) T.z_int (by decide +kernel) (pa_cons (pv 3) pa_nil)) (pe_callB call_len_seq (by rfl) T.z_len PySem.boot_len (pa_cons (pv 1) pa_nil))))
      (pss_cons (ps_set (i := 6) sc__law_faulty.nd rfl (Or.inl rfl) (pe_op op_modN (pe_callTy call_int1 (by rfl) T.z_int (by decide +kernel) (pa_cons (pe_op op_fdiv (pv 3) pe_int) pa_nil)) (pe_callB call_len_seq (by rfl) T.z_len PySem.boot_len (pa_cons (pe_ix ix_list (pv 0) pe_int (fun _ _ => rfl)) pa_nil))))
      (pss_cons (ps_set (i := 7) sc__law_faulty.nd rfl (Or.inl rfl) (pe_ix ix_tup (pe_ix ix_tup (pe_ix ix_tup (pe_ix ix_list (pv 0) pe_int (fun _ _ => rfl)) (pv 5) (fun _ _ => rfl)) pe_int (fun _ _ => rfl)) (pv 6) (fun _ _ => rfl)))
      (pss_cons (ps_if (pt_cmpR op_eq (pv 4) pe_int (nomark _)) (pss_one (ps_ret (pe_op TupS.op_catS (pe_slice TupS.sl_tupS (pv 1) po_none (po_some (pv 5))) (pe_slice TupS.sl_tupS (pv 1) (po_some (pe_op op_add (pv 5) pe_int)) po_none)))) pss_nil)
      (pss_cons (ps_if (pt_cmpR op_eq (pv 4) pe_int (nomark _)) (pss_cons (ps_set (i := 8) sc__law_faulty.nd rfl (Or.inl rfl) (pe_ix ix_list (pe_lst (pa_cons (pe_slice TupS.sl_tupS (pe_ix ix_tup (pv 1) (pv 5) (fun _ _ => rfl)) (po_some pe_int) po_none) (pa_cons (pe_op TupS.op_catS (pe_ix ix_tup (pv 1) (pv 5) (fun _ _ => rfl)) (pe_slice TupS.sl_tupS (pe_ix ix_tup (pv 1) (pv 5) (fun _ _ => rfl)) po_none (po_some pe_int))) pa_nil))) (pe_op op_mod (pe_callTy call_int1 (by rfl) T.z_int (by decide +kernel) (pa_cons (pe_op op_fdiv (pv 3) pe_int) pa_nil)) pe_int) (fun _ _ => rfl)))
        (pss_one (ps_ret (pe_op TupS.op_catS (pe_op TupS.op_catS (pe_slice TupS.sl_tupS (pv 1) po_none (po_some (pv 5))) (pe_tup (pa_cons (pv 8) pa_nil))) (pe_slice TupS.sl_tupS (pv 1) (po_some (pe_op op_add (pv 5) pe_int)) po_none))))) pss_nil)
      (pss_cons (ps_set (i := 9) sc__law_faulty.nd rfl (Or.inl rfl) pe_int)
      (Evl.pss_cut (ps_if (pt_cmpR op_notN (pv 7) pe_non (nomark _)) (pss_one (ps_set (i := 9) sc__law_faulty.nd rfl (Or.inl rfl) (pe_ix ix_list (pe_lst (pa_cons pe_non (pa_cons (pe_op op_sub (pe_ix ix_tup (pv 7) pe_int (fun _ _ => rfl)) pe_int) (pa_cons (pe_op op_add (pe_ix ix_tup (pv 7) pe_int (fun _ _ => rfl)) pe_int) pa_nil)))) (pe_op op_mod (pe_callTy call_int1 (by rfl) T.z_int (by decide +kernel) (pa_cons (pe_op op_fdiv (pv 3) pe_int) pa_nil)) pe_int) (fun _ _ => rfl)))) pss_nil)
      (pss_one (ps_ret (pe_op TupS.op_catS (pe_op TupS.op_catS (pe_slice TupS.sl_tupS (pv 1) po_none (po_some (pv 5))) (pe_tup (pa_cons (pe_op TupS.op_catS (pe_op TupS.op_catS (pe_slice TupS.sl_tupS (pe_ix ix_tup (pv 1) (pv 5) (fun _ _ => rfl)) po_none (po_some (pv 6))) (pe_tup (pa_cons (pv 9) pa_nil))) (pe_slice TupS.sl_tupS (pe_ix ix_tup (pv 1) (pv 5) (fun _ _ => rfl)) (po_some (pe_op op_add (pv 6) pe_int)) po_none)) pa_nil))) (pe_slice TupS.sl_tupS (pv 1) (po_some (pe_op op_add (pv 5) pe_int)) po_none)))))))))))))), ?_⟩
    refine ⟨_, rfl, .inl ⟨_, rfl, _, _, rfl, rfl, (by show (0 : Int) < 5; decide), ?_⟩⟩
    refine ⟨_, rfl, rfl, _, rfl, ite2 (fun _ => ?_) (fun _ => ?_)⟩
    · refine ⟨_, rfl, by show 1 ≤ sizeLine; decide, fun t1 ht1 => ?_⟩
      have e1 := Ex.new (o := .tup [V.int 1]) ht1
      have m1 : (upd H t1 (.tup [V.int 1])) t1 = some (.tup [.int 1]) := upd_same
      generalize upd H t1 (.tup [V.int 1]) = H1 at e1 m1
      refine ⟨_, rfl, p, _, _, _, rfl, rfl, (S.ex e1).ob, atI_nat (j := 0) rfl, wi, _, rfl, .inr (S.ex e1).wi, t1, _, [.int 1], rfl, rfl, SqT.of m1, (fun q => by cases q), by omega, by omega, by decide, fun r1 H2 e2 s2 => ?_⟩
      refine ⟨by show 1 ≤ sizeLine; decide, fun t2 ht2 => ?_⟩
      have e3 := Ex.new (o := .tup [V.ref r1]) ht2
      have m3 : (upd H2 t2 (.tup [V.ref r1])) t2 = some (.tup [.ref r1]) := upd_same
      generalize upd H2 t2 (.tup [V.ref r1]) = H3 at e3 m3
      have e13 := e1.trans (e2.trans e3)
      refine ⟨nt, t2, ns, [.ref r1], rfl, rfl, ex_t e13 hn, SqT.of m3, by rw [sizeLine_eq]; show ns.length + 1 ≤ _; omega, fun o H4 e4 s4 => ?_⟩
      have r1' : SqE K H4 r1 ((List.replicate D.ws.length (some (1 : Int))).map vInt) := by
        refine .inr (ex_t (e3.trans e4) ?_)
        rw [show (((D.ws.map V.str).length : Nat) : Int).toNat = D.ws.length by omega, ones_row] at s2
        exact s2
      refine k H4 o _ (nums ++ [List.replicate D.ws.length (some 1)]) (e13.trans e4) (((RA.ex (e13.trans e4)).app (RowsAt.one r1')).at (.inr s4)) (tame_of (by rw [List.length_append, List.length_singleton]; omega) fun row hr => ?_) fun h => ?_
      · rcases List.mem_append.mp hr with q | q
        · exact sm row q
        · rw [List.mem_singleton.mp q]; exact one
      · have := h.len
        rw [List.length_append, List.length_singleton] at this
        omega
    -- no rows
    refine ⟨_, rfl, nt, _, rfl, .inr hn, rfl, _, rfl, ite2 (fun c => ?_) (fun c => ?_)⟩
    · have n0 : ns.length = 0 := by
        have c : decide (V.int ((ns.length : Nat) : Int) = V.int 0) = true := c
        have := V.int.inj (of_decide_eq_true c)
        omega
      refine ⟨by show 1 ≤ sizeLine; decide, fun t1 ht1 => ?_⟩
      have e1 := Ex.new (o := .tup [V.int 1]) ht1
      have m1 : (upd H t1 (.tup [V.int 1])) t1 = some (.tup [.int 1]) := upd_same
      generalize upd H t1 (.tup [V.int 1]) = H1 at e1 m1
      refine ⟨_, rfl, p, _, _, _, rfl, rfl, (S.ex e1).ob, atI_nat (j := 0) rfl, wi, _, rfl, .inr (S.ex e1).wi, t1, _, [.int 1], rfl, rfl, SqT.of m1, (fun q => by cases q), by omega, by omega, by decide, fun r1 H2 e2 s2 => ?_⟩
      refine ⟨by show 1 ≤ sizeLine; decide, fun t2 ht2 => ?_⟩
      have e3 := Ex.new (o := .tup [V.ref r1]) ht2
      have m3 : (upd H2 t2 (.tup [V.ref r1])) t2 = some (.tup [.ref r1]) := upd_same
      generalize upd H2 t2 (.tup [V.ref r1]) = H3 at e3 m3
      have e13 := e1.trans (e2.trans e3)
      have r1' : SqE K H3 r1 ((List.replicate D.ws.length (some (1 : Int))).map vInt) := by
        refine .inr (ex_t e3 ?_)
        rw [show (((D.ws.map V.str).length : Nat) : Int).toNat = D.ws.length by omega, ones_row] at s2
        exact s2
      refine k H3 t2 _ [List.replicate D.ws.length (some 1)] e13 ((RowsAt.one r1').at (.inr (SqT.of m3))) (tame_of (by show 1 ≤ 1000; decide) fun row hr => by rw [List.mem_singleton.mp hr]; exact one) fun h => ?_
      have := h.len
      rw [List.length_singleton] at this
      omega
    have n1 : 0 < ns.length := by
      by_cases q : ns.length = 0
      · refine absurd (decide_eq_true ?_) c
        rw [q]; rfl
      · omega
    have k0 := Int.fmod_nonneg_of_pos y (b := ((ns.length : Nat) : Int)) (by omega)
    have k9 := Int.fmod_lt_of_pos y (b := ((ns.length : Nat) : Int)) (by omega)
    have j0 := Int.fmod_nonneg_of_pos (y / 11) (b := (((D.ws.map V.str).length : Nat) : Int)) (by omega)
    have j9 := Int.fmod_lt_of_pos (y / 11) (b := (((D.ws.map V.str).length : Nat) : Int)) (by omega)
    obtain ⟨kn, ekn⟩ : ∃ kn : Nat, y.fmod ((ns.length : Nat) : Int) = (kn : Int) := ⟨_, (Int.toNat_of_nonneg k0).symm⟩
    obtain ⟨jn, ejn⟩ : ∃ jn : Nat, (y / 11).fmod (((D.ws.map V.str).length : Nat) : Int) = (jn : Int) := ⟨_, (Int.toNat_of_nonneg j0).symm⟩
    refine ⟨_, rfl, .inl ⟨_, rfl, _, rfl, nt, _, rfl, .inr hn, _, _, rfl, rfl, by omega, ?_⟩⟩
    refine ⟨_, rfl, _, _, rfl, rfl, ?_, .inl ⟨_, rfl, _, rfl, p, _, _, _, rfl, rfl, S.ob, atI_nat (j := 0) rfl, wi, _, rfl, .inr S.wi, _, _, rfl, rfl, by omega, ?_⟩⟩
    · exact ⟨by decide, by decide⟩
    have hkn : kn < ns.length := by omega
    have hjn : jn < D.ws.length := by omega
    obtain ⟨kk, hkk⟩ : ∃ kk, D.ls[kn]? = some kk := ⟨_, List.getElem?_eq_getElem (by omega)⟩
    have hkm := List.mem_of_getElem? hkk
    obtain ⟨yv, hyv, dp⟩ := pick_i S.ls hkk
    obtain ⟨tl, u, vs, rfl, sT, sU, dU⟩ := link_in dp
    have lkt := (ok.lk kk hkm).len
    have lvs : vs.length = D.ws.length := by rw [dps_len dU, List.length_map]; exact lkt
    obtain ⟨bn, hbn⟩ : ∃ bn, kk.ts[jn]? = some bn := ⟨_, List.getElem?_eq_getElem (by omega)⟩
    obtain ⟨pv, hpv, dpv⟩ := pick_i dU hbn
    obtain ⟨row, hrow⟩ : ∃ row, nums[kn]? = some row := ⟨_, List.getElem?_eq_getElem (by omega)⟩
    obtain ⟨zv, hzv, dz⟩ := pick_i dn hrow
    obtain ⟨z, rfl, sz⟩ := row_in dz
    obtain ⟨lrow, wrow⟩ := wi'.row kn kk row hkk hrow
    have srow := sm row (List.mem_of_getElem? hrow)
    have ark : atI rows (y.fmod ((ns.length : Nat) : Int)) = some (.ref tl) := by rw [ekn]; exact atI_nat hyv
    have avj : atI vs ((y / 11).fmod (((D.ws.map V.str).length : Nat) : Int)) = some pv := by rw [ejn]; exact atI_nat hpv
    have ank : atI ns (y.fmod ((ns.length : Nat) : Int)) = some (.ref z) := by rw [ekn]; exact atI_nat hzv
    have take : cutV ns none (some (y.fmod ((ns.length : Nat) : Int))) = ns.take kn := by rw [ekn]; exact cut_to _ _
    have drop : cutV ns (some (y.fmod ((ns.length : Nat) : Int) + 1)) none = ns.drop (kn + 1) := by rw [ekn, show (kn : Int) + 1 = ((kn + 1 : Nat) : Int) by omega]; exact cut_from _ _
    have smt : ∀ n, ∀ r ∈ nums.take n, smallR r := fun n r hr => sm r (List.mem_of_mem_take hr)
    have smd : ∀ n, ∀ r ∈ nums.drop n, smallR r := fun n r hr => sm r (List.mem_of_mem_drop hr)
    have fin : ∀ {H' H'' : Hp} {r' o : Addr} {row' : List (Option Int)}, Ex H H' → SqT K H' r' (row'.map vInt) → ¬ RowW kk row' → smallR row' → Ex H' H'' → SqT K H'' o (ns.take kn ++ [.ref r'] ++ ns.drop (kn + 1)) → Q (.ref o) H'' := fun {H' H'' r' o row'} e1 s1 bad sm' e2 s2 => by
      have RB := RA.ex (e1.trans e2)
      refine k H'' o _ (nums.take kn ++ [row'] ++ nums.drop (kn + 1)) (e1.trans e2) ((((RB.take kn).app (RowsAt.one (.inr (ex_t e2 s1)))).app (RB.drop (kn + 1))).at (.inr s2)) (tame_of ?_ fun r hr => ?_) (setrow_bad lnm hkk bad)
      · rw [List.length_append, List.length_append, List.length_take, List.length_drop, List.length_singleton]; omega
      · rcases List.mem_append.mp hr with q | q
        · rcases List.mem_append.mp q with q | q
          · exact smt _ r q
          · rw [List.mem_singleton.mp q]; exact sm'
        · exact smd _ r q
    refine ⟨_, rfl, p, _, _, _, rfl, rfl, S.ob, atI_nat (j := 2) rfl, _, rfl, li, _, _, _, rfl, rfl, S.li, ark, tl, _, _, _, rfl, rfl, sT, atI_nat (j := 3) rfl, _, rfl, u, _, _, _, rfl, rfl, sU, avj, ?_⟩
    refine ⟨_, rfl, rfl, _, rfl, ite2 (fun _ => ?_) (fun _ => ?_)⟩
    · refine ⟨_, rfl, _, rfl, _, rfl, nt, ns, rfl, hn, fun a1 H1 e1 s1 => ?_⟩
      refine ⟨_, rfl, _, rfl, _, _, rfl, rfl, _, rfl, nt, ns, rfl, ex_t e1 hn, fun a2 H2 e2 s2 => ?_⟩
      refine ⟨a1, a2, _, _, rfl, rfl, ex_t e2 s1, s2, by have := cutV_length ns none (some (y.fmod ((ns.length : Nat) : Int))); have := cutV_length ns (some (y.fmod ((ns.length : Nat) : Int) + 1)) none; rw [sizeLine_eq]; omega, fun o H3 e3 s3 => ?_⟩
      have e13 := e1.trans (e2.trans e3)
      have s3' : SqT K H3 o (ns.take kn ++ ns.drop (kn + 1)) := by rw [← take, ← drop]; exact s3
      have RB := RA.ex e13
      refine k H3 o _ (nums.take kn ++ nums.drop (kn + 1)) e13 (((RB.take kn).app (RB.drop (kn + 1))).at (.inr s3')) (tame_of ?_ fun r hr => ?_) fun h => ?_
      · rw [List.length_append, List.length_take, List.length_drop]; omega
      · rcases List.mem_append.mp hr with q | q
        · exact smt _ r q
        · exact smd _ r q
      · have := h.len
        rw [List.length_append, List.length_take, List.length_drop] at this
        omega
    refine ⟨_, rfl, rfl, _, rfl, ite2 (fun _ => ?_) (fun _ => ?_)⟩
    · refine ⟨_, rfl, _, rfl, nt, _, _, _, rfl, rfl, hn, ank, _, rfl, z, _, rfl, sz, fun a1 H1 e1 s1 => ?_⟩
      refine ⟨_, rfl, _, rfl, nt, _, _, _, rfl, rfl, ex_t e1 hn, ank, _, rfl, _, rfl, nt, _, _, _, rfl, rfl, ex_t e1 hn, ank, _, rfl, z, _, rfl, ex_t e1 sz, fun a2 H2 e2 s2 => ?_⟩
      refine ⟨z, a2, _, _, rfl, rfl, ex_t (e1.trans e2) sz, s2, by have := cutV_length (row.map vInt) none (some 1); have l1 : (row.map vInt).length = row.length := List.length_map ..; rw [sizeLine_eq]; omega, fun a3 H3 e3 s3 => ⟨by show 2 ≤ sizeLine; decide, fun L hL => ?_⟩⟩
      have eL := Ex.new (o := .lst [V.ref a1, .ref a3]) hL
      have mL : (upd H3 L (.lst [V.ref a1, .ref a3])) L = some (.lst [.ref a1, .ref a3]) := upd_same
      generalize upd H3 L (.lst [V.ref a1, .ref a3]) = H4 at eL mL
      have e14 := e2.trans (e3.trans eL)
      have dr : cutV (row.map vInt) (some 1) none = (row.drop 1).map vInt := by
        rw [show cutV (row.map vInt) (some 1) none = (row.map vInt).drop 1 from cut_from _ 1, List.map_drop]
      have tk : cutV (row.map vInt) none (some 1) = (row.take 1).map vInt := by
        rw [show cutV (row.map vInt) none (some 1) = (row.map vInt).take 1 from cut_to _ 1, List.map_take]
      rw [dr] at s1
      rw [tk, ← List.map_append] at s3
      have lrw2 : row.length = D.ws.length := by omega
      obtain ⟨r', row', at', sq', ne', sm'⟩ : ∃ r' row', atI [V.ref a1, .ref a3] (y / 31 % 2) = some (.ref r') ∧ SqT K H4 r' (row'.map vInt) ∧ row'.length ≠ row.length ∧ smallR row' := by
        rcases (by omega : y / 31 % 2 = 0 ∨ y / 31 % 2 = 1) with q | q
        · refine ⟨a1, _, by rw [q]; exact atI_nat (j := 0) rfl, ex_t e14 s1, by rw [List.length_drop]; omega, by rw [List.length_drop]; have := srow.1; omega, fun x hx => srow.2 x (List.mem_of_mem_drop hx)⟩
        · refine ⟨a3, _, by rw [q]; exact atI_nat (j := 1) rfl, ex_t eL s3, by rw [List.length_append, List.length_take]; omega, by rw [List.length_append, List.length_take]; omega, fun x hx => ?_⟩
          rcases List.mem_append.mp hx with h | h
          · exact srow.2 x h
          · exact srow.2 x (List.mem_of_mem_take h)
      refine ⟨_, rfl, _, _, rfl, rfl, ⟨by decide, by decide⟩, .inl ⟨_, rfl, _, _, rfl, rfl, (by show (0 : Int) < 2; decide), L, _, _, _, rfl, rfl, SqL.of mL, at', ?_⟩⟩
      have e04 := e1.trans e14
      refine ⟨_, rfl, _, rfl, _, rfl, nt, ns, rfl, ex_t e04 hn, fun b1 H5 e5 s5 => ?_⟩
      refine ⟨_, rfl, by show 1 ≤ sizeLine; decide, fun b2 hb2 => ?_⟩
      have e6 := Ex.new (o := .tup [V.ref r']) hb2
      have m6 : (upd H5 b2 (.tup [V.ref r'])) b2 = some (.tup [.ref r']) := upd_same
      generalize upd H5 b2 (.tup [V.ref r']) = H6 at e6 m6
      rw [take] at s5
      refine ⟨b1, b2, _, _, rfl, rfl, ex_t e6 s5, SqT.of m6, by rw [List.length_take, sizeLine_eq]; show _ + 1 ≤ _; omega, fun b3 H7 e7 s7 => ?_⟩
      have e47 := e5.trans (e6.trans e7)
      refine ⟨_, rfl, _, rfl, _, _, rfl, rfl, _, rfl, nt, ns, rfl, ex_t (e04.trans e47) hn, fun b4 H8 e8 s8 => ?_⟩
      rw [drop] at s8
      refine ⟨b3, b4, _, _, rfl, rfl, ex_t e8 s7, s8, by rw [List.length_append, List.length_take, List.length_drop, sizeLine_eq]; show _ + 1 + _ ≤ _; omega, fun o H9 e9 s9 => ?_⟩
      exact fin e04 sq' (fun h => ne' (by rw [h.1]; omega)) sm' (e47.trans (e8.trans e9)) s9
    refine ⟨fun σ H' => ∃ wv : Option Int, σ = [some (.ref p), some (.ref nt), some (.int x), some (.int y), some (.int (x % 5)), some (.int (y.fmod ((ns.length : Nat) : Int))), some (.int ((y / 11).fmod (((D.ws.map V.str).length : Nat) : Int))), some pv, none, some (vInt wv)] ∧ Ex H H' ∧ ¬ Within1 bn wv ∧ ∀ i, wv = some i → i.natAbs ≤ 1000000, ?_, ?_⟩
    · cases bn with
      | none =>
        cases dpv
        refine ⟨_, rfl, rfl, _, rfl, iteF ?_⟩
        exact ⟨some 1, rfl, Ex.refl _, fun h => h, fun i h => by cases h; decide⟩
      | some b =>
        obtain ⟨bt, rfl, sb⟩ : ∃ bt, pv = .ref bt ∧ SqT K H bt [.int b.1, .int b.2] := by
          unfold dTime at dpv
          cases dpv with
          | tup st al =>
            cases al with
            | cons d1 al =>
              cases al with
              | cons d2 al =>
                cases al
                cases d1
                cases d2
                exact ⟨_, rfl, st⟩
        obtain ⟨q1, q2, q3⟩ := (ok.lk kk hkm).ok _ (List.mem_of_getElem? hbn)
        refine ⟨_, rfl, rfl, _, rfl, iteT ?_⟩
        refine ⟨_, rfl, bt, _, _, _, rfl, rfl, sb, atI_nat (j := 0) rfl, _, _, rfl, rfl, _, rfl, bt, _, _, _, rfl, rfl, sb, atI_nat (j := 1) rfl, _, _, rfl, rfl, by show 3 ≤ sizeLine; decide, fun L hL => ?_⟩
        obtain ⟨wv, at', bad, swv⟩ : ∃ wv : Option Int, atI [V.non, .int (b.1 - 1), .int (b.2 + 1)] (y / 31 % 3) = some (vInt wv) ∧ ¬ Within1 (some b) wv ∧ ∀ i, wv = some i → i.natAbs ≤ 1000000 := by
          rcases (by omega : y / 31 % 3 = 0 ∨ y / 31 % 3 = 1 ∨ y / 31 % 3 = 2) with q | q | q
          · exact ⟨none, by rw [q]; exact atI_nat (j := 0) rfl, fun h => h, fun i h => by cases h⟩
          · exact ⟨some (b.1 - 1), by rw [q]; exact atI_nat (j := 1) rfl, fun h => by have := h.1; omega, fun i h => by cases h; omega⟩
          · exact ⟨some (b.2 + 1), by rw [q]; exact atI_nat (j := 2) rfl, fun h => by have := h.2; omega, fun i h => by cases h; omega⟩
        refine ⟨_, rfl, _, _, rfl, rfl, ⟨by decide, by decide⟩, .inl ⟨_, rfl, _, _, rfl, rfl, (by show (0 : Int) < 3; decide), L, _, _, _, rfl, rfl, SqL.of upd_same, at', ?_⟩⟩
        exact ⟨wv, rfl, Ex.new hL, bad, swv⟩
    · rintro σ H1 ⟨wv, rfl, e1, bad, swv⟩
      have lrv : (row.map vInt).length = row.length := List.length_map ..
      have tk : cutV (row.map vInt) none (some ((y / 11).fmod (((D.ws.map V.str).length : Nat) : Int))) = (row.take jn).map vInt := by rw [ejn, cut_to, List.map_take]
      have dr : cutV (row.map vInt) (some ((y / 11).fmod (((D.ws.map V.str).length : Nat) : Int) + 1)) none = (row.drop (jn + 1)).map vInt := by rw [ejn, show (jn : Int) + 1 = ((jn + 1 : Nat) : Int) by omega, cut_from, List.map_drop]
      refine ⟨_, rfl, _, rfl, _, rfl, nt, ns, rfl, ex_t e1 hn, fun b1 H2 e2 s2 => ?_⟩
      rw [take] at s2
      have e12 := e1.trans e2
      refine ⟨_, rfl, _, rfl, nt, _, _, _, rfl, rfl, ex_t e12 hn, ank, _, rfl, _, rfl, z, _, rfl, ex_t e12 sz, fun c1 H3 e3 s3 => ?_⟩
      rw [tk] at s3
      refine ⟨_, rfl, by show 1 ≤ sizeLine; decide, fun c2 hc2 => ?_⟩
      have e4 := Ex.new (o := .tup [vInt wv]) hc2
      have m4 : (upd H3 c2 (.tup [vInt wv])) c2 = some (.tup [vInt wv]) := upd_same
      generalize upd H3 c2 (.tup [vInt wv]) = H4 at e4 m4
      refine ⟨c1, c2, _, _, rfl, rfl, ex_t e4 s3, SqT.of m4, by rw [List.length_map, List.length_take, sizeLine_eq]; have := srow.1; show _ + 1 ≤ _; omega, fun c3 H5 e5 s5 => ?_⟩
      have e15 := e12.trans (e3.trans (e4.trans e5))
      refine ⟨_, rfl, _, rfl, nt, _, _, _, rfl, rfl, ex_t e15 hn, ank, _, rfl, _, _, rfl, rfl, _, rfl, z, _, rfl, ex_t e15 sz, fun c4 H6 e6 s6 => ?_⟩
      rw [dr] at s6
      refine ⟨c3, c4, _, _, rfl, rfl, ex_t e6 s5, s6, by simp only [List.length_append, List.length_map, List.length_take, List.length_drop, List.length_singleton]; rw [sizeLine_eq]; have := srow.1; omega, fun r' H7 e7 s7 => ?_⟩
      have e27 := (e3.trans (e4.trans e5)).trans (e6.trans e7)
      have e17 := e12.trans e27
      have s7' : SqT K H7 r' ((row.take jn ++ [wv] ++ row.drop (jn + 1)).map vInt) := by
        rw [List.map_append, List.map_append]
        exact s7
      refine ⟨by show 1 ≤ sizeLine; decide, fun b2 hb2 => ?_⟩
      have e8 := Ex.new (o := .tup [V.ref r']) hb2
      have m8 : (upd H7 b2 (.tup [V.ref r'])) b2 = some (.tup [.ref r']) := upd_same
      generalize upd H7 b2 (.tup [V.ref r']) = H8 at e8 m8
      refine ⟨b1, b2, _, _, rfl, rfl, ex_t (e27.trans e8) s2, SqT.of m8, by rw [List.length_take, sizeLine_eq]; show _ + 1 ≤ _; omega, fun b3 H9 e9 s9 => ?_⟩
      refine ⟨_, rfl, _, rfl, _, _, rfl, rfl, _, rfl, nt, ns, rfl, ex_t (e17.trans (e8.trans e9)) hn, fun b4 HA eA sA => ?_⟩
      rw [drop] at sA
      refine ⟨b3, b4, _, _, rfl, rfl, ex_t eA s9, sA, by rw [List.length_append, List.length_take, List.length_drop, sizeLine_eq]; show _ + 1 + _ ≤ _; omega, fun o HB eB sB => ?_⟩
      refine fin e17 s7' (fun h => ?_) ⟨?_, fun i hi => ?_⟩ (e8.trans (e9.trans (eA.trans eB))) sB
      · refine bad (h.2 jn bn wv hbn ?_)
        have lt : (row.take jn).length = jn := by rw [List.length_take]; omega
        rw [List.append_assoc, List.getElem?_append_right (by omega), lt, Nat.sub_self]
        rfl
      · simp only [List.length_append, List.length_take, List.length_drop, List.length_singleton]
        have := srow.1
        omega
      · rcases List.mem_append.mp hi with q | q
        · rcases List.mem_append.mp q with q | q
          · exact srow.2 i (List.mem_of_mem_take q)
          · exact swv i (List.mem_singleton.mp q).symm
        · exact srow.2 i (List.mem_of_mem_drop q)
end
end EV

set_option Elab.async false
set_option linter.all false
set_option maxRecDepth 100000
set_option maxHeartbeats 8000000
namespace EV
open PySem PySem.Spec PyProof.Rows L2 EvS Evl FD
open RpX
def spLaw (K : PySem.W.Frag) : Sp := fun vs H Q _ => ∃ (p : Addr) (ns : List Int), vs = [.ref p] ∧ SqL K H p (ns.map V.int) ∧ ∀ H', Q (.bl true) H'
theorem numsS_within {D : LandD} (ok : LandOk D) (s : Nat) : Within D (numsS s D) where
  len := List.length_map ..
  row := fun j k row hk hr => by
    unfold numsS at hr
    rw [List.getElem?_map, hk] at hr
    cases hr
    refine ⟨List.length_map .., fun i b x hb hx => ?_⟩
    rw [List.getElem?_map, hb] at hx
    cases hx
    cases b with
    | none => trivial
    | some b =>
      obtain ⟨h1, h2, h3⟩ := (ok.lk k (List.mem_of_getElem? hk)).ok _ (List.mem_of_getElem? hb)
      show b.1 ≤ (if s = 0 then b.1 else b.2) ∧ (if s = 0 then b.1 else b.2) ≤ b.2
      split <;> omega
theorem rp_nums {D : LandD} (ok : LandOk D) {nums : List (List (Option Int))} (h : Within D nums) : Rp 3 (60 * (4 * 42 + 1)) (.tuple (nums.map dRow)) := rp_tup (n := 2) (w := 4 * 42) (m := 60) (fun d hd => by
  obtain ⟨row, hr, rfl⟩ := List.mem_map.mp hd
  have sm := within_small ok h row hr
  have l4 : row.length ≤ 4 := by
    obtain ⟨j, hj⟩ := List.mem_iff_getElem?.mp hr
    have lt := (List.getElem?_eq_some_iff.mp hj).1
    obtain ⟨k, hk⟩ : ∃ k, D.ls[j]? = some k := ⟨_, List.getElem?_eq_getElem (by rw [← h.len]; exact lt)⟩
    have := (h.row j k row hk hj).1
    have := (ok.lk k (List.mem_of_getElem? hk)).len
    have := ok.w4
    omega
  refine rp_tup (n := 1) (w := 41) (m := 4) (fun x hx => ?_) (by rw [List.length_map]; exact l4)
  obtain ⟨o, ho, rfl⟩ := List.mem_map.mp hx
  cases o with
  | none => exact rp_none
  | some i =>
    have := sm.2 i ho
    exact rp_int (by omega) (by omega)) (by rw [List.length_map, h.len]; exact ok.l60)
section
variable {P : Program} {w : World} {K : PySem.W.Frag} {mg : Str → Option Value} {base : Heap} {a : Ad}
theorem G_law (T : Txt K mg a) (hP : PF P) (bind : ∀ (s : Shared) (u : Value), BindsTo s a.d_law ⟨[u], []⟩ [("script", u)]) : GrdX.Says P w K mg base CX0 a.f_law (spLaw K) := by
  refine GrdX.says_fun (k := 7) T.F_law sc_law bind ⟨rfl, by decide, by decide⟩ (fun cdv s H v Q E hr h => ?_)
  · obtain ⟨sc, ns, hv, hS, k⟩ := h
    cases hv
    refine ⟨_, (pss_cons (ps_set (i := 1) sc_law.nd rfl (Or.inl rfl) (pe_call (G__law_numbers T) (hr.mono (by decide)) (by rfl) T.g__law_numbers T.k__law_numbers T.B__law_numbers .nil pass0 (pa_cons (pv 0) (pa_cons pe_int pa_nil))))
      (pss_cons (ps_set (i := 2) sc_law.nd rfl (Or.inl rfl) (pe_call (G__law_parts T) (hr.mono (by decide)) (by rfl) T.g__law_parts T.k__law_parts T.B__law_parts .nil pass0 (pa_cons (pv 1) (pa_cons pe_int pa_nil))))
      (pss_cons (ps_set (i := 3) sc_law.nd rfl (Or.inl rfl) (pe_call (G__law_made T) (hr.mono (by decide)) (by rfl) T.g__law_made T.k__law_made T.B__law_made .nil pass0 (pa_cons (pv 2) pa_nil)))
      (pss_cons (ps_if (PW.pt (pw_or (pt_cmpR op_ne (pe_callB (GrdX.call_repr rfl hr.units) (by rfl) T.z_repr (by decide +kernel) (pa_cons (pe_call (G_least_numbers T) (hr.mono (by decide)) (by rfl) T.g_least_numbers T.k_least_numbers T.B_least_numbers .nil pass0 (pa_cons (pv 3) pa_nil)) pa_nil)) (pe_callB (GrdX.call_repr rfl hr.units) (by rfl) T.z_repr (by decide +kernel) (pa_cons (pe_call (G__law_side T) (hr.mono (by decide)) (by rfl) T.g__law_side T.k__law_side T.B__law_side .nil pass0 (pa_cons (pv 2) (pa_cons pe_int pa_nil))) pa_nil)) (nomark _)) (pw_or1 (pt_cmpR op_ne (pe_callB (GrdX.call_repr rfl hr.units) (by rfl) T.z_repr (by decide +kernel) (pa_cons (pe_call (G_most_numbers T) (hr.mono (by decide)) (by rfl) T.g_most_numbers T.k_most_numbers T.B_most_numbers .nil pass0 (pa_cons (pv 3) pa_nil)) pa_nil)) (pe_callB (GrdX.call_repr rfl hr.units) (by rfl) T.z_repr (by decide +kernel) (pa_cons (pe_call (G__law_side T) (hr.mono (by decide)) (by rfl) T.g__law_side T.k__law_side T.B__law_side .nil pass0 (pa_cons (pv 2) (pa_cons pe_int pa_nil))) pa_nil)) (nomark _))))) (pss_one (ps_ret pe_bl)) pss_nil)
      (pss_cons (ps_set (i := 4) sc_law.nd rfl (Or.inl rfl) (pe_call (G__law_between T) (hr.mono (by decide)) (by rfl) T.g__law_between T.k__law_between T.B__law_between .nil pass0 (pa_cons (pv 2) (pa_cons (pv 1) (pa_cons pe_int pa_nil)))))
      (pss_cons (ps_for PassesOwn.never rfl (pi_list (pe_lst (pa_cons (pv 4) (pa_cons (pe_lc (own := [("row", 7)]) (g := gName 7) (tt := tYes) rfl sc_law.nd (pi_tup (pv 4)) (blkOk_by (N := ["script", "numbers", "parts", "land", "between", "rows", "k", "row"]) (sc := defScope s_law) (by decide +kernel)) (fun _ _ _ _ _ => pg_name (i := 7) sc_law.nd rfl (Or.inl rfl)) (fun _ _ _ _ _ => pts_nil) (fun _ _ _ _ _ => (pe_callTy (show CallR _ _ (rLstK K) from call_lstK) (by rfl) T.z_list (by decide +kernel) (pa_cons (pv 7) pa_nil)))) (pa_cons (pe_call (G__law_side T) (hr.mono (by decide)) (by rfl) T.g__law_side T.k__law_side T.B__law_side .nil pass0 (pa_cons (pv 2) (pa_cons pe_int pa_nil))) (pa_cons (pe_call (G__law_side T) (hr.mono (by decide)) (by rfl) T.g__law_side T.k__law_side T.B__law_side .nil pass0 (pa_cons (pv 2) (pa_cons pe_int pa_nil))) pa_nil)))))) (pg_name (i := 5) sc_law.nd rfl (Or.inl rfl)) (pss_one (ps_if (pt_cmpR op_isnot_bl (pe_call (G__law_checked T hP) (hr.mono (by decide)) (by rfl) T.g__law_checked T.k__law_checked T.B__law_checked .nil pass0 (pa_cons (pv 3) (pa_cons (pv 5) pa_nil))) pe_bl (nomark _)) (pss_one (ps_ret pe_bl)) pss_nil)))
      (pss_cons (ps_for PassesOwn.never rfl (pi_range1 (by rfl) T.z_range (pa_cons pe_int pa_nil)) (pg_name (i := 6) sc_law.nd rfl (Or.inl rfl)) (pss_one (ps_if (pt_cmpR op_isnot_bl (pe_call (G__law_checked T hP) (hr.mono (by decide)) (by rfl) T.g__law_checked T.k__law_checked T.B__law_checked .nil pass0 (pa_cons (pv 3) (pa_cons (pe_call (G__law_faulty T) (hr.mono (by decide)) (by rfl) T.g__law_faulty T.k__law_faulty T.B__law_faulty .nil pass0 (pa_cons (pv 2) (pa_cons (pv 4) (pa_cons (pe_ix ix_list (pv 1) (pe_op op_add pe_int (pe_op op_mul pe_int (pv 6))) (fun _ _ => rfl)) (pa_cons (pe_ix ix_list (pv 1) (pe_op op_add pe_int (pe_op op_mul pe_int (pv 6))) (fun _ _ => rfl)) pa_nil))))) pa_nil))) pe_bl (nomark _)) (pss_one (ps_ret pe_bl)) pss_nil)))
      (pss_one (ps_ret pe_bl))))))))), ?_⟩
    refine ⟨_, rfl, sc, ns, 90, rfl, hS, by decide, by decide, fun H1 q ks e1 _ hq lq sm => ?_⟩
    have N : Nums K H1 q ks := ⟨SqL.of hq, sm, by omega, by omega⟩
    refine ⟨_, rfl, q, ks, rfl, N, fun H2 p D wi pl li rows e2 _ _ S2 ok sm3 => ?_⟩
    have N2 := N.ex e2
    refine ⟨_, rfl, p, D, wi, pl, li, rows, rfl, S2, ok, fun H3 x e3 _ hx => ?_⟩
    have N3 := N2.ex e3
    have S3 := S2.ex e3
    have rp0 := rp_nums ok (numsS_within ok 0)
    have rp1 := rp_nums ok (numsS_within ok 1)
    have tame : ∀ {nums : List (List (Option Int))}, Within D nums → TameN nums := fun {nums} h => tame_of (by rw [h.len]; have := ok.l60; omega) (within_small ok h)
    refine ⟨_, rfl, x, D, rfl, hx, ok, fun H4 t4 n4 e4 _ s4 d4 => ⟨t4, _, rfl, .tup s4 d4, rp0.sh, rp0.nd, rp0.d20, rp0.fits, ?_⟩⟩
    have S4 := S3.ex e4
    refine ⟨_, rfl, p, 0, D, wi, pl, li, rows, rfl, S4, ok, by decide, fun H5 t5 n5 e5 _ s5 d5 => ⟨t5, _, rfl, .tup s5 d5, rp0.sh, rp0.nd, rp0.d20, rp0.fits, rfl, _, rfl, ?_⟩⟩
    rw [decide_eq_true rfl]
    refine iteNT ?_
    have S5 := S4.ex e5
    have e35 := e4.trans e5
    have N5 := N3.ex e35
    refine ⟨_, rfl, x, D, rfl, hx.ex e35, ok, fun H6 t6 n6 e6 _ s6 d6 => ⟨t6, _, rfl, .tup s6 d6, rp1.sh, rp1.nd, rp1.d20, rp1.fits, ?_⟩⟩
    have S6 := S5.ex e6
    refine ⟨_, rfl, p, 1, D, wi, pl, li, rows, rfl, S6, ok, by decide, fun H7 t7 n7 e7 _ s7 d7 => ⟨t7, _, rfl, .tup s7 d7, rp1.sh, rp1.nd, rp1.d20, rp1.fits, rfl, _, rfl, ?_⟩⟩
    rw [decide_eq_true rfl]
    refine iteNT ?_
    have e37 := e35.trans (e6.trans e7)
    have S7 := S6.ex e7
    have N7 := N3.ex e37
    have x7 := hx.ex e37
    -- between
    refine ⟨_, rfl, _, rfl, p, q, ks, D, wi, pl, li, rows, rfl, N7, S7, ok, sm3, fun H8 nt ns1 nums e8 _ hn dn wi' => ?_⟩
    have S8 := S7.ex e8
    have N8 := N7.ex e8
    have x8 := x7.ex e8
    have lnm := wi'.len
    have lns : ns1.length = nums.length := by rw [dps_len dn, List.length_map]
    have l60 := ok.l60
    have RA : RowsAt K H8 ns1 nums := ⟨lns, (NumAt.of hn dn).row⟩
    refine ⟨_, rfl, _, rfl, nt, rfl, ⟨_, hn⟩, fun D0 hD0 => lc_tup (K := K) (a := nt) (xs := ns1) (fun i H' => Ex H8 H' ∧ ∃ acc, H' D0 = some (.lst acc) ∧ acc.length = i ∧ RowsAt K (del H' D0) acc (nums.take i)) ⟨Ex.new hD0, [], upd_same, rfl, rfl, fun i v row h => by cases h⟩ (fun i H' _ z => ex_t z.1 hn) (fun i y H' hy z => ?_) (fun H9 z => ?_)⟩
    · obtain ⟨e, acc, ha, la, ra⟩ := z
      have hi := (List.getElem?_eq_some_iff.mp hy).1
      obtain ⟨row, hrow⟩ : ∃ row, nums[i]? = some row := ⟨nums[i]'(by omega), List.getElem?_eq_getElem (by omega)⟩
      obtain ⟨z, rfl, hz⟩ := (RA.ex e).2 i y row hy hrow
      refine ⟨rfl, _, rfl, z, _, rfl, hz, fun lr hlr => ?_⟩
      have eT := Ex.new (o := .lst (row.map vInt)) hlr
      have tD : lr ≠ D0 := fun q => by rw [q, ha] at hlr; cases hlr
      refine ⟨acc, eT _ _ ha, sz_lt (by omega), (e.trans eT).mut hD0, acc ++ [.ref lr], upd_same, by rw [List.length_append, la] <;> rfl, ?_⟩
      rw [del_upd, take_one hrow]
      exact (ra.ex (ex_del eT)).app (RowsAt.one (.inl (SqL.of (del_at tD upd_same))))
    obtain ⟨e9, acc, ha9, la, ra⟩ := z
    have ra9 : RowsAt K H9 acc nums := by
      rw [List.take_of_length_le (by omega)] at ra
      exact ra.ex del_ex
    have S9 := S8.ex e9
    have N9 := N8.ex e9
    have x9 := x8.ex e9
    refine ⟨_, rfl, p, 0, D, wi, pl, li, rows, rfl, S9, ok, by decide, fun HA ta na eA _ sA dA => ?_⟩
    refine ⟨_, rfl, p, 1, D, wi, pl, li, rows, rfl, S9.ex eA, ok, by decide, fun HB tb nb eB _ sB dB => ?_⟩
    refine ⟨by show 4 ≤ sizeLine; decide, fun L hL => ?_⟩
    have eC := Ex.new (o := .lst [V.ref nt, .ref D0, .ref ta, .ref tb]) hL
    have mC : (upd HB L (.lst [V.ref nt, .ref D0, .ref ta, .ref tb])) L = some (.lst [.ref nt, .ref D0, .ref ta, .ref tb]) := upd_same
    generalize upd HB L (.lst [V.ref nt, .ref D0, .ref ta, .ref tb]) = HC at eC mC
    have e9B := eA.trans eB
    have e9C := e9B.trans eC
    have e8C := e9.trans e9C
    have items : ∀ (j : Nat) y, [V.ref nt, .ref D0, .ref ta, .ref tb][j]? = some y → ∃ o ns' nums', y = .ref o ∧ NumAt K HC o ns' nums' ∧ Within D nums' := fun j y hj => by
      match j, hj with
      | 0, hj => cases hj; exact ⟨nt, ns1, nums, rfl, (RA.at (.inr hn)).ex e8C, wi'⟩
      | 1, hj => cases hj; exact ⟨D0, acc, nums, rfl, (ra9.at (.inl (SqL.of ha9))).ex e9C, wi'⟩
      | 2, hj => cases hj; exact ⟨ta, na, _, rfl, (NumAt.of sA dA).ex (eB.trans eC), numsS_within ok 0⟩
      | 3, hj => cases hj; exact ⟨tb, nb, _, rfl, (NumAt.of sB dB).ex eC, numsS_within ok 1⟩
      | j + 4, hj => cases hj
    have xC := x9.ex e9C
    have NC := N9.ex e9C
    have SC := S9.ex e9C
    have hnC := ex_t e8C hn
    have dnC := dps_ex e8C dn
    clear S2 S3 S4 S5 S6 S7 S8 N2 N3 N5 N7 x7 x8 x9 N8 N9 S9
    refine ⟨L, rfl, ⟨_, SqL.of mC⟩, for_list (K := K) (a := L) (xs := [V.ref nt, .ref D0, .ref ta, .ref tb]) (fun i σ H' => ∃ v5, σ = [some (.ref sc), some (.ref q), some (.ref p), some (.ref x), some (.ref nt), v5, none, none] ∧ Ex HC H') ⟨none, rfl, Ex.refl _⟩ (fun i σ H' _ z => by obtain ⟨_, _, e⟩ := z; exact SqL.of (e _ _ mC)) (fun i y σ H' hy z => ?_) (fun σ H' z => ?_)⟩
    · obtain ⟨v5, rfl, e⟩ := z
      obtain ⟨o, ns', nums', rfl, na', wn⟩ := items i y hy
      refine ⟨_, rfl, _, rfl, x, o, D, ns', nums', rfl, xC.ex e, ok, na'.ex e, tame wn, fun _ H'' e2 => ?_, fun bad => absurd wn bad⟩
      exact ⟨_, _, rfl, rfl, _, rfl, ite2 (fun c => absurd c (by decide)) (fun _ => ⟨_, rfl, e.trans e2⟩)⟩
    · obtain ⟨v5, rfl, e⟩ := z
      refine ⟨_, rfl, by decide, by decide, for_range (n := (4 : Int).toNat) (fun i σ H' => ∃ v6, σ = [some (.ref sc), some (.ref q), some (.ref p), some (.ref x), some (.ref nt), v5, v6, none] ∧ Ex HC H') ⟨_, rfl, e⟩ (fun i σ H' hi z => ?_) (fun σ H' z => ?_)⟩
      · obtain ⟨v6, rfl, e⟩ := z
        have NE := NC.ex e
        have hi : i < 4 := by have : (4 : Int).toNat = 4 := rfl; omega
        obtain ⟨y1, a1, b1, g1⟩ := NE.get (i := 72 + 2 * (0 + (i : Int))) (by omega) (by omega)
        obtain ⟨y2, a2, b2, g2⟩ := NE.get (i := 73 + 2 * (0 + (i : Int))) (by omega) (by omega)
        refine ⟨_, rfl, _, rfl, _, rfl, _, rfl, _, rfl, _, _, rfl, rfl, .inl ⟨by decide, by decide⟩, _, _, rfl, rfl, q, _, _, _, rfl, rfl, NE.at_, g1, _, rfl, _, rfl, _, _, rfl, rfl, .inl ⟨by decide, by decide⟩, _, _, rfl, rfl, q, _, _, _, rfl, rfl, NE.at_, g2, ?_⟩
        refine ⟨p, nt, y1, y2, D, wi, pl, li, rows, ns1, nums, rfl, SC.ex e, ok, ex_t e hnC, dps_ex e dnC, wi', a1, a2, by omega, fun H'' o ns' nums' e2 na' tm' bad => ?_⟩
        refine ⟨x, o, D, ns', nums', rfl, xC.ex (e.trans e2), ok, na', tm', fun wn => absurd wn bad, fun _ H3 e3 => ?_⟩
        exact ⟨_, _, rfl, rfl, _, rfl, ite2 (fun c => absurd c (by decide)) (fun _ => ⟨_, rfl, e.trans (e2.trans e3)⟩)⟩
      · obtain ⟨v6, rfl, e⟩ := z
        exact k _
end
end EV

set_option Elab.async false
set_option linter.all false
set_option maxRecDepth 100000
set_option maxHeartbeats 4000000
namespace EV
open PySem PySem.Spec PyProof.Rows L2 EvS Evl
theorem all_mk {l : PySem.W.OpenLaw} {w : World} {K : PySem.W.Frag} {h : Heap} {mg : Str → Option Value} {fa C tl te pr D f_least_numbers f_most_numbers f_check_numbers f__is_within f_is_name f__check_count f__check_names f__check_ends f__as_bounds f__as_link f__as_path f__check_single_paths f_init f_link_names f__law_row f__law_numbers f__law_names f__law_parts f__law_made f__law_side f__law_between f__law_checked f__law_faulty f_law X_EveryfireError X_InvalidQuestion : Addr} (X : K.In h) (G : h.Ns mainGlobals mg) (hfa : mg "law" = some (.ref fa))
    {od_least_numbers an_least_numbers od_most_numbers an_most_numbers od_check_numbers an_check_numbers od__is_within an__is_within od_is_name an_is_name od__check_count an__check_count od__check_names an__check_names od__check_ends an__check_ends od__as_bounds an__as_bounds od__as_link an__as_link od__as_path an__as_path od__check_single_paths an__check_single_paths od_init an_init od_link_names an_link_names od__law_row an__law_row od__law_numbers an__law_numbers od__law_names an__law_names od__law_parts an__law_parts od__law_made an__law_made od__law_side an__law_side od__law_between an__law_between od__law_checked an__law_checked od__law_faulty an__law_faulty od_law an_law dd_tl dd_te : Option Addr} {sl_least_numbers sl_most_numbers sl_check_numbers sl__is_within sl_is_name sl__check_count sl__check_names sl__check_ends sl__as_bounds sl__as_link sl__as_path sl__check_single_paths sl_init sl_link_names sl__law_row sl__law_numbers sl__law_names sl__law_parts sl__law_made sl__law_side sl__law_between sl__law_checked sl__law_faulty sl_law sl_tl sl_te : Array (Option Value)} {oc_least_numbers kV_least_numbers dc_least_numbers pm_least_numbers cd_least_numbers ct_least_numbers oc_most_numbers kV_most_numbers dc_most_numbers pm_most_numbers cd_most_numbers ct_most_numbers oc_check_numbers kV_check_numbers dc_check_numbers pm_check_numbers cd_check_numbers ct_check_numbers oc__is_within kV__is_within dc__is_within pm__is_within cd__is_within ct__is_within oc_is_name kV_is_name dc_is_name pm_is_name cd_is_name ct_is_name oc__check_count kV__check_count dc__check_count pm__check_count cd__check_count ct__check_count oc__check_names kV__check_names dc__check_names pm__check_names cd__check_names ct__check_names oc__check_ends kV__check_ends dc__check_ends pm__check_ends cd__check_ends ct__check_ends oc__as_bounds kV__as_bounds dc__as_bounds pm__as_bounds cd__as_bounds ct__as_bounds oc__as_link kV__as_link dc__as_link pm__as_link cd__as_link ct__as_link oc__as_path kV__as_path dc__as_path pm__as_path cd__as_path ct__as_path oc__check_single_paths kV__check_single_paths dc__check_single_paths pm__check_single_paths cd__check_single_paths ct__check_single_paths oc_init dc_init pm_init cd_init ct_init oc_link_names kV_link_names dc_link_names pm_link_names cd_link_names ct_link_names oc__law_row kV__law_row dc__law_row pm__law_row cd__law_row ct__law_row oc__law_numbers kV__law_numbers dc__law_numbers pm__law_numbers cd__law_numbers ct__law_numbers oc__law_names kV__law_names dc__law_names pm__law_names cd__law_names ct__law_names oc__law_parts kV__law_parts dc__law_parts pm__law_parts cd__law_parts ct__law_parts oc__law_made kV__law_made dc__law_made pm__law_made cd__law_made ct__law_made oc__law_side kV__law_side dc__law_side pm__law_side cd__law_side ct__law_side oc__law_between kV__law_between dc__law_between pm__law_between cd__law_between ct__law_between oc__law_checked kV__law_checked dc__law_checked pm__law_checked cd__law_checked ct__law_checked oc__law_faulty kV__law_faulty dc__law_faulty pm__law_faulty cd__law_faulty ct__law_faulty oc_law kV_law dc_law pm_law cd_law ct_law : Value} {n_tl n_te : Nat} {rest_pr : List Value} {t_DIGITS t_LETTERS t_LONGEST_NAME t_MOST_LINKS t_MOST_MINUTES t_MOST_PATHS t_MOST_PLACES t_MOST_WINDS : Tok} 
    (aC : PySem.W.nsIn K mainGlobals "Land" = some (some (.ref C)))
    (a_least_numbers : PySem.W.nsIn K mainGlobals "least_numbers" = some (some (.ref f_least_numbers)))
    (l_least_numbers : K.lookup f_least_numbers = some ⟨oc_least_numbers, od_least_numbers, .func (PySem.W.fnOf "least_numbers" "least_numbers" (defArgs s_least_numbers) (defBody s_least_numbers) (defScope s_least_numbers) .none kV_least_numbers dc_least_numbers pm_least_numbers an_least_numbers cd_least_numbers ct_least_numbers), sl_least_numbers⟩)
    (c_least_numbers : PySem.W.codeIn K cd_least_numbers "least_numbers" = true)
    (k_least_numbers : PySem.W.keepIn K (.ref f_least_numbers) = true)
    (a_most_numbers : PySem.W.nsIn K mainGlobals "most_numbers" = some (some (.ref f_most_numbers)))
    (l_most_numbers : K.lookup f_most_numbers = some ⟨oc_most_numbers, od_most_numbers, .func (PySem.W.fnOf "most_numbers" "most_numbers" (defArgs s_most_numbers) (defBody s_most_numbers) (defScope s_most_numbers) .none kV_most_numbers dc_most_numbers pm_most_numbers an_most_numbers cd_most_numbers ct_most_numbers), sl_most_numbers⟩)
    (c_most_numbers : PySem.W.codeIn K cd_most_numbers "most_numbers" = true)
    (k_most_numbers : PySem.W.keepIn K (.ref f_most_numbers) = true)
    (a_check_numbers : PySem.W.nsIn K mainGlobals "check_numbers" = some (some (.ref f_check_numbers)))
    (l_check_numbers : K.lookup f_check_numbers = some ⟨oc_check_numbers, od_check_numbers, .func (PySem.W.fnOf "check_numbers" "check_numbers" (defArgs s_check_numbers) (defBody s_check_numbers) (defScope s_check_numbers) .none kV_check_numbers dc_check_numbers pm_check_numbers an_check_numbers cd_check_numbers ct_check_numbers), sl_check_numbers⟩)
    (c_check_numbers : PySem.W.codeIn K cd_check_numbers "check_numbers" = true)
    (k_check_numbers : PySem.W.keepIn K (.ref f_check_numbers) = true)
    (a__is_within : PySem.W.nsIn K mainGlobals "_is_within" = some (some (.ref f__is_within)))
    (l__is_within : K.lookup f__is_within = some ⟨oc__is_within, od__is_within, .func (PySem.W.fnOf "_is_within" "_is_within" (defArgs s__is_within) (defBody s__is_within) (defScope s__is_within) .none kV__is_within dc__is_within pm__is_within an__is_within cd__is_within ct__is_within), sl__is_within⟩)
    (c__is_within : PySem.W.codeIn K cd__is_within "_is_within" = true)
    (k__is_within : PySem.W.keepIn K (.ref f__is_within) = true)
    (a_is_name : PySem.W.nsIn K mainGlobals "is_name" = some (some (.ref f_is_name)))
    (l_is_name : K.lookup f_is_name = some ⟨oc_is_name, od_is_name, .func (PySem.W.fnOf "is_name" "is_name" (defArgs s_is_name) (defBody s_is_name) (defScope s_is_name) .none kV_is_name dc_is_name pm_is_name an_is_name cd_is_name ct_is_name), sl_is_name⟩)
    (c_is_name : PySem.W.codeIn K cd_is_name "is_name" = true)
    (k_is_name : PySem.W.keepIn K (.ref f_is_name) = true)
    (a__check_count : PySem.W.nsIn K mainGlobals "_check_count" = some (some (.ref f__check_count)))
    (l__check_count : K.lookup f__check_count = some ⟨oc__check_count, od__check_count, .func (PySem.W.fnOf "_check_count" "_check_count" (defArgs s__check_count) (defBody s__check_count) (defScope s__check_count) .none kV__check_count dc__check_count pm__check_count an__check_count cd__check_count ct__check_count), sl__check_count⟩)
    (c__check_count : PySem.W.codeIn K cd__check_count "_check_count" = true)
    (k__check_count : PySem.W.keepIn K (.ref f__check_count) = true)
    (a__check_names : PySem.W.nsIn K mainGlobals "_check_names" = some (some (.ref f__check_names)))
    (l__check_names : K.lookup f__check_names = some ⟨oc__check_names, od__check_names, .func (PySem.W.fnOf "_check_names" "_check_names" (defArgs s__check_names) (defBody s__check_names) (defScope s__check_names) .none kV__check_names dc__check_names pm__check_names an__check_names cd__check_names ct__check_names), sl__check_names⟩)
    (c__check_names : PySem.W.codeIn K cd__check_names "_check_names" = true)
    (k__check_names : PySem.W.keepIn K (.ref f__check_names) = true)
    (a__check_ends : PySem.W.nsIn K mainGlobals "_check_ends" = some (some (.ref f__check_ends)))
    (l__check_ends : K.lookup f__check_ends = some ⟨oc__check_ends, od__check_ends, .func (PySem.W.fnOf "_check_ends" "_check_ends" (defArgs s__check_ends) (defBody s__check_ends) (defScope s__check_ends) .none kV__check_ends dc__check_ends pm__check_ends an__check_ends cd__check_ends ct__check_ends), sl__check_ends⟩)
    (c__check_ends : PySem.W.codeIn K cd__check_ends "_check_ends" = true)
    (k__check_ends : PySem.W.keepIn K (.ref f__check_ends) = true)
    (a__as_bounds : PySem.W.nsIn K mainGlobals "_as_bounds" = some (some (.ref f__as_bounds)))
    (l__as_bounds : K.lookup f__as_bounds = some ⟨oc__as_bounds, od__as_bounds, .func (PySem.W.fnOf "_as_bounds" "_as_bounds" (defArgs s__as_bounds) (defBody s__as_bounds) (defScope s__as_bounds) .none kV__as_bounds dc__as_bounds pm__as_bounds an__as_bounds cd__as_bounds ct__as_bounds), sl__as_bounds⟩)
    (c__as_bounds : PySem.W.codeIn K cd__as_bounds "_as_bounds" = true)
    (k__as_bounds : PySem.W.keepIn K (.ref f__as_bounds) = true)
    (a__as_link : PySem.W.nsIn K mainGlobals "_as_link" = some (some (.ref f__as_link)))
    (l__as_link : K.lookup f__as_link = some ⟨oc__as_link, od__as_link, .func (PySem.W.fnOf "_as_link" "_as_link" (defArgs s__as_link) (defBody s__as_link) (defScope s__as_link) .none kV__as_link dc__as_link pm__as_link an__as_link cd__as_link ct__as_link), sl__as_link⟩)
    (c__as_link : PySem.W.codeIn K cd__as_link "_as_link" = true)
    (k__as_link : PySem.W.keepIn K (.ref f__as_link) = true)
    (a__as_path : PySem.W.nsIn K mainGlobals "_as_path" = some (some (.ref f__as_path)))
    (l__as_path : K.lookup f__as_path = some ⟨oc__as_path, od__as_path, .func (PySem.W.fnOf "_as_path" "_as_path" (defArgs s__as_path) (defBody s__as_path) (defScope s__as_path) .none kV__as_path dc__as_path pm__as_path an__as_path cd__as_path ct__as_path), sl__as_path⟩)
    (c__as_path : PySem.W.codeIn K cd__as_path "_as_path" = true)
    (k__as_path : PySem.W.keepIn K (.ref f__as_path) = true)
    (a__check_single_paths : PySem.W.nsIn K mainGlobals "_check_single_paths" = some (some (.ref f__check_single_paths)))
    (l__check_single_paths : K.lookup f__check_single_paths = some ⟨oc__check_single_paths, od__check_single_paths, .func (PySem.W.fnOf "_check_single_paths" "_check_single_paths" (defArgs s__check_single_paths) (defBody s__check_single_paths) (defScope s__check_single_paths) .none kV__check_single_paths dc__check_single_paths pm__check_single_paths an__check_single_paths cd__check_single_paths ct__check_single_paths), sl__check_single_paths⟩)
    (c__check_single_paths : PySem.W.codeIn K cd__check_single_paths "_check_single_paths" = true)
    (k__check_single_paths : PySem.W.keepIn K (.ref f__check_single_paths) = true)
    (a_init : PySem.W.findIn K (.ref C) "__init__" = some (some (.ref f_init)))
    (i_init : PySem.W.isFn K (.ref f_init) = true)
    (l_init : K.lookup f_init = some ⟨oc_init, od_init, .func (PySem.W.fnOf "__init__" "Land.__init__" (defArgs s_init) (defBody s_init) (defScope s_init) .none (.ref D) dc_init pm_init an_init cd_init ct_init), sl_init⟩)
    (c_init : PySem.W.codeIn K cd_init "Land.__init__" = true)
    (k_init : PySem.W.keepIn K (.ref f_init) = true)
    (tl1 : PySem.W.nsIn K D "links" = some (some (.ref tl)))
    (te1 : PySem.W.nsIn K D "paths" = some (some (.ref te)))
    (tl2 : K.lookup tl = some ⟨.type "tuple", dd_tl, .seq #[] n_tl, sl_tl⟩)
    (te2 : K.lookup te = some ⟨.type "tuple", dd_te, .seq #[] n_te, sl_te⟩)
    (pr1 : PySem.W.findIn K (.ref C) "link_names" = some (some (.ref pr)))
    (pr2 : PySem.W.specialIn K (.ref pr) "__get__" = some (some (.builtin "property.__get__")))
    (pr3 : PySem.W.takesIn K (.ref pr) = some true)
    (pr4 : PySem.W.recIn K pr "property" = some (.ref f_link_names :: rest_pr))
    (l_link_names : K.lookup f_link_names = some ⟨oc_link_names, od_link_names, .func (PySem.W.fnOf "link_names" "Land.link_names" (defArgs s_link_names) (defBody s_link_names) (defScope s_link_names) .none kV_link_names dc_link_names pm_link_names an_link_names cd_link_names ct_link_names), sl_link_names⟩)
    (c_link_names : PySem.W.codeIn K cd_link_names "Land.link_names" = true)
    (k_link_names : PySem.W.keepIn K (.ref f_link_names) = true)
    (a__law_row : PySem.W.nsIn K mainGlobals "_law_row" = some (some (.ref f__law_row)))
    (l__law_row : K.lookup f__law_row = some ⟨oc__law_row, od__law_row, .func (PySem.W.fnOf "_law_row" "_law_row" (defArgs s__law_row) (defBody s__law_row) (defScope s__law_row) .none kV__law_row dc__law_row pm__law_row an__law_row cd__law_row ct__law_row), sl__law_row⟩)
    (c__law_row : PySem.W.codeIn K cd__law_row "_law_row" = true)
    (k__law_row : PySem.W.keepIn K (.ref f__law_row) = true)
    (a__law_numbers : PySem.W.nsIn K mainGlobals "_law_numbers" = some (some (.ref f__law_numbers)))
    (l__law_numbers : K.lookup f__law_numbers = some ⟨oc__law_numbers, od__law_numbers, .func (PySem.W.fnOf "_law_numbers" "_law_numbers" (defArgs s__law_numbers) (defBody s__law_numbers) (defScope s__law_numbers) .none kV__law_numbers dc__law_numbers pm__law_numbers an__law_numbers cd__law_numbers ct__law_numbers), sl__law_numbers⟩)
    (c__law_numbers : PySem.W.codeIn K cd__law_numbers "_law_numbers" = true)
    (k__law_numbers : PySem.W.keepIn K (.ref f__law_numbers) = true)
    (a__law_names : PySem.W.nsIn K mainGlobals "_law_names" = some (some (.ref f__law_names)))
    (l__law_names : K.lookup f__law_names = some ⟨oc__law_names, od__law_names, .func (PySem.W.fnOf "_law_names" "_law_names" (defArgs s__law_names) (defBody s__law_names) (defScope s__law_names) .none kV__law_names dc__law_names pm__law_names an__law_names cd__law_names ct__law_names), sl__law_names⟩)
    (c__law_names : PySem.W.codeIn K cd__law_names "_law_names" = true)
    (k__law_names : PySem.W.keepIn K (.ref f__law_names) = true)
    (a__law_parts : PySem.W.nsIn K mainGlobals "_law_parts" = some (some (.ref f__law_parts)))
    (l__law_parts : K.lookup f__law_parts = some ⟨oc__law_parts, od__law_parts, .func (PySem.W.fnOf "_law_parts" "_law_parts" (defArgs s__law_parts) (defBody s__law_parts) (defScope s__law_parts) .none kV__law_parts dc__law_parts pm__law_parts an__law_parts cd__law_parts ct__law_parts), sl__law_parts⟩)
    (c__law_parts : PySem.W.codeIn K cd__law_parts "_law_parts" = true)
    (k__law_parts : PySem.W.keepIn K (.ref f__law_parts) = true)
    (a__law_made : PySem.W.nsIn K mainGlobals "_law_made" = some (some (.ref f__law_made)))
    (l__law_made : K.lookup f__law_made = some ⟨oc__law_made, od__law_made, .func (PySem.W.fnOf "_law_made" "_law_made" (defArgs s__law_made) (defBody s__law_made) (defScope s__law_made) .none kV__law_made dc__law_made pm__law_made an__law_made cd__law_made ct__law_made), sl__law_made⟩)
    (c__law_made : PySem.W.codeIn K cd__law_made "_law_made" = true)
    (k__law_made : PySem.W.keepIn K (.ref f__law_made) = true)
    (a__law_side : PySem.W.nsIn K mainGlobals "_law_side" = some (some (.ref f__law_side)))
    (l__law_side : K.lookup f__law_side = some ⟨oc__law_side, od__law_side, .func (PySem.W.fnOf "_law_side" "_law_side" (defArgs s__law_side) (defBody s__law_side) (defScope s__law_side) .none kV__law_side dc__law_side pm__law_side an__law_side cd__law_side ct__law_side), sl__law_side⟩)
    (c__law_side : PySem.W.codeIn K cd__law_side "_law_side" = true)
    (k__law_side : PySem.W.keepIn K (.ref f__law_side) = true)
    (a__law_between : PySem.W.nsIn K mainGlobals "_law_between" = some (some (.ref f__law_between)))
    (l__law_between : K.lookup f__law_between = some ⟨oc__law_between, od__law_between, .func (PySem.W.fnOf "_law_between" "_law_between" (defArgs s__law_between) (defBody s__law_between) (defScope s__law_between) .none kV__law_between dc__law_between pm__law_between an__law_between cd__law_between ct__law_between), sl__law_between⟩)
    (c__law_between : PySem.W.codeIn K cd__law_between "_law_between" = true)
    (k__law_between : PySem.W.keepIn K (.ref f__law_between) = true)
    (a__law_checked : PySem.W.nsIn K mainGlobals "_law_checked" = some (some (.ref f__law_checked)))
    (l__law_checked : K.lookup f__law_checked = some ⟨oc__law_checked, od__law_checked, .func (PySem.W.fnOf "_law_checked" "_law_checked" (defArgs s__law_checked) (defBody s__law_checked) (defScope s__law_checked) .none kV__law_checked dc__law_checked pm__law_checked an__law_checked cd__law_checked ct__law_checked), sl__law_checked⟩)
    (c__law_checked : PySem.W.codeIn K cd__law_checked "_law_checked" = true)
    (k__law_checked : PySem.W.keepIn K (.ref f__law_checked) = true)
    (a__law_faulty : PySem.W.nsIn K mainGlobals "_law_faulty" = some (some (.ref f__law_faulty)))
    (l__law_faulty : K.lookup f__law_faulty = some ⟨oc__law_faulty, od__law_faulty, .func (PySem.W.fnOf "_law_faulty" "_law_faulty" (defArgs s__law_faulty) (defBody s__law_faulty) (defScope s__law_faulty) .none kV__law_faulty dc__law_faulty pm__law_faulty an__law_faulty cd__law_faulty ct__law_faulty), sl__law_faulty⟩)
    (c__law_faulty : PySem.W.codeIn K cd__law_faulty "_law_faulty" = true)
    (k__law_faulty : PySem.W.keepIn K (.ref f__law_faulty) = true)
    (a_law : PySem.W.nsIn K mainGlobals "law" = some (some (.ref f_law)))
    (l_law : K.lookup f_law = some ⟨oc_law, od_law, .func (PySem.W.fnOf "law" "law" (defArgs s_law) (defBody s_law) (defScope s_law) .none kV_law dc_law pm_law an_law cd_law ct_law), sl_law⟩)
    (c_law : PySem.W.codeIn K cd_law "law" = true)
    (k_law : PySem.W.keepIn K (.ref f_law) = true)
    (z_ValueError : PySem.W.nsIn K mainGlobals "ValueError" = some none)
    (z_abs : PySem.W.nsIn K mainGlobals "abs" = some none)
    (z_all : PySem.W.nsIn K mainGlobals "all" = some none)
    (z_int : PySem.W.nsIn K mainGlobals "int" = some none)
    (z_isinstance : PySem.W.nsIn K mainGlobals "isinstance" = some none)
    (z_len : PySem.W.nsIn K mainGlobals "len" = some none)
    (z_list : PySem.W.nsIn K mainGlobals "list" = some none)
    (z_max : PySem.W.nsIn K mainGlobals "max" = some none)
    (z_min : PySem.W.nsIn K mainGlobals "min" = some none)
    (z_range : PySem.W.nsIn K mainGlobals "range" = some none)
    (z_repr : PySem.W.nsIn K mainGlobals "repr" = some none)
    (z_set : PySem.W.nsIn K mainGlobals "set" = some none)
    (z_sorted : PySem.W.nsIn K mainGlobals "sorted" = some none)
    (z_tuple : PySem.W.nsIn K mainGlobals "tuple" = some none)
    (z_zip : PySem.W.nsIn K mainGlobals "zip" = some none)
    (g_DIGITS : PySem.W.nsIn K mainGlobals "DIGITS" = some (some (.str "0123456789" t_DIGITS)))
    (g_LETTERS : PySem.W.nsIn K mainGlobals "LETTERS" = some (some (.str "abcdefghijklmnopqrstuvwxyz" t_LETTERS)))
    (g_LONGEST_NAME : PySem.W.nsIn K mainGlobals "LONGEST_NAME" = some (some (.int 12 t_LONGEST_NAME)))
    (g_MOST_LINKS : PySem.W.nsIn K mainGlobals "MOST_LINKS" = some (some (.int 60 t_MOST_LINKS)))
    (g_MOST_MINUTES : PySem.W.nsIn K mainGlobals "MOST_MINUTES" = some (some (.int 1000 t_MOST_MINUTES)))
    (g_MOST_PATHS : PySem.W.nsIn K mainGlobals "MOST_PATHS" = some (some (.int 60 t_MOST_PATHS)))
    (g_MOST_PLACES : PySem.W.nsIn K mainGlobals "MOST_PLACES" = some (some (.int 24 t_MOST_PLACES)))
    (g_MOST_WINDS : PySem.W.nsIn K mainGlobals "MOST_WINDS" = some (some (.int 4 t_MOST_WINDS)))
    (pg : PySem.W.plainGet K C Str.empty = true)
    (hd : PySem.W.hasDictIn K C = true)
    (po : PySem.W.plainOver K C = true)
    (sa : PySem.W.findIn K (.ref C) "__setattr__" = some (some (.builtin "object.__setattr__")))
    (mk : PySem.W.makesIn K C = true)
    (kc : PySem.W.keepIn K (.ref C) = true)
    (nW : PySem.W.findIn K (.ref C) "winds" = some none)
    (nP : PySem.W.findIn K (.ref C) "places" = some none)
    (nL : PySem.W.findIn K (.ref C) "links" = some none)
    (nA : PySem.W.findIn K (.ref C) "paths" = some none)
    (a_EveryfireError : PySem.W.nsIn K mainGlobals "EveryfireError" = some (some (.ref X_EveryfireError)))
    (a_InvalidQuestion : PySem.W.nsIn K mainGlobals "InvalidQuestion" = some (some (.ref X_InvalidQuestion)))
    (x_InvalidQuestion : PySem.W.excIn K X_InvalidQuestion [.type "ValueError", .type "Exception", .type "BaseException", .type "object"] "ValueError.__new__" = true)
    (k_InvalidQuestion : PySem.W.keepIn K (.ref X_InvalidQuestion) = true)
    (b_InvalidQuestion : PySem.W.subIn K (.ref X_InvalidQuestion) (.type "BaseException") = some true)
    (t_InvalidQuestion : PySem.W.typeIn K (.ref X_InvalidQuestion) = some (.type "type"))
    (opq : PySem.W.nsIn K cStatics "thirdparty.any" = some none)
    (z_super0 : PySem.W.nsIn K mainGlobals "super" = some none)
    (hn0 : PySem.W.specialIn K (.builtin "object.__class__") "__get__" = some (some (.builtin "getset_descriptor.__get__")))
    (ht0 : PySem.W.takesIn K (.builtin "object.__class__") = some true)
    (hg_InvalidQuestion : PySem.W.findIn K (.ref X_InvalidQuestion) "__getattribute__" = some (some (.builtin "BaseException.__getattribute__")))
    (hk_InvalidQuestion : PySem.W.findIn K (.ref X_InvalidQuestion) "__getattr__" = some none)
    (hd_InvalidQuestion : PySem.W.hasDictIn K X_InvalidQuestion = true)
    (ha_InvalidQuestion : PySem.W.findIn K (.ref X_InvalidQuestion) "__class__" = some (some (.builtin "object.__class__")))
    (hm_InvalidQuestion : PySem.W.mroIn K X_InvalidQuestion (.type "object") = some true)
    (kt_InvalidQuestion_ValueError : PySem.W.kitOne K (.ref X_InvalidQuestion) (.type "ValueError") = some true)
    (kt_InvalidQuestion_EveryfireError : PySem.W.kitOne K (.ref X_InvalidQuestion) (.ref X_EveryfireError) = some true)
    (eb_InvalidQuestion : PySem.W.subIn K (.ref X_InvalidQuestion) (.type "BaseException") = some true)
    (et_InvalidQuestion : PySem.W.typeIn K (.ref X_InvalidQuestion) = some (.type "type"))
    (ed_InvalidQuestion : PySem.W.hasDictIn K X_InvalidQuestion = true)
    (es_InvalidQuestion_InvalidQuestion : PySem.W.subIn K (.ref X_InvalidQuestion) (.ref X_InvalidQuestion) = some true)
    (hP : PF l.prog)
    : ∀ base : Heap, K.In base → base.Ns mainGlobals mg → GrdX.Says l.prog w K mg base CX0 fa (spLaw K) := by
  have e := hfa.symm.trans (PySem.W.mg_of X G a_law)
  cases e
  have F_least_numbers := fun_mk (st := s_least_numbers) l_least_numbers c_least_numbers k_least_numbers
  have B_least_numbers := F_least_numbers.binds (ps := ["land"]) fun _ _ _ _ _ _ us hl => match us, hl with | [_], _ => rfl
  have F_most_numbers := fun_mk (st := s_most_numbers) l_most_numbers c_most_numbers k_most_numbers
  have B_most_numbers := F_most_numbers.binds (ps := ["land"]) fun _ _ _ _ _ _ us hl => match us, hl with | [_], _ => rfl
  have F_check_numbers := fun_mk (st := s_check_numbers) l_check_numbers c_check_numbers k_check_numbers
  have B_check_numbers := F_check_numbers.binds (ps := ["land", "numbers"]) fun _ _ _ _ _ _ us hl => match us, hl with | [_, _], _ => rfl
  have F__is_within := fun_mk (st := s__is_within) l__is_within c__is_within k__is_within
  have B__is_within := F__is_within.binds (ps := ["bounds", "number"]) fun _ _ _ _ _ _ us hl => match us, hl with | [_, _], _ => rfl
  have F_is_name := fun_mk (st := s_is_name) l_is_name c_is_name k_is_name
  have B_is_name := F_is_name.binds (ps := ["text"]) fun _ _ _ _ _ _ us hl => match us, hl with | [_], _ => rfl
  have F__check_count := fun_mk (st := s__check_count) l__check_count c__check_count k__check_count
  have B__check_count := F__check_count.binds (ps := ["sort", "rows", "least", "most"]) fun _ _ _ _ _ _ us hl => match us, hl with | [_, _, _, _], _ => rfl
  have F__check_names := fun_mk (st := s__check_names) l__check_names c__check_names k__check_names
  have B__check_names := F__check_names.binds (ps := ["sort", "names"]) fun _ _ _ _ _ _ us hl => match us, hl with | [_, _], _ => rfl
  have F__check_ends := fun_mk (st := s__check_ends) l__check_ends c__check_ends k__check_ends
  have B__check_ends := F__check_ends.binds (ps := ["sort", "one", "other", "places"]) fun _ _ _ _ _ _ us hl => match us, hl with | [_, _, _, _], _ => rfl
  have F__as_bounds := fun_mk (st := s__as_bounds) l__as_bounds c__as_bounds k__as_bounds
  have B__as_bounds := F__as_bounds.binds (ps := ["bounds"]) fun _ _ _ _ _ _ us hl => match us, hl with | [_], _ => rfl
  have F__as_link := fun_mk (st := s__as_link) l__as_link c__as_link k__as_link
  have B__as_link := F__as_link.binds (ps := ["link", "winds", "places"]) fun _ _ _ _ _ _ us hl => match us, hl with | [_, _, _], _ => rfl
  have F__as_path := fun_mk (st := s__as_path) l__as_path c__as_path k__as_path
  have B__as_path := F__as_path.binds (ps := ["path", "places"]) fun _ _ _ _ _ _ us hl => match us, hl with | [_, _], _ => rfl
  have F__check_single_paths := fun_mk (st := s__check_single_paths) l__check_single_paths c__check_single_paths k__check_single_paths
  have B__check_single_paths := F__check_single_paths.binds (ps := ["paths"]) fun _ _ _ _ _ _ us hl => match us, hl with | [_], _ => rfl
  have F_init : FunD K "__init__" "Land.__init__" (defArgs s_init) (defBody s_init) (defScope s_init) [] [("links", .ref tl), ("paths", .ref te)] f_init _ := ⟨⟨_, _, _, _, _, _, _, _, _, _, rfl, l_init, c_init, .inl ⟨rfl, rfl⟩, .inr ⟨D, rfl, fun q hq => by
    rcases List.mem_cons.mp hq with z | z
    · rw [z]; exact ⟨_, tl1, rfl⟩
    · rw [List.mem_singleton.mp z]; exact ⟨_, te1, rfl⟩⟩⟩, k_init⟩
  have F_link_names := fun_mk (st := s_link_names) l_link_names c_link_names k_link_names
  have B_link_names := F_link_names.binds (ps := ["self"]) fun _ _ _ _ _ _ us hl => match us, hl with | [_], _ => rfl
  have F__law_row := fun_mk (st := s__law_row) l__law_row c__law_row k__law_row
  have B__law_row := F__law_row.binds (ps := ["cell", "many"]) fun _ _ _ _ _ _ us hl => match us, hl with | [_, _], _ => rfl
  have F__law_numbers := fun_mk (st := s__law_numbers) l__law_numbers c__law_numbers k__law_numbers
  have B__law_numbers := F__law_numbers.binds (ps := ["script", "many"]) fun _ _ _ _ _ _ us hl => match us, hl with | [_, _], _ => rfl
  have F__law_names := fun_mk (st := s__law_names) l__law_names c__law_names k__law_names
  have B__law_names := F__law_names.binds (ps := ["number", "many"]) fun _ _ _ _ _ _ us hl => match us, hl with | [_, _], _ => rfl
  have F__law_parts := fun_mk (st := s__law_parts) l__law_parts c__law_parts k__law_parts
  have B__law_parts := F__law_parts.binds (ps := ["numbers", "at"]) fun _ _ _ _ _ _ us hl => match us, hl with | [_, _], _ => rfl
  have F__law_made := fun_mk (st := s__law_made) l__law_made c__law_made k__law_made
  have B__law_made := F__law_made.binds (ps := ["parts"]) fun _ _ _ _ _ _ us hl => match us, hl with | [_], _ => rfl
  have F__law_side := fun_mk (st := s__law_side) l__law_side c__law_side k__law_side
  have B__law_side := F__law_side.binds (ps := ["parts", "side"]) fun _ _ _ _ _ _ us hl => match us, hl with | [_, _], _ => rfl
  have F__law_between := fun_mk (st := s__law_between) l__law_between c__law_between k__law_between
  have B__law_between := F__law_between.binds (ps := ["parts", "numbers", "at"]) fun _ _ _ _ _ _ us hl => match us, hl with | [_, _, _], _ => rfl
  have F__law_checked := fun_mk (st := s__law_checked) l__law_checked c__law_checked k__law_checked
  have B__law_checked := F__law_checked.binds (ps := ["land", "numbers"]) fun _ _ _ _ _ _ us hl => match us, hl with | [_, _], _ => rfl
  have F__law_faulty := fun_mk (st := s__law_faulty) l__law_faulty c__law_faulty k__law_faulty
  have B__law_faulty := F__law_faulty.binds (ps := ["parts", "rows", "number", "other"]) fun _ _ _ _ _ _ us hl => match us, hl with | [_, _, _, _], _ => rfl
  have F_law := fun_mk (st := s_law) l_law c_law k_law
  have B_law := F_law.binds (ps := ["script"]) fun _ _ _ _ _ _ us hl => match us, hl with | [_], _ => rfl
  have T : Txt K mg { C := C, tl := tl, te := te, pr := pr, f_least_numbers := f_least_numbers, d_least_numbers := _, f_most_numbers := f_most_numbers, d_most_numbers := _, f_check_numbers := f_check_numbers, d_check_numbers := _, f__is_within := f__is_within, d__is_within := _, f_is_name := f_is_name, d_is_name := _, f__check_count := f__check_count, d__check_count := _, f__check_names := f__check_names, d__check_names := _, f__check_ends := f__check_ends, d__check_ends := _, f__as_bounds := f__as_bounds, d__as_bounds := _, f__as_link := f__as_link, d__as_link := _, f__as_path := f__as_path, d__as_path := _, f__check_single_paths := f__check_single_paths, d__check_single_paths := _, f_init := f_init, d_init := _, f_link_names := f_link_names, d_link_names := _, f__law_row := f__law_row, d__law_row := _, f__law_numbers := f__law_numbers, d__law_numbers := _, f__law_names := f__law_names, d__law_names := _, f__law_parts := f__law_parts, d__law_parts := _, f__law_made := f__law_made, d__law_made := _, f__law_side := f__law_side, d__law_side := _, f__law_between := f__law_between, d__law_between := _, f__law_checked := f__law_checked, d__law_checked := _, f__law_faulty := f__law_faulty, d__law_faulty := _, f_law := fa, d_law := _, X_EveryfireError := X_EveryfireError, X_InvalidQuestion := X_InvalidQuestion } := {
    F_least_numbers := F_least_numbers
    B_least_numbers := B_least_numbers
    k_least_numbers := k_least_numbers
    g_least_numbers := PySem.W.mg_of X G a_least_numbers
    F_most_numbers := F_most_numbers
    B_most_numbers := B_most_numbers
    k_most_numbers := k_most_numbers
    g_most_numbers := PySem.W.mg_of X G a_most_numbers
    F_check_numbers := F_check_numbers
    B_check_numbers := B_check_numbers
    k_check_numbers := k_check_numbers
    g_check_numbers := PySem.W.mg_of X G a_check_numbers
    F__is_within := F__is_within
    B__is_within := B__is_within
    k__is_within := k__is_within
    g__is_within := PySem.W.mg_of X G a__is_within
    F_is_name := F_is_name
    B_is_name := B_is_name
    k_is_name := k_is_name
    g_is_name := PySem.W.mg_of X G a_is_name
    F__check_count := F__check_count
    B__check_count := B__check_count
    k__check_count := k__check_count
    g__check_count := PySem.W.mg_of X G a__check_count
    F__check_names := F__check_names
    B__check_names := B__check_names
    k__check_names := k__check_names
    g__check_names := PySem.W.mg_of X G a__check_names
    F__check_ends := F__check_ends
    B__check_ends := B__check_ends
    k__check_ends := k__check_ends
    g__check_ends := PySem.W.mg_of X G a__check_ends
    F__as_bounds := F__as_bounds
    B__as_bounds := B__as_bounds
    k__as_bounds := k__as_bounds
    g__as_bounds := PySem.W.mg_of X G a__as_bounds
    F__as_link := F__as_link
    B__as_link := B__as_link
    k__as_link := k__as_link
    g__as_link := PySem.W.mg_of X G a__as_link
    F__as_path := F__as_path
    B__as_path := B__as_path
    k__as_path := k__as_path
    g__as_path := PySem.W.mg_of X G a__as_path
    F__check_single_paths := F__check_single_paths
    B__check_single_paths := B__check_single_paths
    k__check_single_paths := k__check_single_paths
    g__check_single_paths := PySem.W.mg_of X G a__check_single_paths
    F_init := F_init
    F_link_names := F_link_names
    B_link_names := B_link_names
    k_link_names := k_link_names
    F__law_row := F__law_row
    B__law_row := B__law_row
    k__law_row := k__law_row
    g__law_row := PySem.W.mg_of X G a__law_row
    F__law_numbers := F__law_numbers
    B__law_numbers := B__law_numbers
    k__law_numbers := k__law_numbers
    g__law_numbers := PySem.W.mg_of X G a__law_numbers
    F__law_names := F__law_names
    B__law_names := B__law_names
    k__law_names := k__law_names
    g__law_names := PySem.W.mg_of X G a__law_names
    F__law_parts := F__law_parts
    B__law_parts := B__law_parts
    k__law_parts := k__law_parts
    g__law_parts := PySem.W.mg_of X G a__law_parts
    F__law_made := F__law_made
    B__law_made := B__law_made
    k__law_made := k__law_made
    g__law_made := PySem.W.mg_of X G a__law_made
    F__law_side := F__law_side
    B__law_side := B__law_side
    k__law_side := k__law_side
    g__law_side := PySem.W.mg_of X G a__law_side
    F__law_between := F__law_between
    B__law_between := B__law_between
    k__law_between := k__law_between
    g__law_between := PySem.W.mg_of X G a__law_between
    F__law_checked := F__law_checked
    B__law_checked := B__law_checked
    k__law_checked := k__law_checked
    g__law_checked := PySem.W.mg_of X G a__law_checked
    F__law_faulty := F__law_faulty
    B__law_faulty := B__law_faulty
    k__law_faulty := k__law_faulty
    g__law_faulty := PySem.W.mg_of X G a__law_faulty
    F_law := F_law
    B_law := B_law
    k_law := k_law
    g_law := PySem.W.mg_of X G a_law
    z_ValueError := PySem.W.mg_none_of X G z_ValueError
    z_abs := PySem.W.mg_none_of X G z_abs
    z_all := PySem.W.mg_none_of X G z_all
    z_int := PySem.W.mg_none_of X G z_int
    z_isinstance := PySem.W.mg_none_of X G z_isinstance
    z_len := PySem.W.mg_none_of X G z_len
    z_list := PySem.W.mg_none_of X G z_list
    z_max := PySem.W.mg_none_of X G z_max
    z_min := PySem.W.mg_none_of X G z_min
    z_range := PySem.W.mg_none_of X G z_range
    z_repr := PySem.W.mg_none_of X G z_repr
    z_set := PySem.W.mg_none_of X G z_set
    z_sorted := PySem.W.mg_none_of X G z_sorted
    z_tuple := PySem.W.mg_none_of X G z_tuple
    z_zip := PySem.W.mg_none_of X G z_zip
    c_DIGITS := ⟨_, PySem.W.mg_of X G g_DIGITS⟩
    c_LETTERS := ⟨_, PySem.W.mg_of X G g_LETTERS⟩
    c_LONGEST_NAME := ⟨_, PySem.W.mg_of X G g_LONGEST_NAME⟩
    c_MOST_LINKS := ⟨_, PySem.W.mg_of X G g_MOST_LINKS⟩
    c_MOST_MINUTES := ⟨_, PySem.W.mg_of X G g_MOST_MINUTES⟩
    c_MOST_PATHS := ⟨_, PySem.W.mg_of X G g_MOST_PATHS⟩
    c_MOST_PLACES := ⟨_, PySem.W.mg_of X G g_MOST_PLACES⟩
    c_MOST_WINDS := ⟨_, PySem.W.mg_of X G g_MOST_WINDS⟩
    cl := ⟨pg, hd, po, sa⟩
    mk_Land := ⟨mk, a_init, i_init, kc⟩
    g_Land := PySem.W.mg_of X G aC
    nW := nW
    nP := nP
    nL := nL
    nA := nA
    p_link_names := ⟨pr1, pr2, pr3, ⟨_, pr4⟩⟩
    tlT := fun H => .inr ⟨_, #[], _, tl2, rfl, rfl, Nat.zero_le _, .nil⟩
    teT := fun H => .inr ⟨_, #[], _, te2, rfl, rfl, Nat.zero_le _, .nil⟩
    g_EveryfireError := PySem.W.mg_of X G a_EveryfireError
    g_InvalidQuestion := PySem.W.mg_of X G a_InvalidQuestion
    x_InvalidQuestion := x_InvalidQuestion
    k_InvalidQuestion := k_InvalidQuestion
    b_InvalidQuestion := b_InvalidQuestion
    t_InvalidQuestion := t_InvalidQuestion
    ec_InvalidQuestion := ⟨hg_InvalidQuestion, hk_InvalidQuestion, b_InvalidQuestion, hd_InvalidQuestion, ha_InvalidQuestion, hn0, ht0, hm_InvalidQuestion⟩
    kt_InvalidQuestion_ValueError := kt_InvalidQuestion_ValueError
    kt_InvalidQuestion_EveryfireError := kt_InvalidQuestion_EveryfireError
    em_InvalidQuestion_InvalidQuestion := PySem.W.exm_ref eb_InvalidQuestion ed_InvalidQuestion et_InvalidQuestion es_InvalidQuestion_InvalidQuestion }
  exact fun base _ _ => G_law T hP (fun s v => .of_eq rfl)
theorem walk {l : PySem.W.OpenLaw} {q : Program} {loose : List Str} {XP : (Str → Option Value) → Heap → Prop} {YP : World → Heap → Prop} {d : DefRec} {K : Params → PySem.W.Frag} (hn : l.most = some 63) (hdf : d.params.defaults = [])
    (hY : ∀ (w : World) (h : Heap), YP w h → (K w.params).In h)
    (F : ∀ (w : World) (mg : Str → Option Value) (fa : Addr) (h : Heap), (K w.params).In h → h.Ns mainGlobals mg → mg d.name = some (.ref fa) →
      ∀ base : Heap, (K w.params).In base → base.Ns mainGlobals mg → GrdX.Says l.prog w (K w.params) mg base CX0 fa (spLaw (K w.params))) :
    PySem.W.WalkO q loose XP YP l.row.toRowW d [] (fun f vs => PySem.call f vs) :=
  GrdX.walk (n := 63) (sp := fun w => spLaw (K w.params)) hn (by decide) hdf hY F (fun _ _ a ns hl hS => ⟨a, ns, rfl, hS, fun _ => rfl⟩)
end EV
open PySem PySem.W PyProof.Rows in
set_option maxRecDepth 100000 in
set_option maxHeartbeats 0 in
theorem PySem.Challenge.cw_everyfire_k10_numbers_of_a_fire_holds : PySem.Challenge.rw_everyfire_k10_numbers_of_a_fire.Holds := by
  w_on; o_law; k_head; (case hw => w_witness2)
  k_fill
  refine EV.walk (l := PySem.Challenge.rw_everyfire_k10_numbers_of_a_fire) rfl rfl (fun w h Y => PySem.W.kIn_of Y) ?F
  case F =>
    intro w mg fa h KX G hmg
    refine' EV.all_mk KX G hmg ?aC ?a_least_numbers ?l_least_numbers ?c_least_numbers ?k_least_numbers ?a_most_numbers ?l_most_numbers ?c_most_numbers ?k_most_numbers ?a_check_numbers ?l_check_numbers ?c_check_numbers ?k_check_numbers ?a__is_within ?l__is_within ?c__is_within ?k__is_within ?a_is_name ?l_is_name ?c_is_name ?k_is_name ?a__check_count ?l__check_count ?c__check_count ?k__check_count ?a__check_names ?l__check_names ?c__check_names ?k__check_names ?a__check_ends ?l__check_ends ?c__check_ends ?k__check_ends ?a__as_bounds ?l__as_bounds ?c__as_bounds ?k__as_bounds ?a__as_link ?l__as_link ?c__as_link ?k__as_link ?a__as_path ?l__as_path ?c__as_path ?k__as_path ?a__check_single_paths ?l__check_single_paths ?c__check_single_paths ?k__check_single_paths ?a_init ?i_init ?l_init ?c_init ?k_init ?tl1 ?te1 ?tl2 ?te2 ?pr1 ?pr2 ?pr3 ?pr4 ?l_link_names ?c_link_names ?k_link_names ?a__law_row ?l__law_row ?c__law_row ?k__law_row ?a__law_numbers ?l__law_numbers ?c__law_numbers ?k__law_numbers ?a__law_names ?l__law_names ?c__law_names ?k__law_names ?a__law_parts ?l__law_parts ?c__law_parts ?k__law_parts ?a__law_made ?l__law_made ?c__law_made ?k__law_made ?a__law_side ?l__law_side ?c__law_side ?k__law_side ?a__law_between ?l__law_between ?c__law_between ?k__law_between ?a__law_checked ?l__law_checked ?c__law_checked ?k__law_checked ?a__law_faulty ?l__law_faulty ?c__law_faulty ?k__law_faulty ?a_law ?l_law ?c_law ?k_law ?z_ValueError ?z_abs ?z_all ?z_int ?z_isinstance ?z_len ?z_list ?z_max ?z_min ?z_range ?z_repr ?z_set ?z_sorted ?z_tuple ?z_zip ?g_DIGITS ?g_LETTERS ?g_LONGEST_NAME ?g_MOST_LINKS ?g_MOST_MINUTES ?g_MOST_PATHS ?g_MOST_PLACES ?g_MOST_WINDS ?pg ?hd ?po ?sa ?mk ?kc ?nW ?nP ?nL ?nA ?a_EveryfireError ?a_InvalidQuestion ?x_InvalidQuestion ?k_InvalidQuestion ?b_InvalidQuestion ?t_InvalidQuestion ?opq ?z_super0 ?hn0 ?ht0 ?hg_InvalidQuestion ?hk_InvalidQuestion ?hd_InvalidQuestion ?ha_InvalidQuestion ?hm_InvalidQuestion ?kt_InvalidQuestion_ValueError ?kt_InvalidQuestion_EveryfireError ?eb_InvalidQuestion ?et_InvalidQuestion ?ed_InvalidQuestion ?es_InvalidQuestion_InvalidQuestion ?hP
    (case aC => k_is)
    (case a_least_numbers => k_is)
    (case l_least_numbers => k_is)
    (case c_least_numbers => k_is)
    (case k_least_numbers => k_is)
    (case a_most_numbers => k_is)
    (case l_most_numbers => k_is)
    (case c_most_numbers => k_is)
    (case k_most_numbers => k_is)
    (case a_check_numbers => k_is)
    (case l_check_numbers => k_is)
    (case c_check_numbers => k_is)
    (case k_check_numbers => k_is)
    (case a__is_within => k_is)
    (case l__is_within => k_is)
    (case c__is_within => k_is)
    (case k__is_within => k_is)
    (case a_is_name => k_is)
    (case l_is_name => k_is)
    (case c_is_name => k_is)
    (case k_is_name => k_is)
    (case a__check_count => k_is)
    (case l__check_count => k_is)
    (case c__check_count => k_is)
    (case k__check_count => k_is)
    (case a__check_names => k_is)
    (case l__check_names => k_is)
    (case c__check_names => k_is)
    (case k__check_names => k_is)
    (case a__check_ends => k_is)
    (case l__check_ends => k_is)
    (case c__check_ends => k_is)
    (case k__check_ends => k_is)
    (case a__as_bounds => k_is)
    (case l__as_bounds => k_is)
    (case c__as_bounds => k_is)
    (case k__as_bounds => k_is)
    (case a__as_link => k_is)
    (case l__as_link => k_is)
    (case c__as_link => k_is)
    (case k__as_link => k_is)
    (case a__as_path => k_is)
    (case l__as_path => k_is)
    (case c__as_path => k_is)
    (case k__as_path => k_is)
    (case a__check_single_paths => k_is)
    (case l__check_single_paths => k_is)
    (case c__check_single_paths => k_is)
    (case k__check_single_paths => k_is)
    (case a_init => k_is)
    (case i_init => k_is)
    (case l_init => k_is)
    (case c_init => k_is)
    (case k_init => k_is)
    (case tl1 => k_is)
    (case te1 => k_is)
    (case tl2 => k_is)
    (case te2 => k_is)
    (case pr1 => k_is)
    (case pr2 => k_is)
    (case pr3 => k_is)
    (case pr4 => k_is)
    (case l_link_names => k_is)
    (case c_link_names => k_is)
    (case k_link_names => k_is)
    (case a__law_row => k_is)
    (case l__law_row => k_is)
    (case c__law_row => k_is)
    (case k__law_row => k_is)
    (case a__law_numbers => k_is)
    (case l__law_numbers => k_is)
    (case c__law_numbers => k_is)
    (case k__law_numbers => k_is)
    (case a__law_names => k_is)
    (case l__law_names => k_is)
    (case c__law_names => k_is)
    (case k__law_names => k_is)
    (case a__law_parts => k_is)
    (case l__law_parts => k_is)
    (case c__law_parts => k_is)
    (case k__law_parts => k_is)
    (case a__law_made => k_is)
    (case l__law_made => k_is)
    (case c__law_made => k_is)
    (case k__law_made => k_is)
    (case a__law_side => k_is)
    (case l__law_side => k_is)
    (case c__law_side => k_is)
    (case k__law_side => k_is)
    (case a__law_between => k_is)
    (case l__law_between => k_is)
    (case c__law_between => k_is)
    (case k__law_between => k_is)
    (case a__law_checked => k_is)
    (case l__law_checked => k_is)
    (case c__law_checked => k_is)
    (case k__law_checked => k_is)
    (case a__law_faulty => k_is)
    (case l__law_faulty => k_is)
    (case c__law_faulty => k_is)
    (case k__law_faulty => k_is)
    (case a_law => k_is)
    (case l_law => k_is)
    (case c_law => k_is)
    (case k_law => k_is)
    (case z_ValueError => k_is)
    (case z_abs => k_is)
    (case z_all => k_is)
    (case z_int => k_is)
    (case z_isinstance => k_is)
    (case z_len => k_is)
    (case z_list => k_is)
    (case z_max => k_is)
    (case z_min => k_is)
    (case z_range => k_is)
    (case z_repr => k_is)
    (case z_set => k_is)
    (case z_sorted => k_is)
    (case z_tuple => k_is)
    (case z_zip => k_is)
    (case g_DIGITS => k_is)
    (case g_LETTERS => k_is)
    (case g_LONGEST_NAME => k_is)
    (case g_MOST_LINKS => k_is)
    (case g_MOST_MINUTES => k_is)
    (case g_MOST_PATHS => k_is)
    (case g_MOST_PLACES => k_is)
    (case g_MOST_WINDS => k_is)
    (case pg => k_is)
    (case hd => k_is)
    (case po => k_is)
    (case sa => k_is)
    (case mk => k_is)
    (case kc => k_is)
    (case nW => k_is)
    (case nP => k_is)
    (case nL => k_is)
    (case nA => k_is)
    (case a_EveryfireError => k_is)
    (case a_InvalidQuestion => k_is)
    (case x_InvalidQuestion => k_exc)
    (case k_InvalidQuestion => k_is)
    (case b_InvalidQuestion => k_is)
    (case t_InvalidQuestion => k_is)
    (case opq => k_is)
    (case z_super0 => k_is)
    (case hn0 => k_is)
    (case ht0 => k_is)
    (case hg_InvalidQuestion => k_is)
    (case hk_InvalidQuestion => k_is)
    (case hd_InvalidQuestion => k_is)
    (case ha_InvalidQuestion => k_is)
    (case hm_InvalidQuestion => k_is)
    (case kt_InvalidQuestion_ValueError => kit_is)
    (case kt_InvalidQuestion_EveryfireError => kit_is)
    (case eb_InvalidQuestion => k_is)
    (case et_InvalidQuestion => k_is)
    (case ed_InvalidQuestion => k_is)
    (case es_InvalidQuestion_InvalidQuestion => first | rfl | k_is)
    (case hP => exact ⟨by decide +kernel, by decide +kernel⟩)

