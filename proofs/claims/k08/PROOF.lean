import PyProof.Rows.All
import Wide.All
import OpenK.AllK
import Wide.FinOn
import PyProof.EqAt
import PyProof.EqKinds
import PyProof.TupleCall
import HandS.Base
import HandS.Call
import HandS.List
import HandS.ForMost
import HandS.ForExc
import HandS.RaiseMore
import HandS.FStr
import HandS.MakeKwOnly
import HandS.Property
import HandS.IsInst
import HandS.Evl
import PySem.Challenge.RW_everyfire_k08_names
set_option Elab.async false
set_option linter.all false
set_option maxRecDepth 100000
set_option maxHeartbeats 4000000
/-! len(set(xs)) of any number of texts -/
namespace EvS
open PySem PySem.Spec PyProof.Rows
/-- the different ones, each where it came first -/
def dd {α : Type} [DecidableEq α] : List α → List α → List α
  | acc, [] => acc
  | acc, x :: r => dd (if x ∈ acc then acc else acc ++ [x]) r
theorem dd_len_le {α : Type} [DecidableEq α] : ∀ (l acc : List α), (dd acc l).length ≤ acc.length + l.length
  | [], acc => Nat.le_refl _
  | x :: r, acc => by
    unfold dd
    by_cases h : x ∈ acc
    · rw [if_pos h]
      have := dd_len_le r acc
      simp only [List.length_cons]
      omega
    · rw [if_neg h]
      have := dd_len_le r (acc ++ [x])
      simp only [List.length_cons, List.length_append, List.length_nil] at this ⊢
      omega
theorem dd_len_eq {α : Type} [DecidableEq α] : ∀ (l acc : List α), acc.Nodup → ((dd acc l).length = acc.length + l.length ↔ (acc ++ l).Nodup)
  | [], acc, h => by simp [dd, h]
  | x :: r, acc, h => by
    unfold dd
    by_cases hx : x ∈ acc
    · rw [if_pos hx]
      have h1 := dd_len_le r acc
      constructor
      · intro e
        simp only [List.length_cons] at e
        omega
      · intro e
        have := (List.nodup_append.mp e).2.2 x hx x (List.mem_cons_self ..)
        exact absurd rfl this
    · rw [if_neg hx]
      have hn : (acc ++ [x]).Nodup := by
        rw [List.nodup_append]
        refine ⟨h, by simp, fun a ha b hb => ?_⟩
        rw [List.mem_singleton] at hb
        subst hb
        exact fun e => hx (e ▸ ha)
      have ih := dd_len_eq r (acc ++ [x]) hn
      simp only [List.length_cons, List.length_append, List.length_nil, List.append_assoc, List.singleton_append] at ih ⊢
      rw [← ih]
      omega
theorem dd_snoc {α : Type} [DecidableEq α] (x : α) : ∀ (l acc : List α), dd acc (l ++ [x]) = (if x ∈ dd acc l then dd acc l else dd acc l ++ [x])
  | [], acc => rfl
  | y :: r, acc => by
    show dd _ (r ++ [x]) = _
    rw [dd_snoc x r]
    rfl
section
variable {prog : Program} {w : World} {A : Around} {R : Result → Shared → Prop} {I : Addr} {fp wr : List Addr} {G : Array GenState → Array GenState → Prop} {n : Nat} {P : Nat → Value → Prop} {St : Nat → Shared → Prop}
variable {κ : Type} [DecidableEq κ] {kd : KeyKind prog w κ}
theorem turnK (W : WalksS prog w A.in1 I fp wr G n P St) (S : Addr) (hSf : S ∉ fp) (ks : List κ) (hlen : ks.length = n) (hmax : n < 4000)
    (hat : ∀ i v k, P i v → ks[i]? = some k → kd.is k v = true ∧ v.scannable = true) :
    ∀ (m i : Nat) (s : Shared), n - i = m → i ≤ n → St i s →
      Heap.SetOf kd s.heap S (fun k => decide (k ∈ dd [] (ks.take i))) (dd [] (ks.take i)).length →
      (∀ s', Moved (S :: wr) G s s' → Heap.SetOf kd s'.heap S (fun k => decide (k ∈ dd [] ks)) (dd [] ks).length → R (.ok (.ret .none)) s') →
      codeAny (model prog w) A (.builtin "set.update.loop" ⟨[.ref S, .ref I], []⟩) R s := by
  have nw : S ∉ wr := fun q => hSf (W.sub _ q)
  have up : ∀ c ∈ wr, c ∈ S :: wr := fun c hc => List.mem_cons_of_mem _ hc
  intro m
  induction m with
  | zero =>
    intro i s hm hi hst hS hR
    obtain rfl : i = n := by omega
    refine codeAny_builtin PyProof.Rows.F.entry_set_update_loop ?_
    rw [Around.under_plainId PyProof.Rows.F.plain_set_update_loop _]
    show wpAny _ A.in1 (pyNext (.ref I) >>= _) _ _ s
    refine wpAny_bind (W.done s _ _ hst fun s1 mv => ?_)
    refine wpAny_pure (hR s1 (mv.mono up) ?_)
    rw [← hlen, List.take_length] at hS
    obtain ⟨o, es, ep, t, ho, more⟩ := hS
    exact ⟨o, es, ep, t, mv.heap S _ nw ho, more⟩
  | succ m ih =>
    intro i s hm hi hst hS hR
    have lt : i < n := by omega
    obtain ⟨k0, hk0⟩ : ∃ k, ks[i]? = some k := ⟨ks[i]'(by omega), List.getElem?_eq_getElem (by omega)⟩
    refine codeAny_builtin PyProof.Rows.F.entry_set_update_loop ?_
    rw [Around.under_plainId PyProof.Rows.F.plain_set_update_loop _]
    show wpAny _ A.in1 (pyNext (.ref I) >>= _) _ _ s
    refine wpAny_bind (W.item i s _ _ lt hst fun v s1 hP hst1 mv => ?_)
    obtain ⟨hv, hsc⟩ := hat i v k0 hP hk0
    have hS1 : Heap.SetOf kd s1.heap S (fun k => decide (k ∈ dd [] (ks.take i))) (dd [] (ks.take i)).length := by
      obtain ⟨o, es, ep, t, ho, more⟩ := hS
      exact ⟨o, es, ep, t, mv.heap S _ nw ho, more⟩
    show wpAny _ A.in1 (holding [v] (setAdd S v) >>= _) _ _ s1
    refine wpAny_bind (wpAny_holding ?_)
    unfold setAdd
    refine wpAny_holding ?_
    refine wpAny_bind (kd.pyHash (k := k0) hv ?_)
    have small : (dd [] (ks.take i)).length + 1 < scanBound := by
      have q := dd_len_le (ks.take i) []
      rw [List.length_take, List.length_nil] at q
      unfold scanBound
      omega
    refine wpAny_setAddHashed_of (knd := kd) (s := { s1 with toks := s1.toks + 1 }) hv hsc hS1 small fun h2 sb hS2 => ?_
    have et : ks.take (i + 1) = ks.take i ++ [k0] := by
      rw [List.take_add_one, hk0] <;> rfl
    have hS3 : Heap.SetOf kd h2 S (fun k => decide (k ∈ dd [] (ks.take (i + 1)))) (dd [] (ks.take (i + 1))).length := by
      rw [et, dd_snoc]
      by_cases hin : k0 ∈ dd [] (ks.take i)
      · rw [if_pos hin]
        rw [if_pos (decide_eq_true hin)] at hS2
        have e : (fun k' => decide (k' ∈ dd [] (ks.take i)) || decide (k' = k0)) = fun k => decide (k ∈ dd [] (ks.take i)) := by
          funext k'
          by_cases q : k' = k0
          · subst q
            simp [hin]
          · simp [q]
        rw [e] at hS2
        exact hS2
      · rw [if_neg hin]
        rw [if_neg (by simpa using hin)] at hS2
        have e : (fun k' => decide (k' ∈ dd [] (ks.take i)) || decide (k' = k0)) = fun k => decide (k ∈ dd [] (ks.take i) ++ [k0]) := by
          funext k'
          simp [List.mem_append]
        rw [e] at hS2
        rw [List.length_append]
        exact hS2
    refine wpAny_pure ⟨plainId_quiet PyProof.Rows.F.plain_set_update_loop _, ih (i + 1) _ (by omega) lt (W.frame _ s1 _ _ hst1 (Nat.le_succ _) fun c hc o e => ?_) hS3 fun s3 mv3 hS4 => ?_⟩
    · rw [sb.2 c (fun z : c = S => hSf (by rw [← z]; exact hc))]
      exact e
    · refine hR s3 (Moved.trans W.gtrans ((mv.mono up).then_heap (Nat.le_succ _) fun c o hc e => ?_) mv3) hS4
      rw [sb.2 c (fun z : c = S => hc (by rw [z]; exact List.mem_cons_self))]
      exact e
end
section
variable {prog : Program} {w : World} {A : Around} {E : Value → Shared → Prop} {s : Shared} {κ : Type} [DecidableEq κ] {kd : KeyKind prog w κ}
def blankSet (led : Bool) : Obj := { cls := .type "set", dict := none, data := .set #[] 0 (.fresh 0 0 led) }
/-- set(l), l a list (isT false) or a tuple (isT true) -/
theorem call_setK {l : Addr} {its : Array Value} {ks : List κ} {Q : Value → Shared → Prop} (hA : A.handled = none) (hl : s.heap.IsList l its ∨ s.heap.IsTuple l its)
    (hlen : ks.length = its.size) (hmax : its.size < 4000) (hat : ∀ (i : Nat) (v : Value) (k : κ), its[i]? = some v → ks[i]? = some k → kd.is k v = true ∧ v.scannable = true)
    (h : ∀ (h' : Heap) (tk : Nat), Heap.SetOf kd h' s.heap.objs.size (fun k => decide (k ∈ dd [] ks)) (dd [] ks).length →
      (∀ c o, c < s.heap.objs.size → s.heap.get? c = some o → h'.get? c = some o) → Q (.ref s.heap.objs.size) { s with heap := h', toks := tk }) :
    wpAny (model prog w) A (call (.type "set") [.ref l]) Q E s := by
  obtain ⟨c, tl, hmro⟩ := PySem.F.called_set.mro
  have hmade := PySem.F.called_set.made
  have hsub := PySem.F.called_set.sub
  refine wpAny_call (codeAny_of_tree ?_)
  show wpAny _ _ (callAny (.type "set") _) _ _ _
  refine wpAny_pure ⟨Code.quiet_builtin _ (by decide +kernel), codeAny_builtin PySem.F.entry_type_call ?_⟩
  rw [Around.under_plain (weight_type_call_type "set" [.ref l] []) rfl]
  have h1 := PySem.F.called_set.notType
  have h2 := PySem.F.called_set.canCreate
  have hct := PySem.F.typeCall_set_1 (.ref l)
  repeat (any_goals (first | assumption | wp_step))
  refine codeAny_mono (code_set_new_1 (.ref l) (E := E) (Q₁ := fun b s₁ => ∃ led : Bool, b = .ref s.heap.objs.size ∧ s₁ = { s with heap := s.heap.push (blankSet led) }) fun led => ⟨led, rfl, rfl⟩) fun r s₁ hr => ?_
  cases r with
  | error e => exact hr
  | ok fl =>
    cases fl with
    | ret b =>
      obtain ⟨led, rfl, rfl⟩ := hr
      have hS : (s.heap.push (blankSet led)).get? s.heap.objs.size = some (blankSet led) := Heap.get?_push_size _ rfl
      have hT : Shared.TypeIs { s with heap := s.heap.push (blankSet led) } (.ref s.heap.objs.size) "set" := ⟨_, hS, rfl⟩
      have hli := PySem.F.called_set.init.lookup
      have hbi := PySem.F.called_set.init.bind (.ref s.heap.objs.size)
      repeat (any_goals (first | assumption | wp_step))
      refine codeAny_mono (codeAny_call_builtin (R := wants (fun r s₂ => r = .none ∧ ∃ h' tk, s₂ = { s with heap := h', toks := tk } ∧
          Heap.SetOf kd h' s.heap.objs.size (fun k => decide (k ∈ dd [] ks)) (dd [] ks).length ∧
          (∀ c o, c < s.heap.objs.size → s.heap.get? c = some o → h'.get? c = some o)) E) PySem.F.called_set.init.plain PySem.F.entry_set_init (check_set_init_1 hT ?_)) fun r₂ s₂ hr₂ => ?_
      · have fin : ∀ (s1 : Shared) (I : Addr), I ≠ s.heap.objs.size → s.heap.objs.size < I → Moved [s.heap.objs.size, I] (fun a b => a = b) { s with heap := (s.heap.push (blankSet led)) } s1 → True := fun _ _ _ _ _ => trivial
        clear fin
        rcases hl with hl | hl
        · obtain ⟨ol, hol, hcl, nl, hdl⟩ := hl
          obtain ⟨ocls, odict, odata, oslots⟩ := ol
          simp only at hcl hdl
          subst hcl; subst hdl
          have hol' : (s.heap.push (blankSet led)).get? l = some { cls := .type "list", dict := odict, data := .seq its nl, slots := oslots } := Heap.get?_push_of_some _ hol
          have hsls := PySem.F.sub_list_set
          have hslf := PySem.F.sub_list_frozenset
          have hne : (Value.type "list" == Value.type "dict") = false := by decide
          have hl1 : (s.heap.push (blankSet led)).IsList l its := ⟨_, hol', rfl, nl, rfl⟩
          unfold Builtin.«set.__init__» noKeywords Builtin.Frozenset.updateFrom
          generalize hPI : pyIter = PI
          wp_walk
          subst hPI
          refine wpAny_pyIter_list hl1 ?_
          refine wpAny_bind (wpAny_runValue ?_)
          have hlS : l < s.heap.objs.size := Heap.lt_size hol
          have h3 : A.in1.in1.in1.handled = none := by simp [hA]
          have nI : l ≠ (s.heap.push (blankSet led)).objs.size := by
            rw [Heap.size_push]; exact Nat.ne_of_lt (Nat.lt_succ_of_lt hlS)
          have nS : s.heap.objs.size ∉ [(s.heap.push (blankSet led)).objs.size, l] := by
            rw [Heap.size_push]; simp only [List.mem_cons, List.mem_singleton, List.not_mem_nil, or_false, not_or]
            exact ⟨Nat.ne_of_lt (Nat.lt_succ_self _), Nat.ne_of_gt hlS⟩
          refine turnK (kd := kd) ((Walks.list h3 _ l nI its).toS) s.heap.objs.size nS ks hlen hmax (fun i v k hv hk => hat i v k hv hk) (its.size - 0) 0 _ (by omega) (Nat.zero_le _) ⟨⟨_, Heap.get?_push_size _ rfl, rfl, rfl⟩, (hl1.push _)⟩ ?hS0 ?hR
          case hS0 =>
            have hget : ((s.heap.push (blankSet led)).push { cls := .type "list_iterator", data := .fields #[.ref l, .int 0 0] }).get? s.heap.objs.size = some (blankSet led) := Heap.get?_push_of_some _ hS
            exact PyProof.Rows.SetOf_congr ((PyProof.Rows.setObjOf_fresh (knd := kd) led).setOf hget (by unfold scanBound; omega)) (fun _ => rfl) rfl
          case hR =>
            intro s' mv hS'
            obtain ⟨h', g', d', tk', os'⟩ := s'
            obtain rfl : g' = s.gens := mv.gens
            obtain rfl : d' = s.drawn := mv.drawn
            obtain rfl : os' = s.os := mv.os
            show wpAny _ _ _ _ _ _
            refine wpAny_pure ?_
            show wpAny _ _ (ret Value.none) _ _ _
            refine wpAny_pure ⟨rfl, h', tk', rfl, hS', fun c o hc e => ?_⟩
            have n1 : c ≠ s.heap.objs.size := Nat.ne_of_lt hc
            have n2 : c ≠ (s.heap.push (blankSet led)).objs.size := by
              rw [Heap.size_push]; exact Nat.ne_of_lt (Nat.lt_succ_of_lt hc)
            exact mv.heap c o (by simp only [List.mem_cons, List.mem_singleton, List.not_mem_nil, or_false, not_or]; exact ⟨n1, n2⟩) (Heap.get?_push_of_some _ (Heap.get?_push_of_some _ e))
        · obtain ⟨ol, hol, hcl, nl, hdl⟩ := hl
          obtain ⟨ocls, odict, odata, oslots⟩ := ol
          simp only at hcl hdl
          subst hcl; subst hdl
          have hol' : (s.heap.push (blankSet led)).get? l = some { cls := .type "tuple", dict := odict, data := .seq its nl, slots := oslots } := Heap.get?_push_of_some _ hol
          have hsls := PySem.F.sub_tuple_set
          have hslf := PySem.F.sub_tuple_frozenset
          have hne : (Value.type "tuple" == Value.type "dict") = false := by decide
          have hl1 : (s.heap.push (blankSet led)).IsTuple l its := ⟨_, hol', rfl, nl, rfl⟩
          unfold Builtin.«set.__init__» noKeywords Builtin.Frozenset.updateFrom
          generalize hPI : pyIter = PI
          wp_walk
          subst hPI
          refine wpAny_pyIter_tuple hl1 ?_
          refine wpAny_bind (wpAny_runValue ?_)
          have hlS : l < s.heap.objs.size := Heap.lt_size hol
          have h3 : A.in1.in1.in1.handled = none := by simp [hA]
          have nI : l ≠ (s.heap.push (blankSet led)).objs.size := by
            rw [Heap.size_push]; exact Nat.ne_of_lt (Nat.lt_succ_of_lt hlS)
          have nS : s.heap.objs.size ∉ [(s.heap.push (blankSet led)).objs.size, l] := by
            rw [Heap.size_push]; simp only [List.mem_cons, List.mem_singleton, List.not_mem_nil, or_false, not_or]
            exact ⟨Nat.ne_of_lt (Nat.lt_succ_self _), Nat.ne_of_gt hlS⟩
          refine turnK (kd := kd) ((Walks.tuple h3 _ l nI its).toS) s.heap.objs.size nS ks hlen hmax (fun i v k hv hk => hat i v k hv hk) (its.size - 0) 0 _ (by omega) (Nat.zero_le _) ⟨⟨_, Heap.get?_push_size _ rfl, rfl, rfl⟩, (hl1.push _)⟩ ?hS0 ?hR
          case hS0 =>
            have hget : ((s.heap.push (blankSet led)).push { cls := .type "tuple_iterator", data := .fields #[.ref l, .int 0 0] }).get? s.heap.objs.size = some (blankSet led) := Heap.get?_push_of_some _ hS
            exact PyProof.Rows.SetOf_congr ((PyProof.Rows.setObjOf_fresh (knd := kd) led).setOf hget (by unfold scanBound; omega)) (fun _ => rfl) rfl
          case hR =>
            intro s' mv hS'
            obtain ⟨h', g', d', tk', os'⟩ := s'
            obtain rfl : g' = s.gens := mv.gens
            obtain rfl : d' = s.drawn := mv.drawn
            obtain rfl : os' = s.os := mv.os
            show wpAny _ _ _ _ _ _
            refine wpAny_pure ?_
            show wpAny _ _ (ret Value.none) _ _ _
            refine wpAny_pure ⟨rfl, h', tk', rfl, hS', fun c o hc e => ?_⟩
            have n1 : c ≠ s.heap.objs.size := Nat.ne_of_lt hc
            have n2 : c ≠ (s.heap.push (blankSet led)).objs.size := by
              rw [Heap.size_push]; exact Nat.ne_of_lt (Nat.lt_succ_of_lt hc)
            exact mv.heap c o (by simp only [List.mem_cons, List.mem_singleton, List.not_mem_nil, or_false, not_or]; exact ⟨n1, n2⟩) (Heap.get?_push_of_some _ (Heap.get?_push_of_some _ e))
      · cases r₂ with
        | error e => exact hr₂
        | ok fl₂ =>
          cases fl₂ with
          | ret r =>
            obtain ⟨rfl, h', tk, rfl, hS', hk'⟩ := hr₂
            repeat (any_goals (first | assumption | wp_step))
            exact h _ _ hS' hk'
          | _ => exact hr₂.elim
    | _ => exact hr.elim
end
end EvS
namespace L2
open PySem PySem.Spec PyProof.Rows EvS
section
variable {X : Cx}
/-- len(set(xs)), xs a list or a tuple of texts -/
def tLenSetS (K : PySem.W.Frag) (ta : TE) : TE := fun σ H Q => ta σ H fun x H1 => ∃ (l : Addr) (xs : List Str), x = .ref l ∧ (SqL K H1 l (xs.map V.str) ∨ SqT K H1 l (xs.map V.str)) ∧ xs.length < 4000 ∧ Q (.int ((dd [] xs).length : Nat)) H1
theorem texts_at : ∀ {xs : List Str} {us : List Value}, Vals (xs.map V.str) us → ∀ (i : Nat) (v : Value) (k : Str), us[i]? = some v → xs[i]? = some k → ∃ t, v = Value.str k t
  | [], _, _, i, v, k, _, h => by simp at h
  | x :: xs, _, .cons r t, 0, v, k, h1, h2 => by
    obtain ⟨tk, rfl⟩ := r
    simp only [List.getElem?_cons_zero, Option.some.injEq] at h1 h2
    subst h1 h2
    exact ⟨tk, rfl⟩
  | x :: xs, _, .cons r t, i + 1, v, k, h1, h2 => by
    simp only [List.getElem?_cons_succ] at h1 h2
    exact texts_at t i v k h1 h2
theorem pe_lenSetS {a : Expr} {ta : TE} {p p2 q pos : Pos} (hc : X.calm = true) (hg : Gl X "len") (hm : X.mg "len" = none) (hg2 : Gl X "set") (hm2 : X.mg "set" = none) (ha : PE X a ta)
    (na : starEach [a] X.env = (false, eval a X.env) :: starEach [] X.env := by rfl) : PE X (.Call (.Name "len" p) [.Call (.Name "set" p2) [a] [] q] [] pos) (tLenSetS X.K ta) := by
  refine ⟨fun pins s σ H Q I h => ?_⟩
  refine Call_ (ld_blt I hg hm boot_len ?_)
  refine PyProof.Rows.callWith_builtin1 (PyProof.Rows.args_cons ?_ rfl) rfl rfl
  refine Call_ (ld_blt I hg2 hm2 boot_set ?_)
  refine PyProof.Rows.callWith_type1 (PyProof.Rows.args_cons (thn (ha.run pins s σ H _ I h) fun v s1 ⟨x, H1, I1, r1, q1⟩ => PyProof.Rows.args_nil ?_) na) na rfl
  obtain ⟨l, xs, rfl, hq, hmax, q1⟩ := q1
  cases r1
  have go : ∀ (its : List Value), Vals (xs.map V.str) its → (s1.heap.IsList l its.toArray ∨ s1.heap.IsTuple l its.toArray) →
      wpAny (model X.prog X.w) X.A (call (.type "set") [.ref l]) (fun v s₂ => wpAny (model X.prog X.w) X.A (spliced (backTo pos (starEach [] X.env))) (fun vs s₃ => wpAny (model X.prog X.w) X.A (call (.builtin "len") (v :: vs)) (EP X pins σ Q) X.xe s₃) X.xe s₂) X.xe s1 := fun its r pl => by
    have hl : its.toArray.size = xs.length := by rw [List.size_toArray, ← r.length, List.length_map]
    refine call_setK (kd := PySem.strKind X.prog X.w) (ks := xs) (I1.ok.hd hc) pl hl.symm (by rw [hl]; exact hmax) (fun i v k hv hk => ?_) fun h' tk hS hk => ?_
    · obtain ⟨t, rfl⟩ := texts_at r i v k (by rw [List.getElem?_toArray] at hv; exact hv) hk
      exact ⟨strKind_is _ _ _ _, rfl⟩
    · refine PyProof.Rows.args_nil ?_
      obtain ⟨o, es, ep, t, ho, hex, hd, _, _, _, hf, hn⟩ := hS
      have I2 : Inv X pins σ H1 { s1 with heap := h', toks := tk } := I1.kept fun c o e => hk c o (Heap.lt_size e) e
      have sm := dd_len_le xs []
      rw [List.length_nil] at sm
      exact call_len_set ho hex hd hf (by rw [hn] <;> omega) ⟨.int ((dd [] xs).length : Nat), H1, I2.tok _, ⟨_, by rw [hn]⟩, q1⟩
  rcases hq with hq | hq
  · obtain ⟨its, r, pl, hz⟩ := I1.list hq
    exact go its r (.inl pl.isList)
  · obtain ⟨its, r, pl, hz⟩ := I1.tuple hq
    exact go its r (.inr pl)
end
end L2

set_option Elab.async false
set_option linter.all false
set_option maxRecDepth 100000
set_option maxHeartbeats 4000000
namespace EvS
open PySem PySem.Spec PyProof.Rows L2
section
variable {X : Cx}
/-- what is never reached -/
theorem pss_any {b : List Stmt} : PSs X b (fun _ _ _ => False) := ⟨fun _ _ _ _ _ _ q => q.elim⟩
theorem ps_any {b : Stmt} : PS X b (fun _ _ _ => False) := ⟨fun _ _ _ _ _ _ q => q.elim⟩
theorem pe_any {e : Expr} : PE X e (fun _ _ _ => False) := ⟨fun _ _ _ _ _ _ q => q.elim⟩
theorem pt_any {e : Expr} : PT X e (fun _ _ _ => False) := ⟨fun _ _ _ _ _ _ q => q.elim⟩
/-- the one way or the other -/
theorem pi_or {tg it : Expr} {w1 w2 : TI} (a : PI X tg it w1) (b : PI X tg it w2) : PI X tg it (fun σ H R => w1 σ H R ∨ w2 σ H R) :=
  ⟨fun pins s σ H R I h => h.elim (fun q => a.run pins s σ H R I q) (fun q => b.run pins s σ H R I q)⟩
theorem pe_or2 {e : Expr} {t1 t2 : TE} (a : PE X e t1) (b : PE X e t2) : PE X e (fun σ H Q => t1 σ H Q ∨ t2 σ H Q) :=
  ⟨fun pins s σ H Q I h => h.elim (fun q => a.run pins s σ H Q I q) (fun q => b.run pins s σ H Q I q)⟩
end
section
variable {X : Cx}
theorem pe_gI {x : Str} {n : Int} {pos : Pos} (hg : Gl X x) (h : ∃ t, X.mg x = some (.int n t)) (hd : (x == ("__debug__" : Str)) = false := by decide) : PE X (.Name x pos) (tC (.int n)) := by
  obtain ⟨t, e⟩ := h
  exact pe_glob hg e ⟨t, rfl⟩ hd
theorem pe_gS {x : Str} {z : Str} {pos : Pos} (hg : Gl X x) (h : ∃ t, X.mg x = some (.str z t)) (hd : (x == ("__debug__" : Str)) = false := by decide) : PE X (.Name x pos) (tC (.str z)) := by
  obtain ⟨t, e⟩ := h
  exact pe_glob hg e ⟨t, rfl⟩ hd
end
theorem for_sign {x : Str} {g : TG} {tb : TS} {D : Ends} {σ : L2.St} {H : Hp} (Pv : Nat → L2.St → Hp → Prop) (h0 : Pv 0 σ H)
    (hs : ∀ i c σ H, x.cps[i]? = some c → Pv i σ H → g (.str ⟨#[c]⟩) σ H fun σ2 H2 => tb { D with nx := Pv (i + 1), ct := Pv (i + 1), bk := D.nx } σ2 H2) (hd : ∀ σ H, Pv x.cps.size σ H → D.nx σ H) :
    ∃ W : Nat → Nat → L2.St → Hp → Prop, (∃ m, W 0 m σ H) ∧ ∀ i m σ H, W i m σ H → ((Its x).stop i H ∧ D.nx σ H) ∨
      ((Its x).go i H ∧ ∃ N : L2.St → Hp → Prop, (∀ σ' H', N σ' H' → ∃ m', m' < m ∧ W (i + 1) m' σ' H') ∧ ∀ v H', (Its x).yld i H v H' → g v σ H' fun σ2 H2 => tb { D with nx := N, ct := N, bk := D.nx } σ2 H2) := by
  refine ⟨fun i m σ H => m = x.cps.size - i ∧ i ≤ x.cps.size ∧ Pv i σ H, ⟨x.cps.size, rfl, Nat.zero_le _, h0⟩, ?_⟩
  rintro i m σ H ⟨rfl, hi, p⟩
  by_cases lt : i < x.cps.size
  · refine .inr ⟨lt, Pv (i + 1), fun σ' H' p' => ⟨x.cps.size - (i + 1), by omega, rfl, lt, p'⟩, fun v H' y => ?_⟩
    obtain ⟨rfl, c, hc, rfl⟩ := y
    exact hs i c σ _ hc p
  · obtain rfl : i = x.cps.size := by omega
    exact .inl ⟨Nat.le_refl _, hd σ H p⟩
theorem lc_sign {x : Str} {g : TG} {tt : TT} {te : TE} {vs : List Nat} {σ : L2.St} {H1 : Hp} {D : Addr} {Qd : Hp → Prop} (Pv : Nat → Hp → Prop) (h0 : Pv 0 (upd H1 D (.lst [])))
    (hs : ∀ i c H, x.cps[i]? = some c → Pv i H → g (.str ⟨#[c]⟩) (wipe σ vs) H fun σ2 H2 => wipe σ2 vs = wipe σ vs ∧ tt σ2 H2 fun b H3 =>
      if b = true then te σ2 H3 fun y H4 => ∃ acc, H4 D = some (.lst acc) ∧ acc.length < sizeLine ∧ Pv (i + 1) (upd H4 D (.lst (acc ++ [y]))) else Pv (i + 1) H3) (hd : ∀ H, Pv x.cps.size H → Qd H) :
    ∃ W : Nat → Nat → Hp → Prop, (∃ m, W 0 m (upd H1 D (.lst []))) ∧ ∀ i m H, W i m H → ((Its x).stop i H ∧ Qd H) ∨
      ((Its x).go i H ∧ ∃ Nx : Hp → Prop, (∀ H', Nx H' → ∃ m', m' < m ∧ W (i + 1) m' H') ∧ ∀ v H', (Its x).yld i H v H' → g v (wipe σ vs) H' fun σ2 H2 => wipe σ2 vs = wipe σ vs ∧ tt σ2 H2 fun b H3 =>
        if b = true then te σ2 H3 fun y H4 => ∃ acc, H4 D = some (.lst acc) ∧ acc.length < sizeLine ∧ Nx (upd H4 D (.lst (acc ++ [y]))) else Nx H3) := by
  refine ⟨fun i m H => m = x.cps.size - i ∧ i ≤ x.cps.size ∧ Pv i H, ⟨x.cps.size, rfl, Nat.zero_le _, h0⟩, ?_⟩
  rintro i m H ⟨rfl, hi, p⟩
  by_cases lt : i < x.cps.size
  · refine .inr ⟨lt, Pv (i + 1), fun H' p' => ⟨x.cps.size - (i + 1), by omega, rfl, lt, p'⟩, fun v H' y => ?_⟩
    obtain ⟨rfl, c, hc, rfl⟩ := y
    exact hs i c _ hc p
  · obtain rfl : i = x.cps.size := by omega
    exact .inl ⟨Nat.le_refl _, hd H p⟩
/-- the same of a comprehension without a test -/
theorem lcY_sign {x : Str} {g : TG} {te : TE} {vs : List Nat} {σ : L2.St} {H1 : Hp} {D : Addr} {Qd : Hp → Prop} (Pv : Nat → Hp → Prop) (h0 : Pv 0 (upd H1 D (.lst [])))
    (hs : ∀ i c H, x.cps[i]? = some c → Pv i H → g (.str ⟨#[c]⟩) (wipe σ vs) H fun σ2 H2 => wipe σ2 vs = wipe σ vs ∧ te σ2 H2 fun y H4 => ∃ acc, H4 D = some (.lst acc) ∧ acc.length < sizeLine ∧ Pv (i + 1) (upd H4 D (.lst (acc ++ [y])))) (hd : ∀ H, Pv x.cps.size H → Qd H) :
    ∃ W : Nat → Nat → Hp → Prop, (∃ m, W 0 m (upd H1 D (.lst []))) ∧ ∀ i m H, W i m H → ((Its x).stop i H ∧ Qd H) ∨
      ((Its x).go i H ∧ ∃ Nx : Hp → Prop, (∀ H', Nx H' → ∃ m', m' < m ∧ W (i + 1) m' H') ∧ ∀ v H', (Its x).yld i H v H' → g v (wipe σ vs) H' fun σ2 H2 => wipe σ2 vs = wipe σ vs ∧ tYes σ2 H2 fun b H3 =>
        if b = true then te σ2 H3 fun y H4 => ∃ acc, H4 D = some (.lst acc) ∧ acc.length < sizeLine ∧ Nx (upd H4 D (.lst (acc ++ [y]))) else Nx H3) :=
  lc_sign Pv h0 (fun i c H hc p => hs i c H hc p) hd
theorem lcY_list {K : PySem.W.Frag} {a : Addr} {xs : List V} {g : TG} {te : TE} {vs : List Nat} {σ : L2.St} {H1 : Hp} {D : Addr} {Qd : Hp → Prop} (Pv : Nat → Hp → Prop) (h0 : Pv 0 (upd H1 D (.lst []))) (hl : ∀ i H, i ≤ xs.length → Pv i H → SqL K H a xs)
    (hs : ∀ i x H, xs[i]? = some x → Pv i H → g x (wipe σ vs) H fun σ2 H2 => wipe σ2 vs = wipe σ vs ∧ te σ2 H2 fun y H4 => ∃ acc, H4 D = some (.lst acc) ∧ acc.length < sizeLine ∧ Pv (i + 1) (upd H4 D (.lst (acc ++ [y])))) (hd : ∀ H, Pv xs.length H → Qd H) :
    ∃ W : Nat → Nat → Hp → Prop, (∃ m, W 0 m (upd H1 D (.lst []))) ∧ ∀ i m H, W i m H → ((Itl K a).stop i H ∧ Qd H) ∨
      ((Itl K a).go i H ∧ ∃ Nx : Hp → Prop, (∀ H', Nx H' → ∃ m', m' < m ∧ W (i + 1) m' H') ∧ ∀ x H', (Itl K a).yld i H x H' → g x (wipe σ vs) H' fun σ2 H2 => wipe σ2 vs = wipe σ vs ∧ tYes σ2 H2 fun b H3 =>
        if b = true then te σ2 H3 fun y H4 => ∃ acc, H4 D = some (.lst acc) ∧ acc.length < sizeLine ∧ Nx (upd H4 D (.lst (acc ++ [y]))) else Nx H3) :=
  lc_list Pv h0 hl (fun i c H hc p => hs i c H hc p) hd
theorem lcY_tup {K : PySem.W.Frag} {a : Addr} {xs : List V} {g : TG} {te : TE} {vs : List Nat} {σ : L2.St} {H1 : Hp} {D : Addr} {Qd : Hp → Prop} (Pv : Nat → Hp → Prop) (h0 : Pv 0 (upd H1 D (.lst []))) (hl : ∀ i H, i ≤ xs.length → Pv i H → SqT K H a xs)
    (hs : ∀ i x H, xs[i]? = some x → Pv i H → g x (wipe σ vs) H fun σ2 H2 => wipe σ2 vs = wipe σ vs ∧ te σ2 H2 fun y H4 => ∃ acc, H4 D = some (.lst acc) ∧ acc.length < sizeLine ∧ Pv (i + 1) (upd H4 D (.lst (acc ++ [y])))) (hd : ∀ H, Pv xs.length H → Qd H) :
    ∃ W : Nat → Nat → Hp → Prop, (∃ m, W 0 m (upd H1 D (.lst []))) ∧ ∀ i m H, W i m H → ((Itt K a).stop i H ∧ Qd H) ∨
      ((Itt K a).go i H ∧ ∃ Nx : Hp → Prop, (∀ H', Nx H' → ∃ m', m' < m ∧ W (i + 1) m' H') ∧ ∀ x H', (Itt K a).yld i H x H' → g x (wipe σ vs) H' fun σ2 H2 => wipe σ2 vs = wipe σ vs ∧ tYes σ2 H2 fun b H3 =>
        if b = true then te σ2 H3 fun y H4 => ∃ acc, H4 D = some (.lst acc) ∧ acc.length < sizeLine ∧ Nx (upd H4 D (.lst (acc ++ [y]))) else Nx H3) :=
  lc_tup Pv h0 hl (fun i c H hc p => hs i c H hc p) hd
theorem exc_self {K : PySem.W.Frag} {S : Addr} (h1 : PySem.W.subIn K (.ref S) (.type "BaseException") = some true) (h2 : PySem.W.isClsIn K S = true) (h3 : PySem.W.typeIn K (.ref S) = some (.type "type")) (h4 : PySem.W.subIn K (.ref S) (.ref S) = some true) :
    PySem.W.exmOne K (.ref S) (.ref S) = some true := by
  have e1 : (PySem.W.subIn K (.ref S) (.type "BaseException") == some true) = true := by rw [h1] <;> rfl
  have e2 : ((PySem.W.clsIn K S).isSome && PySem.W.typeIn K (.ref S) == some (.type "type")) = true := by
    have h2' : (PySem.W.clsIn K S).isSome = true := h2
    rw [h2', h3] <;> rfl
  show (if (PySem.W.subIn K (.ref S) (.type "BaseException") == some true) = true then (if ((PySem.W.clsIn K S).isSome && PySem.W.typeIn K (.ref S) == some (.type "type")) = true then PySem.W.subIn K (.ref S) (.ref S) else none) else none) = some true
  rw [if_pos e1, if_pos e2]
  exact h4
end EvS

set_option Elab.async false
set_option linter.all false
set_option maxRecDepth 100000
set_option maxHeartbeats 4000000
namespace K8
open PySem PySem.Spec PyProof.Rows L2 EvS
def top (i : Nat) : Stmt := PySem.Challenge.pw_everyfire_k08_names.main.body.getD i (.Pass ⟨0, 0, 0, 0⟩)
abbrev s_is_name : Stmt := top 14
abbrev s__check_count : Stmt := top 15
abbrev s__check_names : Stmt := top 16
abbrev s__check_ends : Stmt := top 17
abbrev s__as_bounds : Stmt := top 18
abbrev s__as_link : Stmt := top 19
abbrev s__as_path : Stmt := top 20
abbrev s__check_single_paths : Stmt := top 21
abbrev s_init : Stmt := inClass (top 22) 0
abbrev s_link_names : Stmt := inClass (top 22) 1
abbrev s__law_row : Stmt := top 24
abbrev s__law_numbers : Stmt := top 25
abbrev s__law_taken : Stmt := top 26
abbrev s_law : Stmt := top 27
theorem sc_is_name : FnScope ["text", "sign"] ["text"] (defScope s_is_name) := ⟨rfl, rfl, rfl, by decide +kernel, rfl, by decide +kernel, by decide +kernel⟩
theorem sc__check_count : FnScope ["sort", "rows", "least", "most"] ["sort", "rows", "least", "most"] (defScope s__check_count) := ⟨rfl, rfl, rfl, by decide +kernel, rfl, by decide +kernel, by decide +kernel⟩
theorem sc__check_names : FnScope ["sort", "names", "name"] ["sort", "names"] (defScope s__check_names) := ⟨rfl, rfl, rfl, by decide +kernel, rfl, by decide +kernel, by decide +kernel⟩
theorem sc__check_ends : FnScope ["sort", "one", "other", "places"] ["sort", "one", "other", "places"] (defScope s__check_ends) := ⟨rfl, rfl, rfl, by decide +kernel, rfl, by decide +kernel, by decide +kernel⟩
theorem sc__as_bounds : FnScope ["bounds", "least", "most"] ["bounds"] (defScope s__as_bounds) := ⟨rfl, rfl, rfl, by decide +kernel, rfl, by decide +kernel, by decide +kernel⟩
theorem sc__as_link : FnScope ["link", "winds", "places", "name", "one", "other", "times", "bounds"] ["link", "winds", "places"] (defScope s__as_link) := ⟨rfl, rfl, rfl, by decide +kernel, rfl, by decide +kernel, by decide +kernel⟩
theorem sc__as_path : FnScope ["path", "places", "one", "other", "minutes"] ["path", "places"] (defScope s__as_path) := ⟨rfl, rfl, rfl, by decide +kernel, rfl, by decide +kernel, by decide +kernel⟩
theorem sc__check_single_paths : FnScope ["paths", "ends", "one", "other", "_"] ["paths"] (defScope s__check_single_paths) := ⟨rfl, rfl, rfl, by decide +kernel, rfl, by decide +kernel, by decide +kernel⟩
theorem sc_init : FnScope ["self", "winds", "places", "links", "paths", "link", "path"] ["self", "winds", "places", "links", "paths"] (defScope s_init) := ⟨rfl, rfl, rfl, by decide +kernel, rfl, by decide +kernel, by decide +kernel⟩
theorem sc_link_names : FnScope ["self", "link"] ["self"] (defScope s_link_names) := ⟨rfl, rfl, rfl, by decide +kernel, rfl, by decide +kernel, by decide +kernel⟩
theorem sc__law_row : FnScope ["cell", "many", "row", "rest", "mixed", "k"] ["cell", "many"] (defScope s__law_row) := ⟨rfl, rfl, rfl, by decide +kernel, rfl, by decide +kernel, by decide +kernel⟩
theorem sc__law_numbers : FnScope ["script", "many", "cells", "each", "numbers", "cell", "number"] ["script", "many"] (defScope s__law_numbers) := ⟨rfl, rfl, rfl, by decide +kernel, rfl, by decide +kernel, by decide +kernel⟩
theorem sc__law_taken : FnScope ["winds", "places", "links", "land"] ["winds", "places", "links"] (defScope s__law_taken) := ⟨rfl, rfl, rfl, by decide +kernel, rfl, by decide +kernel, by decide +kernel⟩
theorem sc_law : FnScope ["script", "numbers", "good", "all_chars", "text", "k", "place", "due", "char", "told"] ["script"] (defScope s_law) := ⟨rfl, rfl, rfl, by decide +kernel, rfl, by decide +kernel, by decide +kernel⟩
/-- where the top has put things -/
structure Ad where
  C : Addr
  IL : Addr
  tl : Addr
  te : Addr
  pr : Addr
  f_is_name : Addr
  d_is_name : FuncData
  f__check_count : Addr
  d__check_count : FuncData
  f__check_names : Addr
  d__check_names : FuncData
  f__check_ends : Addr
  d__check_ends : FuncData
  f__as_bounds : Addr
  d__as_bounds : FuncData
  f__as_link : Addr
  d__as_link : FuncData
  f__as_path : Addr
  d__as_path : FuncData
  f__check_single_paths : Addr
  d__check_single_paths : FuncData
  f_init : Addr
  d_init : FuncData
  f_link_names : Addr
  d_link_names : FuncData
  f__law_row : Addr
  d__law_row : FuncData
  f__law_numbers : Addr
  d__law_numbers : FuncData
  f__law_taken : Addr
  d__law_taken : FuncData
  f_law : Addr
  d_law : FuncData
structure Txt (K : PySem.W.Frag) (mg : Str → Option Value) (a : Ad) : Prop where
  F_is_name : Fun K "is_name" "is_name" s_is_name a.f_is_name a.d_is_name
  B_is_name : Binds K a.d_is_name ["text"] []
  k_is_name : PySem.W.keepIn K (.ref a.f_is_name) = true
  g_is_name : mg "is_name" = some (.ref a.f_is_name)
  F__check_count : Fun K "_check_count" "_check_count" s__check_count a.f__check_count a.d__check_count
  B__check_count : Binds K a.d__check_count ["sort", "rows", "least", "most"] []
  k__check_count : PySem.W.keepIn K (.ref a.f__check_count) = true
  g__check_count : mg "_check_count" = some (.ref a.f__check_count)
  F__check_names : Fun K "_check_names" "_check_names" s__check_names a.f__check_names a.d__check_names
  B__check_names : Binds K a.d__check_names ["sort", "names"] []
  k__check_names : PySem.W.keepIn K (.ref a.f__check_names) = true
  g__check_names : mg "_check_names" = some (.ref a.f__check_names)
  F__check_ends : Fun K "_check_ends" "_check_ends" s__check_ends a.f__check_ends a.d__check_ends
  B__check_ends : Binds K a.d__check_ends ["sort", "one", "other", "places"] []
  k__check_ends : PySem.W.keepIn K (.ref a.f__check_ends) = true
  g__check_ends : mg "_check_ends" = some (.ref a.f__check_ends)
  F__as_bounds : Fun K "_as_bounds" "_as_bounds" s__as_bounds a.f__as_bounds a.d__as_bounds
  B__as_bounds : Binds K a.d__as_bounds ["bounds"] []
  k__as_bounds : PySem.W.keepIn K (.ref a.f__as_bounds) = true
  g__as_bounds : mg "_as_bounds" = some (.ref a.f__as_bounds)
  F__as_link : Fun K "_as_link" "_as_link" s__as_link a.f__as_link a.d__as_link
  B__as_link : Binds K a.d__as_link ["link", "winds", "places"] []
  k__as_link : PySem.W.keepIn K (.ref a.f__as_link) = true
  g__as_link : mg "_as_link" = some (.ref a.f__as_link)
  F__as_path : Fun K "_as_path" "_as_path" s__as_path a.f__as_path a.d__as_path
  B__as_path : Binds K a.d__as_path ["path", "places"] []
  k__as_path : PySem.W.keepIn K (.ref a.f__as_path) = true
  g__as_path : mg "_as_path" = some (.ref a.f__as_path)
  F__check_single_paths : Fun K "_check_single_paths" "_check_single_paths" s__check_single_paths a.f__check_single_paths a.d__check_single_paths
  B__check_single_paths : Binds K a.d__check_single_paths ["paths"] []
  k__check_single_paths : PySem.W.keepIn K (.ref a.f__check_single_paths) = true
  g__check_single_paths : mg "_check_single_paths" = some (.ref a.f__check_single_paths)
  F_init : FunD K "__init__" "Land.__init__" (defArgs s_init) (defBody s_init) (defScope s_init) [] [("links", .ref a.tl), ("paths", .ref a.te)] a.f_init a.d_init
  F_link_names : Fun K "link_names" "Land.link_names" s_link_names a.f_link_names a.d_link_names
  B_link_names : Binds K a.d_link_names ["self"] []
  k_link_names : PySem.W.keepIn K (.ref a.f_link_names) = true
  F__law_row : Fun K "_law_row" "_law_row" s__law_row a.f__law_row a.d__law_row
  B__law_row : Binds K a.d__law_row ["cell", "many"] []
  k__law_row : PySem.W.keepIn K (.ref a.f__law_row) = true
  g__law_row : mg "_law_row" = some (.ref a.f__law_row)
  F__law_numbers : Fun K "_law_numbers" "_law_numbers" s__law_numbers a.f__law_numbers a.d__law_numbers
  B__law_numbers : Binds K a.d__law_numbers ["script", "many"] []
  k__law_numbers : PySem.W.keepIn K (.ref a.f__law_numbers) = true
  g__law_numbers : mg "_law_numbers" = some (.ref a.f__law_numbers)
  F__law_taken : Fun K "_law_taken" "_law_taken" s__law_taken a.f__law_taken a.d__law_taken
  B__law_taken : Binds K a.d__law_taken ["winds", "places", "links"] []
  k__law_taken : PySem.W.keepIn K (.ref a.f__law_taken) = true
  g__law_taken : mg "_law_taken" = some (.ref a.f__law_taken)
  F_law : Fun K "law" "law" s_law a.f_law a.d_law
  B_law : Binds K a.d_law ["script"] []
  k_law : PySem.W.keepIn K (.ref a.f_law) = true
  g_law : mg "law" = some (.ref a.f_law)
  z_abs : mg "abs" = none
  z_all : mg "all" = none
  z_bool : mg "bool" = none
  z_int : mg "int" = none
  z_isinstance : mg "isinstance" = none
  z_len : mg "len" = none
  z_max : mg "max" = none
  z_range : mg "range" = none
  z_set : mg "set" = none
  z_tuple : mg "tuple" = none
  z_sorted : mg "sorted" = none
  c_LETTERS : ∃ t, mg "LETTERS" = some (.str "abcdefghijklmnopqrstuvwxyz" t)
  c_DIGITS : ∃ t, mg "DIGITS" = some (.str "0123456789" t)
  c_LONGEST_NAME : ∃ t, mg "LONGEST_NAME" = some (.int 12 t)
  c_MOST_WINDS : ∃ t, mg "MOST_WINDS" = some (.int 4 t)
  c_MOST_PLACES : ∃ t, mg "MOST_PLACES" = some (.int 24 t)
  c_MOST_LINKS : ∃ t, mg "MOST_LINKS" = some (.int 60 t)
  c_MOST_PATHS : ∃ t, mg "MOST_PATHS" = some (.int 60 t)
  c_MOST_MINUTES : ∃ t, mg "MOST_MINUTES" = some (.int 1000 t)
  cl : Cls K a.C
  mk_Land : Mk K a.C a.f_init
  g_Land : mg "Land" = some (.ref a.C)
  nW : NoAttr K a.C "winds"
  nP : NoAttr K a.C "places"
  nL : NoAttr K a.C "links"
  nA : NoAttr K a.C "paths"
  p_link_names : PropOf K a.C "link_names" a.pr a.f_link_names
  teT : ∀ H : Hp, SqT K H a.te []
  x_InvalidLand : PySem.W.excIn K a.IL [.type "ValueError", .type "Exception", .type "BaseException", .type "object"] "ValueError.__new__" = true
  g_InvalidLand : mg "InvalidLand" = some (.ref a.IL)
  k_InvalidLand : PySem.W.keepIn K (.ref a.IL) = true
  b_InvalidLand : PySem.W.subIn K (.ref a.IL) (.type "BaseException") = some true
  t_InvalidLand : PySem.W.typeIn K (.ref a.IL) = some (.type "type")
  e_InvalidLand : PySem.W.exmOne K (.ref a.IL) (.ref a.IL) = some true
end K8

set_option Elab.async false
set_option linter.all false
set_option maxRecDepth 100000
set_option maxHeartbeats 4000000
namespace K8
open PySem PySem.Spec PyProof.Rows L2 EvS Evl
def LETS : List Nat := ("abcdefghijklmnopqrstuvwxyz" : Str).cps.toList
def DIGS : List Nat := ("0123456789" : Str).cps.toList
def okSign (c : Nat) : Bool := decide (c ∈ LETS) || decide (c ∈ DIGS)
/-- point 2 -/
def isName (z : Str) : Bool := decide (1 ≤ z.length ∧ z.length ≤ 12) && (z.cps.toList.head?.any fun c => decide (c ∈ LETS)) && z.cps.toList.all okSign
def sp_is_name : Sp := fun vs H Q _ => ∃ z : Str, vs = [.str z] ∧ z.length ≤ 10000 ∧ ∀ H', Ex H H' → Q (.bl (isName z)) H'
section
variable {P : Program} {w : World} {K : PySem.W.Frag} {mg : Str → Option Value} {base : Heap} {a : Ad}
theorem G_is_name (T : Txt K mg a) : FnOk P w K mg base CX0 1 a.f_is_name a.d_is_name ["text"] sp_is_name := by
  refine T.F_is_name.ok sc_is_name (fun vs H Q E h => ?_) (fun cdv A outer s H vs Q E hr h => ?_)
  · obtain ⟨z, rfl, _⟩ := h
    rfl
  · obtain ⟨z, rfl, hz, k⟩ := h
    have hzs : z.length ≤ sizeLine := sz_of (by omega)
    refine ⟨_, (pss_cons (ps_if (pt_not (pt_chain op_le op_le pe_int (pe_callB call_len_str (by rfl) T.z_len PySem.boot_len (pa_cons (pv 0) pa_nil)) (pe_gI rfl T.c_LONGEST_NAME))) (pss_one (ps_ret pe_bl)) pss_nil)
      (pss_one (ps_ret (pe_and (pe_cmpR op_in_sign (pe_ix ix_str (pv 0) pe_int (fun _ _ => rfl)) (pe_gS rfl T.c_LETTERS) rfl) (pe_one (pe_callB (cr_all rfl) (by rfl) T.z_all (by decide +kernel) (pa_cons (pe_lc (own := [("sign", 1)]) (g := gName 1) (tt := tYes) rfl sc_is_name.nd (pi_str (pv 0)) (blkOk_by (N := ["text", "sign"]) (sc := defScope s_is_name) (by decide +kernel)) (fun _ _ _ _ _ => pg_name (i := 1) sc_is_name.nd rfl (Or.inl rfl)) (fun _ _ _ _ _ => pts_nil) (fun _ _ _ _ _ => (pe_or (pe_cmpR op_in_sign (pv 1) (pe_gS rfl T.c_LETTERS) rfl) (pe_one (pe_cmpR op_in_sign (pv 1) (pe_gS rfl T.c_DIGITS) rfl))))) pa_nil))))))), ?_⟩
    have no : ¬ (1 ≤ z.length ∧ z.length ≤ 12) → Q (.bl false) H := fun n => by
      have e : isName z = false := by
        unfold isName
        rw [decide_eq_false n]
        rfl
      have q := k H (Ex.refl H)
      rw [e] at q
      exact q
    refine ⟨_, rfl, _, rfl, hzs, _, _, rfl, rfl, _, rfl, ?_⟩
    refine ite2 (fun h1 => ?_) (fun h1 => ?_)
    · refine ⟨_, _, rfl, rfl, _, rfl, ?_⟩
      have h1' : 1 ≤ z.length := by
        have := of_decide_eq_true h1
        omega
      refine ite2 (fun h2 => ?_) (fun h2 => ?_)
      · exact no (fun n => by simp at h2; omega)
      · have h2' : z.length ≤ 12 := by
          simp at h2
          omega
        have hsz : z.cps.size = z.length := rfl
        obtain ⟨c0, hc0⟩ : ∃ c, z.cps[0]? = some c := ⟨_, Array.getElem?_eq_getElem (by omega)⟩
        have hl0 : z.cps.toList[0]? = some c0 := by rw [Array.getElem?_toList]; exact hc0
        have hh : z.cps.toList.head? = some c0 := by rw [List.head?_eq_getElem?]; exact hl0
        refine ⟨_, rfl, z, 0, c0, rfl, rfl, hzs, ?_, ?_⟩
        · have := atI_nat (j := 0) hl0
          simpa using this
        · refine ⟨c0, _, rfl, rfl, _, rfl, ?_⟩
          have rest : ∀ H', Ex H H' → Q (.bl (decide (c0 ∈ LETS) && z.cps.toList.all okSign)) H' := fun H' e => by
            have q := k H' e
            have ei : isName z = (decide (c0 ∈ LETS) && z.cps.toList.all okSign) := by
              unfold isName
              rw [decide_eq_true (show 1 ≤ z.length ∧ z.length ≤ 12 from ⟨h1', h2'⟩), hh]
              rfl
            rw [ei] at q
            exact q
          refine ite2 (fun h3 => ?_) (fun h3 => ?_)
          · have h3' : decide (c0 ∈ LETS) = true := h3
            rw [h3', Bool.true_and] at rest
            have hlen : z.cps.toList.length = z.cps.size := Array.length_toList
            refine ⟨_, rfl, z, rfl, fun D hD => lcY_sign (fun i H' => H D = none ∧ Ex H H' ∧ H' D = some (.lst ((z.cps.toList.take i).map fun c => V.bl (okSign c)))) ⟨hD, Ex.new hD, upd_same⟩ (fun i c H' hc p => ?_) (fun H' p => ?_)⟩
            · obtain ⟨p1, p2, p3⟩ := p
              have hil : i < z.cps.size := (Array.getElem?_eq_some_iff.mp hc).1
              have hlc : z.cps.toList[i]? = some c := by rw [Array.getElem?_toList]; exact hc
              have stp : (z.cps.toList.take (i + 1)).map (fun c => V.bl (okSign c)) = (z.cps.toList.take i).map (fun c => V.bl (okSign c)) ++ [V.bl (okSign c)] := by
                rw [List.take_add_one, hlc, List.map_append]
                rfl
              have fin : ∃ acc, H' D = some (.lst acc) ∧ acc.length < sizeLine ∧ H D = none ∧ Ex H (upd H' D (.lst (acc ++ [V.bl (okSign c)]))) ∧ (upd H' D (.lst (acc ++ [V.bl (okSign c)]))) D = some (.lst ((z.cps.toList.take (i + 1)).map fun c => V.bl (okSign c))) := by
                refine ⟨_, p3, sz_lt ?_, p1, Ex.mut p2 p1, ?_⟩
                · rw [List.length_map, List.length_take]
                  omega
                · rw [stp]
                  exact upd_same
              refine ⟨rfl, ?_⟩
              refine ⟨_, rfl, c, _, rfl, rfl, _, rfl, ?_⟩
              refine ite2 (fun h5 => ?_) (fun h5 => ?_)
              · have e : okSign c = true := by
                  unfold okSign
                  rw [show decide (c ∈ LETS) = true from h5]
                  rfl
                rw [e] at fin
                exact fin
              · refine ⟨_, rfl, c, _, rfl, rfl, ?_⟩
                have e : okSign c = decide (c ∈ DIGS) := by
                  unfold okSign
                  rw [show decide (c ∈ LETS) = false from Bool.eq_false_iff.mpr h5]
                  rfl
                rw [e] at fin
                exact fin
            · obtain ⟨p1, p2, p3⟩ := p
              rw [← hlen, List.take_length] at p3
              refine ⟨D, z.cps.toList.map okSign, rfl, ?_, ?_⟩
              · rw [List.map_map]
                exact SqL.of p3
              · have q := rest H' p2
                have e : (z.cps.toList.map okSign).all id = z.cps.toList.all okSign := by
                  rw [List.all_map]
                  rfl
                rw [e]
                exact q
          · have h3' : decide (c0 ∈ LETS) = false := Bool.eq_false_iff.mpr h3
            rw [h3', Bool.false_and] at rest
            exact rest H (Ex.refl H)
    · exact ⟨_, rfl, no (fun n => by simp at h1; omega)⟩
end
end K8

set_option Elab.async false
set_option linter.all false
set_option maxRecDepth 100000
set_option maxHeartbeats 4000000
namespace K8
open PySem PySem.Spec PyProof.Rows L2 EvS Evl
def Small (l : List Int) : Prop := ∀ n ∈ l, 0 ≤ n ∧ n < 1009
theorem small_snoc {l : List Int} {n : Int} (h : Small l) (a : 0 ≤ n) (b : n < 1009) : Small (l ++ [n]) := fun x hx => by
  rcases List.mem_append.mp hx with q | q
  · exact h x q
  · rw [List.mem_singleton] at q
    subst q
    exact ⟨a, b⟩
/-- a new list of m small numbers -/
def NewNums (m : Int) (H : Hp) (Q : VK) : Prop := ∀ H' p (ns : List Int), Ex H H' → H p = none → H' p = some (.lst (ns.map V.int)) → (ns.length : Int) = m → Small ns → Q (.ref p) H'
def sp__law_row : Sp := fun vs H Q _ => ∃ (c m : Int), vs = [.int c, .int m] ∧ 0 ≤ m ∧ m ≤ 10000 ∧ NewNums m H Q
def sp__law_numbers (K : PySem.W.Frag) : Sp := fun vs H Q _ => ∃ (p : Addr) (ns : List Int) (m : Int), vs = [.ref p, .int m] ∧ SqL K H p (ns.map V.int) ∧ 0 ≤ m ∧ m ≤ 1000 ∧ NewNums m H Q
theorem cutV_to (xs : List V) (k : Nat) : cutV xs none (some (k : Int)) = xs.take k := by
  unfold cutV
  rw [HT.sIx_nat, HT.sIx_none, List.drop_zero, Nat.sub_zero]
  rcases Nat.le_total k xs.length with h | h
  · rw [Nat.min_eq_left h]
  · rw [Nat.min_eq_right h, List.take_length, List.take_of_length_le h]
section
variable {P : Program} {w : World} {K : PySem.W.Frag} {mg : Str → Option Value} {base : Heap} {a : Ad}
theorem G__law_row (T : Txt K mg a) : FnOk P w K mg base CX0 1 a.f__law_row a.d__law_row ["cell", "many"] sp__law_row := by
  refine T.F__law_row.ok sc__law_row (fun vs H Q E h => ?_) (fun cdv A outer s H vs Q E hr h => ?_)
  · obtain ⟨c, m, rfl, _⟩ := h
    rfl
  · obtain ⟨c, m, rfl, m0, m1, k⟩ := h
    refine ⟨_, (pss_cons (ps_set (i := 2) sc__law_row.nd rfl (Or.inl rfl) (pe_lst pa_nil))
      (pss_cons (ps_set (i := 3) sc__law_row.nd rfl (Or.inl rfl) (pe_callB call_abs (by rfl) T.z_abs (by decide +kernel) (pa_cons (pv 0) pa_nil)))
      (pss_cons (ps_set (i := 4) sc__law_row.nd rfl (Or.inl rfl) (pe_op op_mod (pe_callTy call_int1 (by rfl) T.z_int (by decide +kernel) (pa_cons (pe_op op_add (pe_op op_mul (pv 3) pe_int) pe_int) pa_nil)) pe_int))
      (pss_cons (ps_for PassesOwn.never rfl (pi_range1 (by rfl) T.z_range (pa_cons (pv 1) pa_nil)) (pg_name (i := 5) sc__law_row.nd rfl (Or.inl rfl)) (pss_cons (ps_set (i := 4) sc__law_row.nd rfl (Or.inl rfl) (pe_op op_mod (pe_callTy call_int1 (by rfl) T.z_int (by decide +kernel) (pa_cons (pe_op op_add (pe_op op_mul (pv 4) pe_int) (pe_op op_mul pe_int (pe_op op_add (pv 5) pe_int))) pa_nil)) pe_int))
        (pss_one (ps_if (pt_cmpR op_ge (pe_callB call_abs (by rfl) T.z_abs (by decide +kernel) (pa_cons (pv 0) pa_nil)) (pe_op op_pow pe_int pe_int) (nomark _)) (pss_cons (ps_expr (pe_bm PySem.F.plainAttrs_list PySem.F.slot_list_append PySem.F.type_list_append mt_append (pv 2) (pa_cons (pe_op op_mod (pe_callTy call_int1 (by rfl) T.z_int (by decide +kernel) (pa_cons (pv 3) pa_nil)) pe_int) pa_nil)))
          (pss_one (ps_set (i := 3) sc__law_row.nd rfl (Or.inl rfl) (pe_op op_fdiv (pv 3) pe_int)))) (pss_one (ps_expr (pe_bm PySem.F.plainAttrs_list PySem.F.slot_list_append PySem.F.type_list_append mt_append (pv 2) (pa_cons (pe_op op_mod (pe_callTy call_int1 (by rfl) T.z_int (by decide +kernel) (pa_cons (pe_op op_fdiv (pv 4) pe_int) pa_nil)) pe_int) pa_nil))))))))
      (pss_one (ps_ret (pv 2))))))), ?_⟩
    refine ⟨Nat.zero_le _, fun l hl => ?_⟩
    refine ⟨_, rfl, _, rfl, ?_⟩
    refine ⟨_, rfl, _, _, rfl, rfl, .inr ⟨by decide, by decide⟩, _, _, rfl, rfl, .inl ⟨_, rfl, _, _, rfl, rfl, (by show (0 : Int) < 2147483647; decide), ?_⟩⟩
    refine ⟨_, rfl, _, rfl, by omega, by omega, for_range (n := m.toNat) (fun i σ H' => ∃ (r x : Int) (ns : List Int) (v : Option V), σ = [some (.int c), some (.int m), some (.ref l), some (.int r), some (.int x), v] ∧ Ex H H' ∧ H' l = some (.lst (ns.map V.int)) ∧ ns.length = i ∧ Small ns) ?_ ?_ ?_⟩
    · exact ⟨_, _, [], none, rfl, Ex.new hl, upd_same, rfl, fun n hn => by cases hn⟩
    · rintro i σ H' hi ⟨r, x, ns, v, rfl, e, hL, hlen, hs⟩
      have room : (ns.map V.int).length < sizeLine := sz_lt (by rw [List.length_map]; omega)
      have nx : ∀ (r' x' y : Int), 0 ≤ y → y < 1009 → ∃ (r x : Int) (ns' : List Int) (v' : Option V), [some (V.int c), some (V.int m), some (V.ref l), some (V.int r'), some (V.int x'), some (V.int (0 + (i : Int)))] = [some (V.int c), some (V.int m), some (V.ref l), some (V.int r), some (V.int x), v'] ∧
          Ex H (upd H' l (.lst (ns.map V.int ++ [V.int y]))) ∧ (upd H' l (.lst (ns.map V.int ++ [V.int y]))) l = some (.lst (ns'.map V.int)) ∧ ns'.length = i + 1 ∧ Small ns' := fun r' x' y h0 h1 =>
        ⟨_, _, ns ++ [y], _, rfl, Ex.mut e hl, by rw [upd_same, List.map_append] <;> rfl, by rw [List.length_append, hlen] <;> rfl, small_snoc hs h0 h1⟩
      refine ⟨_, rfl, _, _, rfl, rfl, .inr ⟨by decide, by decide⟩, _, rfl, _, _, rfl, rfl, _, _, rfl, rfl, .inl ⟨by decide, by decide⟩, _, _, rfl, rfl, .inl ⟨_, rfl, _, _, rfl, rfl, (by show (0 : Int) < 2147483629; decide), ?_⟩⟩
      refine ⟨_, rfl, _, rfl, _, _, rfl, rfl, ⟨by decide, by decide, by decide⟩, _, _, rfl, rfl, _, rfl, ?_⟩
      refine ite2 (fun _ => ?_) (fun _ => ?_)
      · refine ⟨_, rfl, .inl ⟨rfl, _, SqL.of hL⟩, _, rfl, .inl ⟨_, rfl, _, _, rfl, rfl, (by show (0 : Int) < 1009; decide), l, _, _, rfl, rfl, hL, room, ?_⟩⟩
        refine ⟨_, rfl, _, _, rfl, rfl, ⟨by decide, by decide⟩, ?_⟩
        exact nx _ _ _ (Int.emod_nonneg _ (by decide)) (Int.emod_lt_of_pos _ (by decide))
      · refine ⟨_, rfl, .inl ⟨rfl, _, SqL.of hL⟩, _, rfl, _, _, rfl, rfl, ⟨by decide, by decide⟩, .inl ⟨_, rfl, _, _, rfl, rfl, (by show (0 : Int) < 1009; decide), l, _, _, rfl, rfl, hL, room, ?_⟩⟩
        exact nx _ _ _ (Int.emod_nonneg _ (by decide)) (Int.emod_lt_of_pos _ (by decide))
    · rintro σ H' ⟨r, x, ns, v, rfl, e, hL, hlen, hs⟩
      exact ⟨_, rfl, k H' l ns e hl hL (by omega) hs⟩
theorem G__law_numbers (T : Txt K mg a) : FnOk P w K mg base CX0 2 a.f__law_numbers a.d__law_numbers ["script", "many"] (sp__law_numbers K) := by
  refine T.F__law_numbers.ok sc__law_numbers (fun vs H Q E h => ?_) (fun cdv A outer s H vs Q E hr h => ?_)
  · obtain ⟨p, ns, m, rfl, _⟩ := h
    rfl
  · obtain ⟨p, ns, m, rfl, hS, m0, m1, k⟩ := h
    refine ⟨_, (pss_cons (ps_set (i := 2) sc__law_numbers.nd rfl (Or.inl rfl) (pe_slice sl_list (pv 0) po_none (po_some pe_int)))
      (pss_cons (ps_set (i := 3) sc__law_numbers.nd rfl (Or.inl rfl) (pe_op op_add pe_int (pe_op op_fdivN (pv 1) (pe_callB (call_max2 rfl) (by rfl) T.z_max (by decide +kernel) (pa_cons pe_int (pa_cons (pe_callB call_len_seq (by rfl) T.z_len PySem.boot_len (pa_cons (pv 2) pa_nil)) pa_nil))))))
      (pss_cons (ps_set (i := 4) sc__law_numbers.nd rfl (Or.inl rfl) (pe_lst pa_nil))
      (pss_cons (ps_for PassesOwn.never rfl (pi_list (pv 2)) (pg_name (i := 5) sc__law_numbers.nd rfl (Or.inl rfl)) (pss_one (ps_for PassesOwn.never rfl (pi_list (pe_call (G__law_row T) (hr.mono (by decide)) (by rfl) T.g__law_row T.k__law_row T.B__law_row .nil pass0 (pa_cons (pv 5) (pa_cons (pv 3) pa_nil)))) (pg_name (i := 6) sc__law_numbers.nd rfl (Or.inl rfl)) (pss_one (ps_expr (pe_bm PySem.F.plainAttrs_list PySem.F.slot_list_append PySem.F.type_list_append mt_append (pv 4) (pa_cons (pv 6) pa_nil)))))))
      (pss_cons (ps_while PassesOwn.never (pt_cmpR op_lt (pe_callB call_len_seq (by rfl) T.z_len PySem.boot_len (pa_cons (pv 4) pa_nil)) (pv 1) (nomark _)) (pss_one (ps_expr (pe_bm PySem.F.plainAttrs_list PySem.F.slot_list_append PySem.F.type_list_append mt_append (pv 4) (pa_cons pe_int pa_nil)))))
      (pss_one (ps_ret (pe_slice sl_list (pv 4) po_none (po_some (pv 1)))))))))), ?_⟩
    -- cells = script[:63]
    refine ⟨_, rfl, _, rfl, p, _, rfl, hS, fun q hq => ?_⟩
    have hcs : cutV (ns.map V.int) none (some ((63 : Nat) : Int)) = (ns.take 63).map V.int := by
      rw [cutV_to, List.map_take]
    show tSeq _ _ _ _ (upd H q (.lst (cutV (ns.map V.int) none (some ((63 : Nat) : Int)))))
    rw [hcs]
    generalize hcd : ns.take 63 = cs
    have hcl : cs.length ≤ 63 := by
      rw [← hcd, List.length_take]
      omega
    have hlc : (cs.map V.int).length = cs.length := List.length_map ..
    have e1 : Ex H (upd H q (.lst (cs.map V.int))) := Ex.new hq
    -- each = 1 + many // max(1, len(cells))
    refine ⟨_, rfl, _, rfl, q, _, rfl, .inl (SqL.of upd_same), _, _, rfl, _, _, rfl, rfl, ⟨?_, ?_⟩, _, _, rfl, rfl, ?_⟩
    · split <;> omega
    · rw [hlc]
      split <;> omega
    generalize hd : (if ((cs.map V.int).length : Int) > 1 then ((cs.map V.int).length : Int) else 1) = d
    have d1 : 1 ≤ d := by
      rw [← hd]
      split <;> omega
    have f0 : 0 ≤ m.fdiv d := by
      rw [Int.fdiv_eq_ediv_of_nonneg _ (by omega)]
      exact Int.ediv_nonneg m0 (by omega)
    have f1 : m.fdiv d ≤ 1000 := by
      rw [Int.fdiv_eq_ediv_of_nonneg _ (by omega)]
      exact Int.le_trans (Int.ediv_le_self _ m0) m1
    generalize m.fdiv d = f at f0 f1
    -- numbers = []
    refine ⟨Nat.zero_le _, fun l hl => ?_⟩
    have hlH : H l = none := fresh_back e1 hl
    have nql : q ≠ l := ne_of_none upd_same hl
    have nlq : l ≠ q := Ne.symm nql
    refine ⟨_, rfl, q, rfl, ⟨_, SqL.of (by rw [upd_ne nql]; exact upd_same)⟩, for_list (K := K) (a := q) (xs := cs.map V.int) (fun i σ H' => ∃ (ks : List Int) (v5 v6 : Option V), σ = [some (.ref p), some (.int m), some (.ref q), some (.int (1 + f)), some (.ref l), v5, v6] ∧
      Ex H H' ∧ H' q = some (.lst (cs.map V.int)) ∧ H' l = some (.lst (ks.map V.int)) ∧ ks.length ≤ i * 1001 ∧ Small ks) ?_ ?_ ?_ ?_⟩
    · exact ⟨[], none, none, rfl, e1.trans (Ex.new hl), by rw [upd_ne nql]; exact upd_same, upd_same, by simp, fun n hn => by cases hn⟩
    · rintro i σ H' _ ⟨ks, v5, v6, rfl, e, hQ, hL, _⟩
      exact SqL.of hQ
    · rintro i y σ H' hi ⟨ks, v5, v6, rfl, e, hQ, hL, hn, hs⟩
      have hi63 : i < cs.length := by
        have z := (List.getElem?_eq_some_iff.mp hi).1
        rw [hlc] at z
        exact z
      obtain ⟨c, rfl⟩ : ∃ c, y = V.int c := by
        rw [List.getElem?_map] at hi
        cases z : cs[i]? with
        | none =>
          rw [z] at hi
          cases hi
        | some c =>
          rw [z] at hi
          exact ⟨c, (Option.some.inj hi).symm⟩
      -- for number in _law_row(cell, each)
      refine ⟨_, rfl, _, rfl, c, 1 + f, rfl, by omega, by omega, fun H2 r rs e2 hr hR hrl hrs => ⟨r, rfl, ⟨_, SqL.of hR⟩, ?_⟩⟩
      have nrl : r ≠ l := Ne.symm (ne_of_none hL hr)
      have nrq : q ≠ r := ne_of_none hQ hr
      have nlr : l ≠ r := Ne.symm nrl
      refine for_list (K := K) (a := r) (xs := rs.map V.int) (fun j σ H' => ∃ (ks' : List Int) (v6 : Option V), σ = [some (.ref p), some (.int m), some (.ref q), some (.int (1 + f)), some (.ref l), some (.int c), v6] ∧
        Ex H H' ∧ H' q = some (.lst (cs.map V.int)) ∧ H' r = some (.lst (rs.map V.int)) ∧ H' l = some (.lst (ks'.map V.int)) ∧ ks'.length = ks.length + j ∧ Small ks') ?_ ?_ ?_ ?_
      · exact ⟨ks, v6, rfl, e.trans e2, e2 _ _ hQ, hR, e2 _ _ hL, rfl, hs⟩
      · rintro j σ H' _ ⟨ks', v6, rfl, _, _, h3, _⟩
        exact SqL.of h3
      · rintro j y σ H' hj ⟨ks', v6, rfl, e3, hQ3, hR3, hL3, hn3, hs3⟩
        have hjr : j < rs.length := by
          have z := (List.getElem?_eq_some_iff.mp hj).1
          rw [List.length_map] at z
          exact z
        obtain ⟨n, hnm, rfl⟩ : ∃ n, n ∈ rs ∧ y = V.int n := by
          rw [List.getElem?_map] at hj
          cases z : rs[j]? with
          | none =>
            rw [z] at hj
            cases hj
          | some n =>
            rw [z] at hj
            exact ⟨n, List.mem_of_getElem? z, (Option.some.inj hj).symm⟩
        refine ⟨_, rfl, .inl ⟨rfl, _, SqL.of hL3⟩, _, rfl, l, _, _, rfl, rfl, hL3, sz_lt (by rw [List.length_map]; omega), ?_⟩
        exact ⟨ks' ++ [n], _, rfl, Ex.mut e3 hlH, by rw [upd_ne nql]; exact hQ3, by rw [upd_ne nrl]; exact hR3, by rw [upd_same, List.map_append] <;> rfl, by rw [List.length_append, hn3] <;> rfl, small_snoc hs3 (hrs n hnm).1 (hrs n hnm).2⟩
      · rintro σ H' ⟨ks', v6, rfl, e3, hQ3, hR3, hL3, hn3, hs3⟩
        rw [List.length_map] at hn3
        exact ⟨ks', _, _, rfl, e3, hQ3, hL3, by omega, hs3⟩
    · rintro σ H' ⟨ks, v5, v6, rfl, e, hQ, hL, hn, hs⟩
      rw [hlc] at hn
      -- while len(numbers) < many
      refine ⟨fun j σ H' => ∃ ks' : List Int, j = (m.toNat - ks'.length) ∧ σ = [some (.ref p), some (.int m), some (.ref q), some (.int (1 + f)), some (.ref l), v5, v6] ∧ Ex H H' ∧ H' l = some (.lst (ks'.map V.int)) ∧ ks'.length ≤ 70000 ∧ Small ks',
        ⟨_, ks, rfl, rfl, e, hL, by omega, hs⟩, ?_⟩
      rintro j σ H' ⟨ks', rfl, rfl, e3, hL3, hn3, hs3⟩
      have hlk : (ks'.map V.int).length = ks'.length := List.length_map ..
      refine ⟨_, rfl, l, _, rfl, .inl (SqL.of hL3), _, rfl, _, _, rfl, rfl, _, rfl, ?_⟩
      refine ite2 (fun lt => ?_) (fun ge => ?_)
      · have lt' : (ks'.length : Int) < m := by
          have z := of_decide_eq_true lt
          rw [hlk] at z
          exact z
        refine ⟨_, fun σ' H' z => z, ?_⟩
        refine ⟨_, rfl, .inl ⟨rfl, _, SqL.of hL3⟩, l, _, _, rfl, rfl, hL3, sz_lt (by rw [hlk]; omega), ?_⟩
        exact ⟨_, by show m.toNat - (ks' ++ [0]).length < _; rw [List.length_append, List.length_singleton]; omega, ks' ++ [0], rfl, rfl, Ex.mut e3 hlH, by rw [upd_same, List.map_append] <;> rfl, by rw [List.length_append, List.length_singleton]; omega, small_snoc hs3 (by decide) (by decide)⟩
      · have ge' : m ≤ (ks'.length : Int) := by
          have z : ¬ ((ks'.map V.int).length : Int) < m := fun z => ge (decide_eq_true z)
          rw [hlk] at z
          omega
        -- return numbers[:many]
        refine ⟨_, rfl, _, rfl, _, rfl, l, _, rfl, SqL.of hL3, fun u hu => ?_⟩
        have em : m = ((m.toNat : Nat) : Int) := by omega
        have hcu : cutV (ks'.map V.int) none (some m) = (ks'.take m.toNat).map V.int := by
          rw [em, cutV_to, List.map_take]
          rfl
        show Q (.ref u) (upd H' u (.lst (cutV (ks'.map V.int) none (some m))))
        rw [hcu]
        refine k _ u (ks'.take m.toNat) (e3.trans (Ex.new hu)) (fresh_back e3 hu) upd_same ?_ (fun x hx => hs3 x (List.mem_of_mem_take hx))
        rw [List.length_take]
        omega
end
end K8

set_option Elab.async false
set_option linter.all false
set_option maxRecDepth 100000
set_option maxHeartbeats 4000000
namespace K8
open PySem PySem.Spec PyProof.Rows L2 EvS Evl
theorem flat_str (ys : List Str) : (ys.map V.str).all flatV = true := by
  rw [List.all_map]
  exact List.all_eq_true.mpr fun _ _ => rfl
theorem inV_str {z : Str} {ys : List Str} (h : z ∈ ys) : inV (.str z) (ys.map V.str) = true := by
  unfold inV
  rw [List.any_map, List.any_eq_true]
  refine ⟨z, h, ?_⟩
  show (z == z) = true
  exact beq_self_eq_true z
def Seq2 (K : PySem.W.Frag) (H : Hp) (p : Addr) (xs : List V) : Prop := SqL K H p xs ∨ SqT K H p xs
theorem Seq2.ex {K : PySem.W.Frag} {H H' : Hp} {p : Addr} {xs : List V} (e : Ex H H') (h : Seq2 K H p xs) : Seq2 K H' p xs := h.elim (fun q => .inl (ex_l e q)) (fun q => .inr (ex_t e q))
def sp__check_count (K : PySem.W.Frag) : Sp := fun vs H Q _ => ∃ (z : Str) (p : Addr) (xs : List V) (lo hi : Int), vs = [.str z, .ref p, .int lo, .int hi] ∧ Seq2 K H p xs ∧ lo ≤ xs.length ∧ (xs.length : Int) ≤ hi ∧ Q .non H
def Good (ns : List Str) : Prop := (∀ n ∈ ns, isName n = true) ∧ ns.Nodup
def sp__check_names (K : PySem.W.Frag) (IL : Addr) : Sp := fun vs H Q E => ∃ (z : Str) (p : Addr) (ns : List Str), vs = [.str z, .ref p] ∧ Seq2 K H p (ns.map V.str) ∧ z.length ≤ 100 ∧ ns.length ≤ 1000 ∧ (∀ n ∈ ns, n.length ≤ 1000) ∧
  (Good ns → ∀ H', Ex H H' → Q .non H') ∧ (¬ Good ns → ∀ H', Ex H H' → E (.ref IL) none H')
def sp__check_ends (K : PySem.W.Frag) : Sp := fun vs H Q _ => ∃ (z one other : Str) (p : Addr) (ps : List Str), vs = [.str z, .str one, .str other, .ref p] ∧ Seq2 K H p (ps.map V.str) ∧ one ∈ ps ∧ other ∈ ps ∧ one ≠ other ∧ Q .non H
def sp__as_bounds : Sp := fun vs H Q _ => vs = [.non] ∧ Q .non H
/-- a link all of whose winds are shut -/
def ShutAt (K : PySem.W.Frag) (H : Hp) (v : V) (n one other : Str) (m : Nat) : Prop := ∃ t u, v = .ref t ∧ SqT K H t [.str n, .str one, .str other, .ref u] ∧ SqL K H u (List.replicate m .non)
def MadeAt (K : PySem.W.Frag) (H : Hp) (v : V) (n : Str) : Prop := ∃ t rest, v = .ref t ∧ SqT K H t (.str n :: rest)
def sp__as_link (K : PySem.W.Frag) : Sp := fun vs H Q _ => ∃ (v : V) (n one other : Str) (wi pl : Addr) (ws : List V) (ps : List Str), vs = [v, .ref wi, .ref pl] ∧ ShutAt K H v n one other ws.length ∧ Seq2 K H wi ws ∧ Seq2 K H pl (ps.map V.str) ∧
  one ∈ ps ∧ other ∈ ps ∧ one ≠ other ∧ ws.length ≤ 100 ∧ ∀ H' p, Ex H H' → H p = none → MadeAt K H' (.ref p) n → Q (.ref p) H'
def sp__check_single_paths (K : PySem.W.Frag) : Sp := fun vs H Q _ => ∃ p, vs = [.ref p] ∧ SqT K H p [] ∧ ∀ H', Ex H H' → Q .non H'
def sp_link_names (K : PySem.W.Frag) (C : Addr) : Sp := fun vs H Q _ => ∃ (x dx : Addr) (fs : List (Str × V)) (l : Addr) (rows : List V) (ns : List Str), vs = [.ref x] ∧ H x = some (.ins C dx fs) ∧ fs.lookup ("links" : Str) = some (V.ref l) ∧ SqT K H l rows ∧ rows.length = ns.length ∧ rows.length ≤ 1000 ∧
  (∀ (i : Nat) (r : V), rows[i]? = some r → ∃ n : Str, ns[i]? = some n ∧ MadeAt K H r n) ∧ ∀ H' p, Ex H H' → H p = none → H' p = some (.tup (ns.map V.str)) → Q (.ref p) H'
section
variable {P : Program} {w : World} {K : PySem.W.Frag} {mg : Str → Option Value} {base : Heap} {a : Ad}
theorem G__check_count (T : Txt K mg a) : FnOk P w K mg base CX0 1 a.f__check_count a.d__check_count ["sort", "rows", "least", "most"] (sp__check_count K) := by
  refine T.F__check_count.ok sc__check_count (fun vs H Q E h => ?_) (fun cdv A outer s H vs Q E hr h => ?_)
  · obtain ⟨z, p, xs, lo, hi, rfl, _⟩ := h
    rfl
  · obtain ⟨z, p, xs, lo, hi, rfl, hS, h1, h2, k⟩ := h
    refine ⟨_, (pss_one (ps_if (pt_not (pt_chain op_le op_le (pv 2) (pe_callB call_len_seq (by rfl) T.z_len PySem.boot_len (pa_cons (pv 1) pa_nil)) (pv 3))) pss_any pss_nil)), ?_⟩
    refine ⟨_, rfl, _, rfl, p, _, rfl, hS, _, _, rfl, rfl, _, rfl, ?_⟩
    refine ite2 (fun _ => ?_) (fun n => absurd (decide_eq_true h1) n)
    exact ⟨_, rfl, _, _, rfl, rfl, _, rfl, iteNS h2 k⟩
theorem G__check_names (T : Txt K mg a) : FnOk P w K mg base (L2.CX P w) 2 a.f__check_names a.d__check_names ["sort", "names"] (sp__check_names K a.IL) := by
  refine T.F__check_names.okX sc__check_names (fun vs H Q E h => ?_) (fun cdv A outer s H vs Q E hr h => ?_)
  · obtain ⟨z, p, ns, rfl, _⟩ := h
    rfl
  · obtain ⟨z, p, ns, rfl, hS, hz, hl, hn, k1, k2⟩ := h
    refine ⟨_, (pss_cons (ps_for (passes_of rfl) rfl (pi_or (pi_list (pv 1)) (pi_tup (pv 1))) (pg_name (i := 2) sc__check_names.nd rfl (Or.inl rfl)) (pss_one (ps_if (pt_not (pt_val (pe_call (G_is_name T) (hr.mono (by decide)) (by rfl) T.g_is_name T.k_is_name T.B_is_name .nil pass0 (pa_cons (pv 2) pa_nil)))) (pss_one (ps_raise rfl (takes_of rfl rfl rfl rfl) (SkE.pmk_own1 PySem.F.excBase_ValueError T.x_InvalidLand T.g_InvalidLand T.k_InvalidLand (raises_own T.b_InvalidLand T.t_InvalidLand) (by exact rfl) (pe_joined (PJ.cons pe_str (PJ.cons (pe_fmt (pv 0)) (PJ.cons pe_str (PJ.cons (pe_fmt (pv 2)) PJ.nil)))))))) pss_nil)))
      (pss_one (ps_if (pt_cmpR op_ne (pe_lenSetS rfl (by rfl) T.z_len (by rfl) T.z_set (pv 1)) (pe_callB call_len_seq (by rfl) T.z_len PySem.boot_len (pa_cons (pv 1) pa_nil)) (nomark _)) (pss_one (ps_raise rfl (takes_of rfl rfl rfl rfl) (SkE.pmk_own1 PySem.F.excBase_ValueError T.x_InvalidLand T.g_InvalidLand T.k_InvalidLand (raises_own T.b_InvalidLand T.t_InvalidLand) (by exact rfl) (pe_joined (PJ.cons pe_str (PJ.cons (pe_fmt (pv 0)) (PJ.cons pe_str PJ.nil))))))) pss_nil))), ?_⟩
    have hlen : (ns.map V.str).length = ns.length := List.length_map ..
    have sh : ∀ {m : Nat} {t : Str}, t.length ≤ m → m ≤ 100000 → t.length ≤ sizeLine := fun h h' => sz_of (Nat.le_trans h h')
    -- a turn, whatever is walked
    have turn : ∀ (i : Nat) (y : V) (v : Option V) (H' : Hp) (D : Ends), (ns.map V.str)[i]? = some y → Ex H H' → (∀ n ∈ ns.take i, isName n = true) → (D.nx = fun σ H' => (∃ v, σ = [some (V.str z), some (V.ref p), v] ∧ Ex H H' ∧ ∀ n ∈ ns.take (i + 1), isName n = true)) →
        tIfS (tNot (tB (tCall sp_is_name [] E0 (tCons (tVar 2) tNil)))) (fun D σ H => tJs [tC (.str "one of the "), tFmt (tVar 0), tC (.str " has no right name: "), tFmt (tVar 2)] Str.empty σ H fun out H1 => E (.ref a.IL) none H1) tNext D [some (.str z), some (.ref p), some y] H' := by
      intro i y v H' D hy e hok hD
      obtain ⟨n, hni, rfl⟩ : ∃ n, ns[i]? = some n ∧ y = .str n := by
        rw [List.getElem?_map] at hy
        cases q : ns[i]? with
        | none =>
          rw [q] at hy
          cases hy
        | some n =>
          rw [q] at hy
          exact ⟨n, rfl, (Option.some.inj hy).symm⟩
      have hmem : n ∈ ns := List.mem_of_getElem? hni
      have hnl := hn n hmem
      refine ⟨_, rfl, n, rfl, by omega, fun H2 e2 => ⟨_, rfl, ?_⟩⟩
      cases hb : isName n with
      | true =>
        refine iteF ?_
        show D.nx _ _
        rw [hD]
        refine ⟨_, rfl, e.trans e2, fun x hx => ?_⟩
        rw [List.take_add_one, hni] at hx
        rcases List.mem_append.mp hx with q | q
        · exact hok x q
        · have : x = n := by simpa using q
          rw [this]
          exact hb
      | false =>
        refine iteT ?_
        have bad : ¬ Good ns := fun g => by
          have := g.1 n hmem
          rw [hb] at this
          cases this
        have l1 : (Str.empty ++ ("one of the " : Str)).length = 11 := by decide +kernel
        have l3 : (" has no right name: " : Str).length = 20 := by decide +kernel
        refine ⟨_, rfl, sh (m := 11) (by rw [l1] <;> omega) (by omega), _, rfl, .inl ⟨_, rfl, sh hz (by omega), _, rfl, sh (m := 1000) ?_ (by omega), _, rfl, sh (m := 1000) ?_ (by omega), _, rfl, .inl ⟨_, rfl, sh hnl (by omega), _, rfl, sh (m := 3000) ?_ (by omega), ?_⟩⟩⟩
        · rw [Str.length_append, l1]
          omega
        · rw [Str.length_append, Str.length_append, l1, l3]
          omega
        · rw [Str.length_append, Str.length_append, Str.length_append, l1, l3]
          omega
        · exact k2 bad _ (e.trans e2)
    -- behind the loop
    have done : ∀ (v : Option V) (H' : Hp) (D : Ends), Ex H H' → (∀ n ∈ ns.take ns.length, isName n = true) → (D.nx = fun _ H' => Q .non H') →
        tIfS (tTest (tOp rNe (tLenSetS K (tVar 1)) (tCB (fun xs H Q => ∃ p ys, xs = [V.ref p] ∧ (SqL K H p ys ∨ SqT K H p ys) ∧ Q (.int ys.length) H) (tCons (tVar 1) tNil)))) (fun D σ H => tJs [tC (.str "two of the "), tFmt (tVar 0), tC (.str " have the same name")] Str.empty σ H fun out H1 => E (.ref a.IL) none H1) tNext D [some (.str z), some (.ref p), v] H' := by
      intro v H' D e hok hD
      rw [List.take_length] at hok
      refine ⟨_, rfl, p, ns, rfl, hS.ex e, by omega, _, rfl, p, _, rfl, hS.ex e, rfl, _, rfl, ?_⟩
      have dl := dd_len_eq ns [] List.nodup_nil
      rw [List.nil_append, List.length_nil, Nat.zero_add] at dl
      rw [hlen]
      by_cases hnd : ns.Nodup
      · rw [dl.mpr hnd]
        refine iteNS rfl ?_
        show D.nx _ _
        rw [hD]
        exact k1 ⟨hok, hnd⟩ _ e
      · have ne : ¬ (V.int (((dd [] ns).length : Nat) : Int) = V.int ((ns.length : Nat) : Int)) := fun q => by
          have q' : (((dd [] ns).length : Nat) : Int) = ((ns.length : Nat) : Int) := V.int.inj q
          exact hnd (dl.mp (by omega))
        rw [decide_eq_false ne]
        refine iteT ?_
        have l1 : (Str.empty ++ ("two of the " : Str)).length = 11 := by decide +kernel
        have l3 : (" have the same name" : Str).length = 19 := by decide +kernel
        refine ⟨_, rfl, sh (m := 11) (by rw [l1] <;> omega) (by omega), _, rfl, .inl ⟨_, rfl, sh hz (by omega), _, rfl, sh (m := 1000) ?_ (by omega), _, rfl, sh (m := 1000) ?_ (by omega), ?_⟩⟩
        · rw [Str.length_append, l1]
          omega
        · rw [Str.length_append, Str.length_append, l1, l3]
          omega
        · exact k2 (fun g => hnd g.2) _ e
    rcases hS with hS | hS
    · refine .inl ⟨_, rfl, p, rfl, ⟨_, hS⟩, for_list (K := K) (a := p) (xs := ns.map V.str) (fun i σ H' => ∃ v, σ = [some (V.str z), some (V.ref p), v] ∧ Ex H H' ∧ ∀ n ∈ ns.take i, isName n = true) ?_ ?_ ?_ ?_⟩
      · exact ⟨none, rfl, Ex.refl H, fun n hn => by simp at hn⟩
      · rintro i σ H' _ ⟨v, rfl, e, _⟩
        exact ex_l e hS
      · rintro i y σ H' hy ⟨v, rfl, e, hok⟩
        exact turn i y v H' _ hy e hok rfl
      · rintro σ H' ⟨v, rfl, e, hok⟩
        rw [hlen] at hok
        exact done v H' _ e hok rfl
    · refine .inr ⟨_, rfl, p, rfl, ⟨_, hS⟩, for_tup (K := K) (a := p) (xs := ns.map V.str) (fun i σ H' => ∃ v, σ = [some (V.str z), some (V.ref p), v] ∧ Ex H H' ∧ ∀ n ∈ ns.take i, isName n = true) ?_ ?_ ?_ ?_⟩
      · exact ⟨none, rfl, Ex.refl H, fun n hn => by simp at hn⟩
      · rintro i σ H' _ ⟨v, rfl, e, _⟩
        exact ex_t e hS
      · rintro i y σ H' hy ⟨v, rfl, e, hok⟩
        exact turn i y v H' _ hy e hok rfl
      · rintro σ H' ⟨v, rfl, e, hok⟩
        rw [hlen] at hok
        exact done v H' _ e hok rfl
theorem G__check_ends (T : Txt K mg a) : FnOk P w K mg base CX0 1 a.f__check_ends a.d__check_ends ["sort", "one", "other", "places"] (sp__check_ends K) := by
  refine T.F__check_ends.ok sc__check_ends (fun vs H Q E h => ?_) (fun cdv A outer s H vs Q E hr h => ?_)
  · obtain ⟨z, one, other, p, ps, rfl, _⟩ := h
    rfl
  · obtain ⟨z, one, other, p, ps, rfl, hS, h1, h2, h3, k⟩ := h
    refine ⟨_, (pss_cons (ps_if (PW.pt (pw_or (pt_cmpR op_notIn_seq (pv 1) (pv 3) (by rfl)) (pw_or1 (pt_cmpR op_notIn_seq (pv 2) (pv 3) (by rfl))))) pss_any pss_nil)
      (pss_one (ps_if (pt_cmpR op_eq (pv 1) (pv 2) (nomark _)) pss_any pss_nil))), ?_⟩
    refine ⟨_, rfl, _, rfl, p, _, rfl, hS, rfl, flat_str _, _, rfl, ?_⟩
    rw [inV_str h1]
    refine iteF ⟨_, rfl, _, rfl, p, _, rfl, hS, rfl, flat_str _, _, rfl, ?_⟩
    rw [inV_str h2]
    refine iteF ?_
    refine ⟨_, rfl, _, rfl, rfl, _, rfl, ?_⟩
    rw [decide_eq_false (fun q => h3 (V.str.inj q))]
    exact iteF k
theorem G__as_bounds (T : Txt K mg a) : FnOk P w K mg base CX0 1 a.f__as_bounds a.d__as_bounds ["bounds"] sp__as_bounds := by
  refine T.F__as_bounds.ok sc__as_bounds (fun vs H Q E h => ?_) (fun cdv A outer s H vs Q E hr h => ?_)
  · obtain ⟨rfl, _⟩ := h
    rfl
  · obtain ⟨rfl, k⟩ := h
    refine ⟨_, pss_cons (ps_if (pt_cmpR op_isN (pv 0) pe_non (nomark _)) (pss_one (ps_ret pe_non)) pss_nil) pss_any, ?_⟩
    exact ⟨_, rfl, rfl, _, rfl, iteT k⟩
theorem G_link_names (T : Txt K mg a) : FnOk P w K mg base CX0 1 a.f_link_names a.d_link_names ["self"] (sp_link_names K a.C) := by
  refine T.F_link_names.ok sc_link_names (fun vs H Q E h => ?_) (fun cdv A outer s H vs Q E hr h => ?_)
  · obtain ⟨x, dx, fs, l, rows, ns, rfl, _⟩ := h
    rfl
  · obtain ⟨x, dx, fs, l, rows, ns, rfl, hx, hf, hl, hlen, hmax, hr2, k⟩ := h
    refine ⟨_, (pss_one (ps_ret (pe_callTy call_tuple_of (by rfl) T.z_tuple (by decide +kernel) (pa_cons (pe_lc (own := [("link", 1)]) (g := gName 1) (tt := tYes) rfl sc_link_names.nd (pi_tup (pe_fld (pv 0) rfl)) (blkOk_by (N := ["self", "link"]) (sc := defScope s_link_names) (by decide +kernel)) (fun _ _ _ _ _ => pg_name (i := 1) sc_link_names.nd rfl (Or.inl rfl)) (fun _ _ _ _ _ => pts_nil) (fun _ _ _ _ _ => (pe_ix (show IxR _ (rIxT K) from ix_tup) (pv 1) pe_int (fun _ _ => rfl)))) pa_nil)))), ?_⟩
    refine ⟨_, rfl, x, _, dx, fs, _, rfl, hx, T.cl, T.nL, hf, l, rfl, ⟨_, hl⟩, fun D hD => lcY_tup (K := K) (a := l) (xs := rows) (fun i H' => Ex H H' ∧ H' D = some (.lst ((ns.take i).map V.str))) ⟨Ex.new hD, upd_same⟩ (fun i H' _ p => ex_t p.1 hl) (fun i r H' hi p => ?_) (fun H' p => ?_)⟩
    · obtain ⟨n, hn, t, rest, rfl, hT⟩ := hr2 i r hi
      have hil : i < rows.length := (List.getElem?_eq_some_iff.mp hi).1
      refine ⟨rfl, _, rfl, t, _, 0, .str n, rfl, rfl, ex_t p.1 hT, atI_nat (j := 0) rfl, _, p.2, sz_lt (by rw [List.length_map, List.length_take]; omega), Ex.mut p.1 hD, ?_⟩
      rw [upd_same, List.take_add_one, hn, List.map_append]
      rfl
    · rw [hlen, List.take_length] at p
      refine ⟨D, _, rfl, .inl ⟨SqL.of p.2, fun q hq => ?_⟩⟩
      exact k _ q (p.1.trans (Ex.new hq)) (fresh_back p.1 hq) upd_same
end
end K8

set_option Elab.async false
set_option linter.all false
set_option maxRecDepth 100000
set_option maxHeartbeats 4000000
namespace K8
open PySem PySem.Spec PyProof.Rows L2 EvS Evl
theorem ShutAt.ex {K : PySem.W.Frag} {H H' : Hp} {v : V} {n o t : Str} {m : Nat} (e : Ex H H') (h : ShutAt K H v n o t m) : ShutAt K H' v n o t m := by
  obtain ⟨b, u, rfl, h1, h2⟩ := h
  exact ⟨b, u, rfl, ex_t e h1, ex_l e h2⟩
theorem MadeAt.ex {K : PySem.W.Frag} {H H' : Hp} {v : V} {n : Str} (e : Ex H H') (h : MadeAt K H v n) : MadeAt K H' v n := by
  obtain ⟨b, u, rfl, h1⟩ := h
  exact ⟨b, u, rfl, ex_t e h1⟩
section
variable {P : Program} {w : World} {K : PySem.W.Frag} {mg : Str → Option Value} {base : Heap} {a : Ad}
theorem G__as_link (T : Txt K mg a) : FnOk P w K mg base CX0 2 a.f__as_link a.d__as_link ["link", "winds", "places"] (sp__as_link K) := by
  refine T.F__as_link.ok sc__as_link (fun vs H Q E h => ?_) (fun cdv A outer s H vs Q E hr h => ?_)
  · obtain ⟨v, n, one, other, wi, pl, ws, ps, rfl, _⟩ := h
    rfl
  · obtain ⟨v, n, one, other, wi, pl, ws, ps, rfl, hv, hW, hP, m1, m2, m3, hmax, k⟩ := h
    obtain ⟨t, u, rfl, hT, hU⟩ := hv
    have hlr : (List.replicate ws.length V.non).length = ws.length := List.length_replicate ..
    refine ⟨_, (pss_cons (ps_if (pt_cmpR op_ne (pe_callB call_len_seq (by rfl) T.z_len PySem.boot_len (pa_cons (pv 0) pa_nil)) pe_int (nomark _)) pss_any pss_nil)
      (pss_cons (ps_asg (pv 0) (pg_tup (by rfl) (pgs_cons (pg_name (i := 3) sc__as_link.nd rfl (Or.inl rfl)) (pgs_cons (pg_name (i := 4) sc__as_link.nd rfl (Or.inl rfl)) (pgs_cons (pg_name (i := 5) sc__as_link.nd rfl (Or.inl rfl)) (pgs_cons (pg_name (i := 6) sc__as_link.nd rfl (Or.inl rfl)) pgs_nil))))))
      (pss_cons (ps_expr (pe_call (G__check_ends T) (hr.mono (by decide)) (by rfl) T.g__check_ends T.k__check_ends T.B__check_ends .nil pass0 (pa_cons pe_str (pa_cons (pv 4) (pa_cons (pv 5) (pa_cons (pv 2) pa_nil))))))
      (pss_cons (ps_if (pt_cmpR op_ne (pe_callB call_len_seq (by rfl) T.z_len PySem.boot_len (pa_cons (pv 6) pa_nil)) (pe_callB call_len_seq (by rfl) T.z_len PySem.boot_len (pa_cons (pv 1) pa_nil)) (nomark _)) pss_any pss_nil)
      (pss_one (ps_ret (pe_tup (pa_cons (pv 3) (pa_cons (pv 4) (pa_cons (pv 5) (pa_cons (pe_callTy call_tuple_of (by rfl) T.z_tuple (by decide +kernel) (pa_cons (pe_lc (own := [("bounds", 7)]) (g := gName 7) (tt := tYes) rfl sc__as_link.nd (pi_list (pv 6)) (blkOk_by (N := ["link", "winds", "places", "name", "one", "other", "times", "bounds"]) (sc := defScope s__as_link) (by decide +kernel)) (fun _ _ _ _ _ => pg_name (i := 7) sc__as_link.nd rfl (Or.inl rfl)) (fun _ _ _ _ _ => pts_nil) (fun _ _ _ _ _ => (pe_call (G__as_bounds T) (hr.mono (by decide)) (by rfl) T.g__as_bounds T.k__as_bounds T.B__as_bounds .nil pass0 (pa_cons (pv 7) pa_nil)))) pa_nil)) pa_nil))))))))))), ?_⟩
    refine ⟨_, rfl, t, _, rfl, .inr hT, rfl, _, rfl, iteNS rfl ?_⟩
    refine ⟨_, rfl, t, _, rfl, hT, rfl, _, _, rfl, _, _, rfl, _, _, rfl, _, _, rfl, rfl, ?_⟩
    refine ⟨_, rfl, _, rfl, _, rfl, _, one, other, pl, ps, rfl, hP, m1, m2, m3, ?_⟩
    refine ⟨_, rfl, u, _, rfl, .inl hU, _, rfl, wi, _, rfl, hW, rfl, _, rfl, iteNS (by rw [hlr]) ?_⟩
    refine ⟨_, rfl, _, rfl, _, rfl, _, rfl, u, rfl, ⟨_, hU⟩, fun D hD => lcY_list (K := K) (a := u) (xs := List.replicate ws.length V.non) (fun i H' => Ex H H' ∧ H' D = some (.lst (List.replicate i V.non))) ⟨Ex.new hD, upd_same⟩ (fun i H' _ p => ex_l p.1 hU) (fun i y H' hi p => ?_) (fun H' p => ?_)⟩
    · obtain ⟨hlt, ey⟩ := List.getElem?_eq_some_iff.mp hi
      rw [List.getElem_replicate] at ey
      subst ey
      refine ⟨rfl, _, rfl, rfl, _, p.2, sz_lt (by rw [List.length_replicate]; rw [hlr] at hlt; omega), Ex.mut p.1 hD, ?_⟩
      rw [upd_same, List.replicate_succ'] <;> rfl
    · refine ⟨D, _, rfl, .inl ⟨SqL.of p.2, fun q hq => ⟨by show 4 ≤ sizeLine; decide, fun r hr0 => ?_⟩⟩⟩
      refine k _ r ((p.1.trans (Ex.new hq)).trans (Ex.new hr0)) (fresh_back (p.1.trans (Ex.new hq)) hr0) ⟨r, _, rfl, st_of upd_same⟩
theorem G__check_single_paths (T : Txt K mg a) : FnOk P w K mg base CX0 1 a.f__check_single_paths a.d__check_single_paths ["paths"] (sp__check_single_paths K) := by
  refine T.F__check_single_paths.ok sc__check_single_paths (fun vs H Q E h => ?_) (fun cdv A outer s H vs Q E hr h => ?_)
  · obtain ⟨p, rfl, _⟩ := h
    rfl
  · obtain ⟨p, rfl, hT, k⟩ := h
    refine ⟨_, (pss_cons (ps_setLc (i := 1) (own := [("one", 2), ("other", 3), ("_", 4)]) (g := gTup K 3 (gCons (gName 2) (gCons (gName 3) (gCons (gName 4) gNil)))) (tt := tYes) (te := fun _ _ _ => False) rfl sc__check_single_paths.nd rfl rfl (sw_true rfl rfl rfl (by decide +kernel)) (pi_tup (pv 0)) (blkOk_by (N := ["paths", "ends", "one", "other", "_"]) (sc := defScope s__check_single_paths) (by decide +kernel))
        (fun _ _ _ _ _ => (pg_tup (by rfl) (pgs_cons (pg_name (i := 2) sc__check_single_paths.nd rfl (Or.inl rfl)) (pgs_cons (pg_name (i := 3) sc__check_single_paths.nd rfl (Or.inl rfl)) (pgs_cons (pg_name (i := 4) sc__check_single_paths.nd rfl (Or.inl rfl)) pgs_nil))))) (fun _ _ _ _ _ => pts_nil) (fun _ _ _ _ _ => pe_any))
      (pss_one (ps_if (pt_cmpR op_ne (pe_lenSetS rfl (by rfl) T.z_len (by rfl) T.z_set (pv 1)) (pe_callB call_len_seq (by rfl) T.z_len PySem.boot_len (pa_cons (pv 1) pa_nil)) (nomark _)) pss_any pss_nil))), ?_⟩
    refine ⟨_, rfl, p, rfl, ⟨_, hT⟩, fun D hD => lcY_tup (te := fun _ _ _ => False) (K := K) (a := p) (xs := []) (fun i H' => Ex H H' ∧ H' D = some (.lst [])) ⟨Ex.new hD, upd_same⟩ (fun i H' _ q => ex_t q.1 hT) (fun i y H' hi q => by simp at hi) (fun H' q => ?_)⟩
    refine ⟨_, rfl, D, [], rfl, .inl (SqL.of q.2), by decide, _, rfl, D, _, rfl, .inl (SqL.of q.2), rfl, _, rfl, ?_⟩
    exact iteNS rfl (k _ q.1)
/-- a new land: its fields as they are when it is made -/
def landFs (wi pl li pa : Addr) : List (Str × V) := putF "paths" (.ref pa) (putF "links" (.ref li) (putF "places" (.ref pl) (putF "winds" (.ref wi) [])))
/-- a land with shut links and no paths -/
def LandAt (K : PySem.W.Frag) (C : Addr) (H : Hp) (x : Addr) (ws ps : List Str) (m : Nat) : Prop := ∃ (dx wi pl li pa : Addr) (rows : List V), H x = some (.ins C dx (landFs wi pl li pa)) ∧ SqT K H wi (ws.map V.str) ∧ SqT K H pl (ps.map V.str) ∧ SqT K H li rows ∧ rows.length = m
def sp_init (K : PySem.W.Frag) (C IL : Addr) : Sp := fun vs H Q E => ∃ (H0 : Hp) (x dx wi pl li pa : Addr) (ws ps ns : List Str) (rows : List V), vs = [.ref x, .ref wi, .ref pl, .ref li, .ref pa] ∧ Ex H0 H ∧ H0 x = none ∧ H x = some (.ins C dx []) ∧
  SqL K H0 wi (ws.map V.str) ∧ SqL K H0 pl (ps.map V.str) ∧ SqL K H0 li rows ∧ SqT K H0 pa [] ∧ 1 ≤ ws.length ∧ ws.length ≤ 4 ∧ 1 ≤ ps.length ∧ ps.length ≤ 24 ∧ rows.length ≤ 60 ∧ rows.length = ns.length ∧ (∀ n ∈ ws ++ ps ++ ns, n.length ≤ 1000) ∧
  (∀ (i : Nat) (r : V), rows[i]? = some r → ∃ n one other, ns[i]? = some n ∧ ShutAt K H0 r n one other ws.length ∧ one ∈ ps ∧ other ∈ ps ∧ one ≠ other) ∧
  (Good ws → Good ps → Good ns → ∀ H', Ex H0 H' → LandAt K C H' x ws ps rows.length → Q .non H') ∧ (¬ (Good ws ∧ Good ps ∧ Good ns) → ∀ H', Ex H0 H' → E (.ref IL) none H')
end
end K8

set_option Elab.async false
set_option linter.all false
set_option maxRecDepth 100000
set_option maxHeartbeats 4000000
namespace K8
open PySem PySem.Spec PyProof.Rows L2 EvS Evl
section
variable {P : Program} {w : World} {K : PySem.W.Frag} {mg : Str → Option Value} {base : Heap} {a : Ad}
theorem G_init (T : Txt K mg a) : FnOk P w K mg base (L2.CX P w) 3 a.f_init a.d_init ["self", "winds", "places", "links", "paths"] (sp_init K a.C a.IL) := by
  refine T.F_init.ok sc_init (fun vs H Q E h => ?_) (fun cdv A outer s H vs Q E hr h => ?_)
  · obtain ⟨H0, x, dx, wi, pl, li, pa, ws, ps, ns, rows, rfl, _⟩ := h
    rfl
  · obtain ⟨H0, x, dx, wi, pl, li, pa, ws, ps, ns, rows, rfl, e0, x0, hx, hW, hP, hL, hA, w1, w4, p1, p24, r60, hrn, hlen, hlk, k1, k2⟩ := h
    have lw : (ws.map V.str).length = ws.length := List.length_map ..
    have lp : (ps.map V.str).length = ps.length := List.length_map ..
    have lenW : ∀ n ∈ ws, n.length ≤ 1000 := fun n hn => hlen n (List.mem_append_left _ (List.mem_append_left _ hn))
    have lenP : ∀ n ∈ ps, n.length ≤ 1000 := fun n hn => hlen n (List.mem_append_left _ (List.mem_append_right _ hn))
    have lenN : ∀ n ∈ ns, n.length ≤ 1000 := fun n hn => hlen n (List.mem_append_right _ hn)
    refine ⟨_, (pss_cons (ps_expr (pe_call (G__check_count T) (hr.mono (by decide)) (by rfl) T.g__check_count T.k__check_count T.B__check_count .nil pass0 (pa_cons pe_str (pa_cons (pv 1) (pa_cons pe_int (pa_cons (pe_gI rfl T.c_MOST_WINDS) pa_nil))))))
      (pss_cons (ps_expr (pe_call (G__check_names T) (hr.mono (by decide)) (by rfl) T.g__check_names T.k__check_names T.B__check_names .nil (passes_call (W := fun cls d _ H => E cls d H) (takes_of rfl rfl rfl rfl) (fun _ _ _ _ z => z)) (pa_cons pe_str (pa_cons (pv 1) pa_nil))))
      (pss_cons (ps_expr (pe_call (G__check_count T) (hr.mono (by decide)) (by rfl) T.g__check_count T.k__check_count T.B__check_count .nil pass0 (pa_cons pe_str (pa_cons (pv 2) (pa_cons pe_int (pa_cons (pe_gI rfl T.c_MOST_PLACES) pa_nil))))))
      (pss_cons (ps_expr (pe_call (G__check_names T) (hr.mono (by decide)) (by rfl) T.g__check_names T.k__check_names T.B__check_names .nil (passes_call (W := fun cls d _ H => E cls d H) (takes_of rfl rfl rfl rfl) (fun _ _ _ _ z => z)) (pa_cons pe_str (pa_cons (pv 2) pa_nil))))
      (pss_cons (ps_expr (pe_call (G__check_count T) (hr.mono (by decide)) (by rfl) T.g__check_count T.k__check_count T.B__check_count .nil pass0 (pa_cons pe_str (pa_cons (pv 3) (pa_cons pe_int (pa_cons (pe_gI rfl T.c_MOST_LINKS) pa_nil))))))
      (pss_cons (ps_expr (pe_call (G__check_count T) (hr.mono (by decide)) (by rfl) T.g__check_count T.k__check_count T.B__check_count .nil pass0 (pa_cons pe_str (pa_cons (pv 4) (pa_cons pe_int (pa_cons (pe_gI rfl T.c_MOST_PATHS) pa_nil))))))
      (pss_cons (ps_fld (pv 0) (pe_callTy call_tuple_of (by rfl) T.z_tuple (by decide +kernel) (pa_cons (pv 1) pa_nil)) rfl)
      (pss_cons (ps_fld (pv 0) (pe_callTy call_tuple_of (by rfl) T.z_tuple (by decide +kernel) (pa_cons (pv 2) pa_nil)) rfl)
      (pss_cons (ps_fld (pv 0) (pe_callTy call_tuple_of (by rfl) T.z_tuple (by decide +kernel) (pa_cons (pe_lc (own := [("link", 5)]) (g := gName 5) (tt := tYes) rfl sc_init.nd (pi_list (pv 3)) (blkOk_by (N := ["self", "winds", "places", "links", "paths", "link", "path"]) (sc := defScope s_init) (by decide +kernel)) (fun _ _ _ _ _ => pg_name (i := 5) sc_init.nd rfl (Or.inl rfl)) (fun _ _ _ _ _ => pts_nil) (fun _ _ _ _ _ => (pe_call (G__as_link T) (hr.mono (by decide)) (by rfl) T.g__as_link T.k__as_link T.B__as_link .nil pass0 (pa_cons (pv 5) (pa_cons (show PE _ _ (tFld K (tVar 0) "winds") from pe_fld (pv 0) rfl) (pa_cons (show PE _ _ (tFld K (tVar 0) "places") from pe_fld (pv 0) rfl) pa_nil)))))) pa_nil)) rfl)
      (pss_cons (ps_expr (pe_call (G__check_names T) (hr.mono (by decide)) (by rfl) T.g__check_names T.k__check_names T.B__check_names .nil (passes_call (W := fun cls d _ H => E cls d H) (takes_of rfl rfl rfl rfl) (fun _ _ _ _ z => z)) (pa_cons pe_str (pa_cons (pe_prop (pv 0) T.cl T.p_link_names (G_link_names T) (hr.mono (by decide)) T.B_link_names .nil pass0 rfl) pa_nil))))
      (pss_cons (ps_fld (pv 0) (pe_callTy call_tuple_of (by rfl) T.z_tuple (by decide +kernel) (pa_cons (pe_lc (own := [("path", 6)]) (g := gName 6) (te := fun _ _ _ => False) (tt := tYes) rfl sc_init.nd (pi_tup (pv 4)) (blkOk_by (N := ["self", "winds", "places", "links", "paths", "link", "path"]) (sc := defScope s_init) (by decide +kernel)) (fun _ _ _ _ _ => pg_name (i := 6) sc_init.nd rfl (Or.inl rfl)) (fun _ _ _ _ _ => pts_nil) (fun _ _ _ _ _ => pe_any)) pa_nil)) rfl)
      (pss_one (ps_expr (pe_call (G__check_single_paths T) (hr.mono (by decide)) (by rfl) T.g__check_single_paths T.k__check_single_paths T.B__check_single_paths .nil pass0 (pa_cons (pe_fld (pv 0) rfl) pa_nil))))))))))))))), ?_⟩
    -- winds
    refine ⟨_, rfl, _, wi, _, _, _, rfl, .inl (ex_l e0 hW), by rw [lw]; omega, by rw [lw]; omega, ?_⟩
    refine ⟨_, rfl, _, wi, ws, rfl, .inl (ex_l e0 hW), by decide +kernel, by omega, lenW, fun gW H1 e1 => ?_, fun b H' e => k2 (fun g => b g.1) H' (e0.trans e)⟩
    have f1 : Ex H0 H1 := e0.trans e1
    -- places
    refine ⟨_, rfl, _, pl, _, _, _, rfl, .inl (ex_l f1 hP), by rw [lp]; omega, by rw [lp]; omega, ?_⟩
    refine ⟨_, rfl, _, pl, ps, rfl, .inl (ex_l f1 hP), by decide +kernel, by omega, lenP, fun gP H2 e2 => ?_, fun b H' e => k2 (fun g => b g.2.1) H' (f1.trans e)⟩
    have f2 : Ex H0 H2 := f1.trans e2
    have hx2 : H2 x = some (.ins a.C dx []) := e2 _ _ (e1 _ _ hx)
    -- links, paths: how many
    refine ⟨_, rfl, _, li, _, _, _, rfl, .inl (ex_l f2 hL), by omega, by omega, ?_⟩
    refine ⟨_, rfl, _, pa, _, _, _, rfl, .inr (ex_t f2 hA), by show (0 : Int) ≤ 0; decide, by show (0 : Int) ≤ 60; decide, ?_⟩
    -- self.winds
    refine ⟨_, rfl, wi, _, rfl, .inl ⟨ex_l f2 hW, fun u hu => ?_⟩⟩
    have nxu : x ≠ u := ne_of_none hx2 hu
    refine ⟨_, rfl, x, a.C, dx, [], rfl, by rw [upd_ne nxu]; exact hx2, T.cl, T.nW, by show 0 < 1000; decide, ?_⟩
    have hu0 : H0 u = none := fresh_back f2 hu
    have f3 : Ex H0 (upd (upd H2 u (.tup (ws.map V.str))) x (.ins a.C dx (putF "winds" (.ref u) []))) := Ex.mut (f2.trans (Ex.new hu)) x0
    have hu3 : (upd (upd H2 u (.tup (ws.map V.str))) x (.ins a.C dx (putF "winds" (.ref u) []))) u = some (.tup (ws.map V.str)) := by rw [upd_ne nxu.symm, upd_same]
    have hx3 : (upd (upd H2 u (.tup (ws.map V.str))) x (.ins a.C dx (putF "winds" (.ref u) []))) x = some (.ins a.C dx (putF "winds" (.ref u) [])) := upd_same
    generalize upd (upd H2 u (.tup (ws.map V.str))) x (.ins a.C dx (putF "winds" (.ref u) [])) = H3 at f3 hu3 hx3
    -- self.places
    refine ⟨_, rfl, pl, _, rfl, .inl ⟨ex_l f3 hP, fun q hq => ?_⟩⟩
    have nxq : x ≠ q := ne_of_none hx3 hq
    have nuq : u ≠ q := ne_of_none hu3 hq
    refine ⟨_, rfl, x, a.C, dx, _, rfl, by rw [upd_ne nxq]; exact hx3, T.cl, T.nP, by show 1 < 1000; decide, ?_⟩
    have f4 : Ex H0 (upd (upd H3 q (.tup (ps.map V.str))) x (.ins a.C dx (putF "places" (.ref q) (putF "winds" (.ref u) [])))) := Ex.mut (f3.trans (Ex.new hq)) x0
    have nux : u ≠ x := nxu.symm
    have hu4 : (upd (upd H3 q (.tup (ps.map V.str))) x (.ins a.C dx (putF "places" (.ref q) (putF "winds" (.ref u) [])))) u = some (.tup (ws.map V.str)) := by rw [upd_ne nux, upd_ne nuq]; exact hu3
    have hq4 : (upd (upd H3 q (.tup (ps.map V.str))) x (.ins a.C dx (putF "places" (.ref q) (putF "winds" (.ref u) [])))) q = some (.tup (ps.map V.str)) := by rw [upd_ne nxq.symm, upd_same]
    have hx4 : (upd (upd H3 q (.tup (ps.map V.str))) x (.ins a.C dx (putF "places" (.ref q) (putF "winds" (.ref u) [])))) x = some (.ins a.C dx (putF "places" (.ref q) (putF "winds" (.ref u) []))) := upd_same
    generalize upd (upd H3 q (.tup (ps.map V.str))) x (.ins a.C dx (putF "places" (.ref q) (putF "winds" (.ref u) []))) = H4 at f4 hu4 hq4 hx4
    have nWP : ¬ (("winds" : Str) = "places") := by decide +kernel
    have nPW : ¬ (("places" : Str) = "winds") := by decide +kernel
    have lkW : (putF "places" (.ref q) (putF "winds" (.ref u) [])).lookup ("winds" : Str) = some (V.ref u) := by
      rw [lookup_putF, if_neg nWP, lookup_putF, if_pos rfl]
    have lkP : (putF "places" (.ref q) (putF "winds" (.ref u) [])).lookup ("places" : Str) = some (V.ref q) := by
      rw [lookup_putF, if_pos rfl]
    -- self.links
    refine ⟨_, rfl, li, rfl, ⟨_, ex_l f4 hL⟩, fun D hD => lcY_list (K := K) (a := li) (xs := rows) (fun i H' => Ex H4 H' ∧ ∃ made : List V, H' D = some (.lst made) ∧ made.length = i ∧ ∀ (j : Nat) (r : V), made[j]? = some r → ∃ n : Str, ns[j]? = some n ∧ MadeAt K H' r n)
      ⟨Ex.new hD, [], upd_same, rfl, fun j r hj => by simp at hj⟩ (fun i H' _ p => ex_l (f4.trans p.1) hL) (fun i r H' hi p => ?_) (fun H5 p => ?_)⟩
    · obtain ⟨e5, made, hD5, hml, hmade⟩ := p
      obtain ⟨n, one, other, hn, hS, m1, m2, m3⟩ := hlk i r hi
      have hil : i < rows.length := (List.getElem?_eq_some_iff.mp hi).1
      have hx5 := e5 _ _ hx4
      refine ⟨rfl, _, rfl, _, rfl, x, a.C, dx, _, _, rfl, hx5, T.cl, T.nW, lkW, _, rfl, x, a.C, dx, _, _, rfl, hx5, T.cl, T.nP, lkP, ?_⟩
      refine ⟨r, n, one, other, u, q, ws.map V.str, ps, rfl, by rw [lw]; exact hS.ex (f4.trans e5), .inr (st_of (e5 _ _ hu4)), .inr (st_of (e5 _ _ hq4)), m1, m2, m3, by rw [lw]; omega, fun H6 t e6 ht hM => ?_⟩
      have hD6 := e6 _ _ hD5
      refine ⟨made, hD6, sz_lt (by omega), Ex.mut (e5.trans e6) hD, made ++ [.ref t], upd_same, by rw [List.length_append, hml] <;> rfl, fun j r' hj => ?_⟩
      have ee : Ex H' (upd H6 D (.lst (made ++ [.ref t]))) ∨ True := .inr trivial
      have mk : ∀ {r0 : V} {n0 : Str}, MadeAt K H6 r0 n0 → MadeAt K (upd H6 D (.lst (made ++ [.ref t]))) r0 n0 := fun {r0 n0} hm => by
        obtain ⟨b, rest, rfl, hb⟩ := hm
        refine ⟨b, rest, rfl, ?_⟩
        rcases hb with (hb | ⟨o, hb⟩) | hb
        · exact .inl (.inl (by rw [upd_ne (ne_of hb hD6 (by intro z; cases z))]; exact hb))
        · exact .inl (.inr ⟨o, by rw [upd_ne (ne_of hb hD6 (by intro z; cases z))]; exact hb⟩)
        · exact .inr hb
      by_cases hji : j < made.length
      · rw [List.getElem?_append_left hji] at hj
        obtain ⟨n', hn', hm'⟩ := hmade j r' hj
        exact ⟨n', hn', mk (hm'.ex e6)⟩
      · rw [List.getElem?_append_right (by omega)] at hj
        have hj0 : j = i := by
          have := (List.getElem?_eq_some_iff.mp hj).1
          rw [List.length_singleton] at this
          omega
        subst hj0
        rw [hml, Nat.sub_self] at hj
        have : r' = .ref t := (Option.some.inj hj).symm
        subst this
        exact ⟨n, hn, mk hM⟩
    · obtain ⟨e5, made, hD5, hml, hmade⟩ := p
      refine ⟨D, _, rfl, .inl ⟨SqL.of hD5, fun v hv => ?_⟩⟩
      have hx5 := e5 _ _ hx4
      have hu5 := e5 _ _ hu4
      have hq5 := e5 _ _ hq4
      have nxv : x ≠ v := ne_of_none hx5 hv
      have nuv : u ≠ v := ne_of_none hu5 hv
      have nqv : q ≠ v := ne_of_none hq5 hv
      refine ⟨_, rfl, x, a.C, dx, _, rfl, by rw [upd_ne nxv]; exact hx5, T.cl, T.nL, by show 2 < 1000; decide, ?_⟩
      have f6 : Ex H0 (upd (upd H5 v (.tup made)) x (.ins a.C dx (putF "links" (.ref v) (putF "places" (.ref q) (putF "winds" (.ref u) []))))) := Ex.mut ((f4.trans e5).trans (Ex.new hv)) x0
      have nqx : q ≠ x := nxq.symm
      have hu6 : (upd (upd H5 v (.tup made)) x (.ins a.C dx (putF "links" (.ref v) (putF "places" (.ref q) (putF "winds" (.ref u) []))))) u = some (.tup (ws.map V.str)) := by rw [upd_ne nux, upd_ne nuv]; exact hu5
      have hq6 : (upd (upd H5 v (.tup made)) x (.ins a.C dx (putF "links" (.ref v) (putF "places" (.ref q) (putF "winds" (.ref u) []))))) q = some (.tup (ps.map V.str)) := by rw [upd_ne nqx, upd_ne nqv]; exact hq5
      have hv6 : (upd (upd H5 v (.tup made)) x (.ins a.C dx (putF "links" (.ref v) (putF "places" (.ref q) (putF "winds" (.ref u) []))))) v = some (.tup made) := by rw [upd_ne nxv.symm, upd_same]
      have hx6 : (upd (upd H5 v (.tup made)) x (.ins a.C dx (putF "links" (.ref v) (putF "places" (.ref q) (putF "winds" (.ref u) []))))) x = some (.ins a.C dx (putF "links" (.ref v) (putF "places" (.ref q) (putF "winds" (.ref u) [])))) := upd_same
      have hm6 : ∀ (j : Nat) (r : V), made[j]? = some r → ∃ n : Str, ns[j]? = some n ∧ MadeAt K (upd (upd H5 v (.tup made)) x (.ins a.C dx (putF "links" (.ref v) (putF "places" (.ref q) (putF "winds" (.ref u) []))))) r n := fun j r hj => by
        obtain ⟨n, hn, hm⟩ := hmade j r hj
        refine ⟨n, hn, ?_⟩
        obtain ⟨b, rest, rfl, hb⟩ := hm.ex (Ex.new hv)
        have hxv : (upd H5 v (.tup made)) x = some (.ins a.C dx (putF "places" (.ref q) (putF "winds" (.ref u) []))) := by rw [upd_ne nxv]; exact hx5
        refine ⟨b, rest, rfl, ?_⟩
        rcases hb with (hb | ⟨o, hb⟩) | hb
        · exact .inl (.inl (by rw [upd_ne (ne_of hb hxv (by intro z; cases z))]; exact hb))
        · exact .inl (.inr ⟨o, by rw [upd_ne (ne_of hb hxv (by intro z; cases z))]; exact hb⟩)
        · exact .inr hb
      generalize upd (upd H5 v (.tup made)) x (.ins a.C dx (putF "links" (.ref v) (putF "places" (.ref q) (putF "winds" (.ref u) [])))) = H6 at f6 hu6 hq6 hv6 hx6 hm6
      have lkL : (putF "links" (.ref v) (putF "places" (.ref q) (putF "winds" (.ref u) []))).lookup ("links" : Str) = some (V.ref v) := by
        rw [lookup_putF, if_pos rfl]
      -- _check_names('links', self.link_names)
      refine ⟨_, rfl, x, dx, _, rfl, hx6, x, dx, _, v, made, ns, rfl, hx6, lkL, st_of hv6, by omega, by omega, hm6, fun H7 t e7 ht hT => ?_⟩
      refine ⟨_, t, ns, rfl, .inr (st_of hT), by decide +kernel, by omega, lenN, fun gN H8 e8 => ?_, fun b H' e => k2 (fun g => b g.2.2) H' ((f6.trans e7).trans e)⟩
      have f8 : Ex H0 H8 := (f6.trans e7).trans e8
      have hx8 := e8 _ _ (e7 _ _ hx6)
      -- self.paths
      refine ⟨_, rfl, pa, rfl, ⟨_, ex_t f8 hA⟩, fun D2 hD2 => lcY_tup (te := fun _ _ _ => False) (K := K) (a := pa) (xs := []) (fun i H' => Ex H8 H' ∧ H' D2 = some (.lst [])) ⟨Ex.new hD2, upd_same⟩ (fun i H' _ p => ex_t (f8.trans p.1) hA) (fun i y H' hi p => by simp at hi) (fun H9 p => ?_)⟩
      obtain ⟨e9, hD9⟩ := p
      refine ⟨D2, _, rfl, .inl ⟨SqL.of hD9, fun y hy => ?_⟩⟩
      have hx9 := e9 _ _ hx8
      have nxy : x ≠ y := ne_of_none hx9 hy
      refine ⟨_, rfl, x, a.C, dx, _, rfl, by rw [upd_ne nxy]; exact hx9, T.cl, T.nA, by show 3 < 1000; decide, ?_⟩
      have up : ∀ {b : Addr} {o : HO}, H6 b = some o → o ≠ .ins a.C dx (putF "links" (.ref v) (putF "places" (.ref q) (putF "winds" (.ref u) []))) → (upd (upd H9 y (.tup [])) x (.ins a.C dx (landFs u q v y))) b = some o := fun {b o} hb ho => by
        have h9 : H9 b = some o := e9 _ _ (e8 _ _ (e7 _ _ hb))
        rw [upd_ne (ne_of h9 hx9 ho), upd_ne (ne_of_none h9 hy)]
        exact h9
      have f10 : Ex H0 (upd (upd H9 y (.tup [])) x (.ins a.C dx (landFs u q v y))) := Ex.mut ((f8.trans e9).trans (Ex.new hy)) x0
      refine ⟨_, rfl, x, a.C, dx, landFs u q v y, _, rfl, upd_same, T.cl, T.nA, (by unfold landFs; rw [lookup_putF, if_pos rfl]), y, rfl, st_of (by rw [upd_ne nxy.symm, upd_same]), fun H11 e11 => ?_⟩
      refine k1 gW gP gN H11 (f10.trans e11) ⟨dx, u, q, v, y, made, e11 _ _ upd_same, st_of (e11 _ _ (up hu6 (by intro z; cases z))), st_of (e11 _ _ (up hq6 (by intro z; cases z))), st_of (e11 _ _ (up hv6 (by intro z; cases z))), by omega⟩
end
end K8

set_option Elab.async false
set_option linter.all false
set_option maxRecDepth 100000
set_option maxHeartbeats 4000000
namespace K8
open PySem PySem.Spec PyProof.Rows L2 EvS Evl
theorem sign_small : ∀ c ∈ LETS ++ DIGS, c < 1114112 := by decide +kernel
theorem name_strOk {z : Str} (h : isName z = true) : PyData.strOk z = true := by
  unfold isName at h
  rw [Bool.and_eq_true] at h
  unfold PyData.strOk
  rw [Array.all_eq_true_iff_forall_mem]
  intro c hc
  have q := List.all_eq_true.mp h.2 c (Array.mem_toList_iff.mpr hc)
  unfold okSign at q
  rw [Bool.or_eq_true] at q
  refine decide_eq_true (sign_small c ?_)
  rcases q with q | q
  · exact List.mem_append_left _ (of_decide_eq_true q)
  · exact List.mem_append_right _ (of_decide_eq_true q)
theorem lay_str : ∀ ns : List Str, (∀ n ∈ ns, isName n = true) → PyData.canLayAll0 (ns.map PyData.str) = true
  | [], _ => by simp [PyData.canLayAll0]
  | n :: r, h => by
    simp only [List.map_cons, PyData.canLayAll0, PyData.canLay0]
    rw [name_strOk (h n (List.mem_cons_self ..)), lay_str r (fun x hx => h x (List.mem_cons_of_mem _ hx))]
    rfl
theorem deep_str : ∀ ns : List Str, PyData.depthAll (ns.map PyData.str) ≤ 1
  | [] => by simp [PyData.depthAll]
  | n :: r => by
    have := deep_str r
    simp only [List.map_cons, PyData.depthAll, PyData.depth]
    omega
theorem shape_str (ns : List Str) (h : ∀ n ∈ ns, isName n = true) : SeqAt.shaped (.tuple (ns.map PyData.str)) = true := by
  have h1 := deep_str ns
  have h2 : PyData.depth (.tuple (ns.map PyData.str)) ≤ 64 := by simp only [PyData.depth]; omega
  show (PyData.canLay0 (.tuple (ns.map PyData.str)) && decide (PyData.depth (.tuple (ns.map PyData.str)) ≤ 64)) = true
  rw [Bool.and_eq_true]
  exact ⟨by simp only [PyData.canLay0]; exact lay_str ns h, decide_eq_true h2⟩
theorem dp_str {K : PySem.W.Frag} {H : Hp} : ∀ ns : List Str, DpAll K H (ns.map V.str) (ns.map PyData.str)
  | [] => .nil
  | n :: r => .cons (.str n) (dp_str r)
theorem dp_tup {K : PySem.W.Frag} {H : Hp} {p : Addr} {ns : List Str} (h : SqT K H p (ns.map V.str)) : Dp K H (.ref p) (.tuple (ns.map PyData.str)) := .tup h (dp_str ns)
def sp__law_taken (K : PySem.W.Frag) : Sp := fun vs H Q _ => ∃ (wi pl li : Addr) (ws ps ns : List Str) (rows : List V), vs = [.ref wi, .ref pl, .ref li] ∧
  SqL K H wi (ws.map V.str) ∧ SqL K H pl (ps.map V.str) ∧ SqL K H li rows ∧ 1 ≤ ws.length ∧ ws.length ≤ 4 ∧ 1 ≤ ps.length ∧ ps.length ≤ 24 ∧ rows.length ≤ 60 ∧ rows.length = ns.length ∧ (∀ n ∈ ws ++ ps ++ ns, n.length ≤ 1000) ∧
  (∀ (i : Nat) (r : V), rows[i]? = some r → ∃ n one other, ns[i]? = some n ∧ ShutAt K H r n one other ws.length ∧ one ∈ ps ∧ other ∈ ps ∧ one ≠ other) ∧
  ∀ b : Bool, (b = true ↔ Good ws ∧ Good ps ∧ Good ns) → ∀ H', Ex H H' → Q (.bl b) H'
section
variable {P : Program} {w : World} {K : PySem.W.Frag} {mg : Str → Option Value} {base : Heap} {a : Ad}
theorem kb_wpl (T : Txt K mg a) : ∃ mv : List Value, KBn K a.d_init ["self", "winds", "places", "links", "paths"] 1 ["winds", "places", "links"] (fun us ws => us ++ ws ++ mv) (fun vs zs => vs ++ zs ++ [.ref a.te]) :=
  T.F_init.kbinds0 1 ["winds", "places", "links"] [("paths", .ref a.te)] (fun us mv ws => us ++ ws ++ mv) (by simp) (fun q hq => by rw [List.mem_singleton] at hq; rw [hq]; simp) (fun r1 r2 r3 => (r1.append r3).append r2)
    (fun D doc pm an cdv ct us mv ws h1 h2 h3 => match us, mv, ws, h1, h2, h3 with
      | [_], [_], [_, _, _], _, _, _ => ⟨_, _, _, _, _, _, rfl, rfl, rfl⟩)
theorem G__law_taken (T : Txt K mg a) : FnOk P w K mg base CX0 5 a.f__law_taken a.d__law_taken ["winds", "places", "links"] (sp__law_taken K) := by
  obtain ⟨mv, kb⟩ := kb_wpl T
  refine T.F__law_taken.ok sc__law_taken (fun vs H Q E h => ?_) (fun cdv A outer s H vs Q E hr h => ?_)
  · obtain ⟨wi, pl, li, ws, ps, ns, rows, rfl, _⟩ := h
    rfl
  · obtain ⟨wi, pl, li, ws, ps, ns, rows, rfl, hW, hP, hL, w1, w4, p1, p24, r60, hrn, hlen, hlk, k⟩ := h
    have k1 : Good ws ∧ Good ps ∧ Good ns → ∀ H', Ex H H' → Q (.bl true) H' := fun g => k true ⟨fun _ => g, fun _ => rfl⟩
    have k2 : ¬ (Good ws ∧ Good ps ∧ Good ns) → ∀ H', Ex H H' → Q (.bl false) H' := fun g => k false ⟨fun q => absurd q (by simp), fun q => absurd q g⟩
    refine ⟨_, pss_cons (ps_try_only (tb := fun W => tAsg (tMakeK a.C 0 3 (sp_init K a.C a.IL) (fun vs zs => vs ++ zs ++ [.ref a.te]) (fun cls d H => ∀ σ, W cls d σ H) tNil (tCons (tVar 0) (tCons (tVar 1) (tCons (tVar 2) tNil)))) (gName 3))
        (ts := fun _ _ _ => tRet (tC (.bl false))) (Wout := fun _ _ _ _ => False) rfl rfl ⟨rfl, by decide, Or.inl T.g_InvalidLand⟩ takes0
        (fun W pn xe tk _ => pss_one (ps_set (i := 3) sc__law_taken.nd rfl (Or.inl rfl) (pe_makeK0 T.mk_Land (G_init T) (hr.mono (by decide)) (by rfl) T.g_Land kb (passes_call tk (fun cls d σ H z => z σ)) (pk_cons (pv 0) (pk_cons (pv 1) (pk_cons (pv 2) pk_nil))))))
        (fun _ _ _ _ _ _ _ => pss_one (ps_ret pe_bl)))
      (pss_one (ps_ret (pe_and (pe_cmpR (op_eqD hr.units) (pe_fld (pv 3) rfl) (pe_callTy call_tuple_of (by rfl) T.z_tuple (by decide +kernel) (pa_cons (pv 0) pa_nil)) (nomark _))
        (pe_and (pe_cmpR (op_eqD hr.units) (pe_fld (pv 3) rfl) (pe_callTy call_tuple_of (by rfl) T.z_tuple (by decide +kernel) (pa_cons (pv 1) pa_nil)) (nomark _))
        (pe_one (pe_cmpR op_eq (pe_callB call_len_seq (by rfl) T.z_len PySem.boot_len (pa_cons (pe_fld (pv 3) rfl) pa_nil)) (pe_callB call_len_seq (by rfl) T.z_len PySem.boot_len (pa_cons (pv 2) pa_nil)) (nomark _))))))), ?_⟩
    refine ⟨_, rfl, _, rfl, _, rfl, rfl, rfl, fun x dx nx ndx ne => ?_⟩
    have e0 : Ex H (upd (upd H dx (.own x)) x (.ins a.C dx [])) := (Ex.new ndx).mut nx
    refine ⟨H, x, dx, wi, pl, li, a.te, ws, ps, ns, rows, rfl, e0, nx, upd_same, hW, hP, hL, T.teT H, w1, w4, p1, p24, r60, hrn, hlen, hlk, fun g1 g2 g3 H1 e1 hl => ⟨rfl, ?_⟩, fun b H1 e1 σ => ⟨true, T.e_InvalidLand, fun _ a0 _ => k2 b H1 e1, fun q => nomatch q⟩⟩
    obtain ⟨dx', u, q, v, y, made, hx, hu, hq, hv, hml⟩ := hl
    have nW : ∀ {b : Str}, ("winds" : Str) ≠ b → True := fun _ => trivial
    have lW : (landFs u q v y).lookup ("winds" : Str) = some (V.ref u) := by
      unfold landFs
      rw [lookup_putF, if_neg (by decide +kernel), lookup_putF, if_neg (by decide +kernel), lookup_putF, if_neg (by decide +kernel), lookup_putF, if_pos rfl]
    have lP : (landFs u q v y).lookup ("places" : Str) = some (V.ref q) := by
      unfold landFs
      rw [lookup_putF, if_neg (by decide +kernel), lookup_putF, if_neg (by decide +kernel), lookup_putF, if_pos rfl]
    have lL : (landFs u q v y).lookup ("links" : Str) = some (V.ref v) := by
      unfold landFs
      rw [lookup_putF, if_neg (by decide +kernel), lookup_putF, if_pos rfl]
    have kt := k1 ⟨g1, g2, g3⟩
    refine ⟨_, rfl, x, a.C, dx', _, _, rfl, hx, T.cl, T.nW, lW, _, rfl, wi, _, rfl, .inl ⟨ex_l e1 hW, fun t ht => ?_⟩⟩
    have e2 : Ex H1 (upd H1 t (.tup (ws.map V.str))) := Ex.new ht
    refine ⟨_, _, dp_tup (ex_t e2 hu), dp_tup (st_of upd_same), shape_str _ g1.1, shape_str _ g1.1, ?_⟩
    rw [SeqAt.eqv_refl _ (SeqAt.canLay_of_shaped (shape_str ws g1.1))]
    refine ⟨_, rfl, iteT ?_⟩
    refine ⟨_, rfl, x, a.C, dx', _, _, rfl, e2 _ _ hx, T.cl, T.nP, lP, _, rfl, pl, _, rfl, .inl ⟨ex_l (e1.trans e2) hP, fun t2 ht2 => ?_⟩⟩
    have e3 : Ex H1 (upd (upd H1 t (.tup (ws.map V.str))) t2 (.tup (ps.map V.str))) := e2.trans (Ex.new ht2)
    refine ⟨_, _, dp_tup (ex_t e3 hq), dp_tup (st_of upd_same), shape_str _ g2.1, shape_str _ g2.1, ?_⟩
    rw [SeqAt.eqv_refl _ (SeqAt.canLay_of_shaped (shape_str ps g2.1))]
    refine ⟨_, rfl, iteT ?_⟩
    refine ⟨_, rfl, x, a.C, dx', _, _, rfl, e3 _ _ hx, T.cl, T.nL, lL, v, _, rfl, .inr (ex_t e3 hv), _, rfl, li, _, rfl, .inl (ex_l (e1.trans e3) hL), rfl, ?_⟩
    rw [hml, decide_eq_true rfl]
    exact kt _ (e1.trans e3)
end
end K8

set_option Elab.async false
set_option linter.all false
set_option maxRecDepth 100000
set_option maxHeartbeats 4000000
namespace K8
open PySem PySem.Spec PyProof.Rows L2 EvS Evl
def GOODS : Str := "abcdefghijklmnopqrstuvwxyz0123456789"
def SIGNS0 : Str := " !\"#$&'()*+,-./0123456789:;<=>?@ABCDEFGHIJKLMNOPQRSTUVWXYZ[\\]^_`"
def SIGNS : Str := SIGNS0 ++ ("abcdefghijklmnopqrstuvwxyz{|}~\n\t" : Str)
theorem goods_list : GOODS.cps.toList = LETS ++ DIGS := by decide +kernel
theorem goods_len : GOODS.length = 36 := by decide +kernel
theorem signs_len : SIGNS.length = 96 := by decide +kernel
theorem goods_ok (c : Nat) : decide (c ∈ GOODS.cps.toList) = okSign c := by
  unfold okSign
  rw [goods_list]
  by_cases h1 : c ∈ LETS
  · rw [decide_eq_true h1, decide_eq_true (List.mem_append_left _ h1)]
    rfl
  · rw [decide_eq_false h1, Bool.false_or]
    by_cases h2 : c ∈ DIGS
    · rw [decide_eq_true h2, decide_eq_true (List.mem_append_right _ h2)]
    · rw [decide_eq_false h2]
      exact decide_eq_false fun q => (List.mem_append.mp q).elim h1 h2
theorem apart : ∀ c ∈ LETS, c ∉ DIGS := by decide +kernel
/-- the law's own word for a name -/
theorem due_is {z : Str} {c : Nat} (h1 : 1 ≤ z.length) (h2 : z.length ≤ 12) (hc : z.cps.toList.head? = some c) : ((!decide (c ∈ DIGS)) && z.cps.toList.all okSign) = isName z := by
  unfold isName
  rw [decide_eq_true (show 1 ≤ z.length ∧ z.length ≤ 12 from ⟨h1, h2⟩), hc]
  show _ = (true && decide (c ∈ LETS) && _)
  rw [Bool.true_and]
  cases ha : z.cps.toList.all okSign with
  | false => rw [Bool.and_false, Bool.and_false]
  | true =>
    rw [Bool.and_true, Bool.and_true]
    have hm : c ∈ z.cps.toList := List.mem_of_head? hc
    have hk := List.all_eq_true.mp ha c hm
    unfold okSign at hk
    rw [Bool.or_eq_true] at hk
    by_cases q : c ∈ LETS
    · rw [decide_eq_true q, decide_eq_false (apart c q)]
      rfl
    · rw [decide_eq_false q]
      rcases hk with hk | hk
      · exact absurd (of_decide_eq_true hk) q
      · rw [hk]
        rfl
theorem not_name {z : Str} (h : ¬ (1 ≤ z.length ∧ z.length ≤ 12)) : isName z = false := by
  unfold isName
  rw [decide_eq_false h]
  rfl
theorem good_one {z : Str} : Good [z] ↔ isName z = true := ⟨fun g => g.1 z (List.mem_singleton.mpr rfl), fun h => ⟨fun n hn => by rw [List.mem_singleton] at hn; rw [hn]; exact h, by simp⟩⟩
theorem good_nil : Good [] := ⟨fun n hn => (by cases hn), List.nodup_nil⟩
theorem good_p : Good ["p"] := good_one.mpr (by decide +kernel)
theorem good_w : Good ["w"] := good_one.mpr (by decide +kernel)
theorem good_pq : Good ["p", "q"] := ⟨fun n hn => by
  rcases List.mem_cons.mp hn with q | q
  · rw [q]; decide +kernel
  · rw [List.mem_singleton.mp q]; decide +kernel, by decide +kernel⟩
theorem num_at {ks : List Int} {j : Nat} (h : j < ks.length) : ∃ n, atI (ks.map V.int) (j : Int) = some (.int n) := by
  refine ⟨ks[j], atI_nat ?_⟩
  rw [List.getElem?_map, List.getElem?_eq_getElem h] <;> rfl
theorem num_atI {ks : List Int} {i : Int} (h0 : 0 ≤ i) (h : i < ks.length) : ∃ n, atI (ks.map V.int) i = some (.int n) := by
  obtain ⟨n, e⟩ := num_at (ks := ks) (j := i.toNat) (by omega)
  refine ⟨n, ?_⟩
  have q : ((i.toNat : Nat) : Int) = i := by omega
  rw [q] at e
  exact e
theorem sign_atI {z : Str} {i : Int} (h0 : 0 ≤ i) (h : i < z.length) : ∃ c, atI z.cps.toList i = some c := by
  have hl : i.toNat < z.cps.toList.length := by
    rw [Array.length_toList]
    show i.toNat < z.length
    omega
  refine ⟨z.cps.toList[i.toNat], ?_⟩
  have e := atI_nat (xs := z.cps.toList) (j := i.toNat) (List.getElem?_eq_getElem hl)
  have q : ((i.toNat : Nat) : Int) = i := by omega
  rw [q] at e
  exact e
theorem iteNT {A B : Prop} (h : B) : if (!true) = true then A else B := by
  rw [Bool.not_true, if_neg Bool.false_ne_true]
  exact h
theorem one_len (c : Nat) : (⟨#[c]⟩ : Str).length = 1 := rfl
def spLaw (K : PySem.W.Frag) : Sp := fun vs H Q _ => ∃ (p : Addr) (ns : List Int), vs = [.ref p] ∧ SqL K H p (ns.map V.int) ∧ ∀ H', Q (.bl true) H'
section
variable {P : Program} {w : World} {K : PySem.W.Frag} {mg : Str → Option Value} {base : Heap} {a : Ad}
theorem G_law (T : Txt K mg a) : FnOk P w K mg base CX0 6 a.f_law a.d_law ["script"] (spLaw K) := by
  refine T.F_law.ok sc_law (fun vs H Q E h => ?_) (fun cdv A outer s H vs Q E hr h => ?_)
  · obtain ⟨p, ns, rfl, _⟩ := h
    rfl
  · obtain ⟨p, ns, rfl, hS, k⟩ := h
    refine ⟨_, (pss_cons (ps_set (i := 1) sc_law.nd rfl (Or.inl rfl) (pe_call (G__law_numbers T) (hr.mono (by decide)) (by rfl) T.g__law_numbers T.k__law_numbers T.B__law_numbers .nil pass0 (pa_cons (pv 0) (pa_cons pe_int pa_nil))))
      (pss_cons (ps_set (i := 2) sc_law.nd rfl (Or.inl rfl) pe_str)
      (pss_cons (ps_set (i := 3) sc_law.nd rfl (Or.inl rfl) pe_str)
      (pss_cons (ps_set (i := 3) sc_law.nd rfl (Or.inl rfl) (pe_op op_add_str (pv 3) pe_str))
      (pss_cons (ps_set (i := 4) sc_law.nd rfl (Or.inl rfl) pe_str)
      (pss_cons (ps_for PassesOwn.never rfl (pi_range1 (by rfl) T.z_range (pa_cons (pe_op op_mod (pe_callTy call_int1 (by rfl) T.z_int (by decide +kernel) (pa_cons (pe_ix ix_list (pv 1) pe_int (fun _ _ => rfl)) pa_nil)) pe_int) pa_nil)) (pg_name (i := 5) sc_law.nd rfl (Or.inl rfl)) (pss_one (ps_set (i := 4) sc_law.nd rfl (Or.inl rfl) (pe_op op_add_str (pv 4) (pe_ix ix_str (pv 2) (pe_op op_mod (pe_callTy call_int1 (by rfl) T.z_int (by decide +kernel) (pa_cons (pe_ix ix_list (pv 1) (pe_op op_add pe_int (pv 5)) (fun _ _ => rfl)) pa_nil)) pe_int) (fun _ _ => rfl))))))
      (pss_cut (ps_if (PW.pt (pw_and (pt_cmpR op_gt (pe_op op_mod (pe_callTy call_int1 (by rfl) T.z_int (by decide +kernel) (pa_cons (pe_ix ix_list (pv 1) pe_int (fun _ _ => rfl)) pa_nil)) pe_int) pe_int (nomark _)) (pw_and1 (pt_cmpR op_gt (pe_callB call_len_str (by rfl) T.z_len PySem.boot_len (pa_cons (pv 4) pa_nil)) pe_int (nomark _))))) (pss_one (ps_set (i := 4) sc_law.nd rfl (Or.inl rfl) (pe_op op_add_str (pe_ix ix_str (pv 2) (pe_op op_mod (pe_callTy call_int1 (by rfl) T.z_int (by decide +kernel) (pa_cons (pe_ix ix_list (pv 1) pe_int (fun _ _ => rfl)) pa_nil)) pe_int) (fun _ _ => rfl)) (pe_slice sl_str (pv 4) (po_some pe_int) po_none)))) pss_nil)
      (pss_cut (ps_if (PW.pt (pw_and (pt_cmpR op_eq (pe_op op_mod (pe_callTy call_int1 (by rfl) T.z_int (by decide +kernel) (pa_cons (pe_ix ix_list (pv 1) pe_int (fun _ _ => rfl)) pa_nil)) pe_int) pe_int (nomark _)) (pw_and1 (pt_cmpR op_gt (pe_callB call_len_str (by rfl) T.z_len PySem.boot_len (pa_cons (pv 4) pa_nil)) pe_int (nomark _))))) (pss_cons (ps_set (i := 6) sc_law.nd rfl (Or.inl rfl) (pe_op op_modN (pe_callTy call_int1 (by rfl) T.z_int (by decide +kernel) (pa_cons (pe_ix ix_list (pv 1) pe_int (fun _ _ => rfl)) pa_nil)) (pe_callB call_len_str (by rfl) T.z_len PySem.boot_len (pa_cons (pv 4) pa_nil))))
        (pss_one (ps_set (i := 4) sc_law.nd rfl (Or.inl rfl) (pe_op op_add_str (pe_op op_add_str (pe_slice sl_str (pv 4) po_none (po_some (pv 6))) (pe_ix ix_str (pv 3) (pe_op op_modN (pe_callTy call_int1 (by rfl) T.z_int (by decide +kernel) (pa_cons (pe_ix ix_list (pv 1) pe_int (fun _ _ => rfl)) pa_nil)) (pe_callB call_len_str (by rfl) T.z_len PySem.boot_len (pa_cons (pv 3) pa_nil))) (fun _ _ => rfl))) (pe_slice sl_str (pv 4) (po_some (pe_op op_add (pv 6) pe_int)) po_none))))) pss_nil)
      (pss_cut (ps_set (i := 7) sc_law.nd rfl (Or.inl rfl) (pe_and (pe_chain op_le op_le pe_int (pe_callB call_len_str (by rfl) T.z_len PySem.boot_len (pa_cons (pv 4) pa_nil)) pe_int) (pe_one (pe_cmpR op_notIn_sign (pe_slice sl_str (pv 4) po_none (po_some pe_int)) pe_str rfl))))
      (pss_cons (ps_for PassesOwn.never rfl (pi_str (pv 4)) (pg_name (i := 8) sc_law.nd rfl (Or.inl rfl)) (pss_one (ps_if (pt_cmpR op_notIn_sign (pv 8) (pv 2) rfl) (pss_one (ps_set (i := 7) sc_law.nd rfl (Or.inl rfl) pe_bl)) pss_nil)))
      (pss_cons (ps_set (i := 9) sc_law.nd rfl (Or.inl rfl) (pe_call (G_is_name T) (hr.mono (by decide)) (by rfl) T.g_is_name T.k_is_name T.B_is_name .nil pass0 (pa_cons (pv 4) pa_nil)))
      (pss_cons (ps_if (PW.pt (pw_or (pt_not (pt_val (pe_callB call_isi (by rfl) T.z_isinstance (by decide +kernel) (pa_cons (pv 9) (pa_cons (pe_bltn (v := .ty "bool") (u := .type "bool") (by rfl) T.z_bool (by decide +kernel) rfl) pa_nil))))) (pw_or1 (pt_cmpR op_ne (pv 9) (pv 7) (nomark _))))) (pss_one (ps_ret pe_bl)) pss_nil)
      (pss_cons (ps_if (PW.pt (pw_or (pt_cmpR op_ne (pe_call (G__law_taken T) (hr.mono (by decide)) (by rfl) T.g__law_taken T.k__law_taken T.B__law_taken .nil pass0 (pa_cons (pe_lst (pa_cons (pv 4) pa_nil)) (pa_cons (pe_lst (pa_cons pe_str pa_nil)) (pa_cons (pe_lst pa_nil) pa_nil)))) (pv 7) (nomark _)) (pw_or1 (pt_cmpR op_ne (pe_call (G__law_taken T) (hr.mono (by decide)) (by rfl) T.g__law_taken T.k__law_taken T.B__law_taken .nil pass0 (pa_cons (pe_lst (pa_cons pe_str pa_nil)) (pa_cons (pe_lst (pa_cons (pv 4) pa_nil)) (pa_cons (pe_lst pa_nil) pa_nil)))) (pv 7) (nomark _))))) (pss_one (ps_ret pe_bl)) pss_nil)
      (pss_one (ps_ret (pe_cmpR op_eq (pe_call (G__law_taken T) (hr.mono (by decide)) (by rfl) T.g__law_taken T.k__law_taken T.B__law_taken .nil pass0 (pa_cons (pe_lst (pa_cons pe_str pa_nil)) (pa_cons (pe_lst (pa_cons pe_str (pa_cons pe_str pa_nil))) (pa_cons (pe_lst (pa_cons (pe_tup (pa_cons (pv 4) (pa_cons pe_str (pa_cons pe_str (pa_cons (pe_lst (pa_cons pe_non pa_nil)) pa_nil))))) pa_nil)) pa_nil)))) (pv 7) (nomark _))))))))))))))))), ?_⟩
    refine ⟨_, rfl, p, ns, 24, rfl, hS, by decide, by decide, fun H1 l ks e1 hl hL hlen hs => ?_⟩
    have h24 : ks.length = 24 := by omega
    refine ⟨_, rfl, _, _, rfl, rfl, by decide +kernel, ?_⟩
    show tSeq _ _ _ [some (.ref p), some (.ref l), some (.str GOODS), some (.str SIGNS), none, none, none, none, none, none] H1
    -- the signs, one by one
    obtain ⟨n0, hn0⟩ := num_atI (ks := ks) (i := 0) (by decide) (by omega)
    have b0 := Int.emod_nonneg n0 (show (15 : Int) ≠ 0 by decide)
    have b1 := Int.emod_lt_of_pos n0 (show (0 : Int) < 15 by decide)
    refine ⟨_, rfl, l, _, _, _, rfl, rfl, SqL.of hL, hn0, .inl ⟨_, rfl, _, _, rfl, rfl, (by show (0 : Int) < 15; decide), _, rfl, by omega, by omega, ?_⟩⟩
    refine for_range (n := (n0 % 15).toNat) (fun i σ H' => ∃ (z : Str) (v5 : Option V), σ = [some (.ref p), some (.ref l), some (.str GOODS), some (.str SIGNS), some (.str z), v5, none, none, none, none] ∧ z.length = i ∧ Ex H1 H') ⟨"", none, rfl, rfl, Ex.refl _⟩ ?_ ?_
    · rintro i σ H' hi ⟨z, v5, rfl, hz, e⟩
      obtain ⟨n, hn⟩ := num_atI (ks := ks) (i := 1 + (0 + (i : Int))) (by omega) (by omega)
      have c0 := Int.emod_nonneg n (show (36 : Int) ≠ 0 by decide)
      have c1 := Int.emod_lt_of_pos n (show (0 : Int) < 36 by decide)
      obtain ⟨c, hc⟩ := sign_atI (z := GOODS) c0 (by rw [goods_len]; exact c1)
      refine ⟨_, rfl, _, rfl, _, rfl, _, rfl, _, _, rfl, rfl, l, _, _, _, rfl, rfl, SqL.of (e _ _ hL), hn, .inl ⟨_, rfl, _, _, rfl, rfl, (by show (0 : Int) < 36; decide), _, _, c, rfl, rfl, by decide +kernel, hc, _, _, rfl, rfl, sz_of ?_, ?_⟩⟩
      · rw [one_len]
        omega
      · exact ⟨_, _, rfl, by rw [Str.length_append, one_len, hz], e⟩
    rintro σ H2 ⟨z, v5, rfl, hz, e2⟩
    -- the word between the next statements
    let Mid : L2.St → Hp → Prop := fun σ H' => ∃ (z : Str) (v5 v6 : Option V), σ = [some (.ref p), some (.ref l), some (.str GOODS), some (.str SIGNS), some (.str z), v5, v6, none, none, none] ∧ z.length ≤ 100 ∧ Ex H1 H'
    have mid : ∀ {z : Str} {v5 v6 : Option V} {H' : Hp}, z.length ≤ 100 → Ex H1 H' → Mid [some (.ref p), some (.ref l), some (.str GOODS), some (.str SIGNS), some (.str z), v5, v6, none, none, none] H' := fun h e => ⟨_, _, _, rfl, h, e⟩
    obtain ⟨n16, hn16⟩ := num_atI (ks := ks) (i := 16) (by decide) (by omega)
    obtain ⟨n17, hn17⟩ := num_atI (ks := ks) (i := 17) (by decide) (by omega)
    obtain ⟨n18, hn18⟩ := num_atI (ks := ks) (i := 18) (by decide) (by omega)
    obtain ⟨n19, hn19⟩ := num_atI (ks := ks) (i := 19) (by decide) (by omega)
    refine ⟨fun σ H' => ∃ (z : Str) (v5 v6 : Option V), σ = [some (.ref p), some (.ref l), some (.str GOODS), some (.str SIGNS), some (.str z), v5, v6, none, none, none] ∧ z.length ≤ 40 ∧ Ex H1 H', ?_, ?_⟩
    · refine ⟨_, rfl, l, _, _, _, rfl, rfl, SqL.of (e2 _ _ hL), hn16, .inl ⟨_, rfl, _, _, rfl, rfl, (by show (0 : Int) < 3; decide), _, _, rfl, rfl, _, rfl, ?_⟩⟩
      refine ite2 (fun _ => ?_) (fun _ => ?_)
      · refine ⟨_, rfl, _, rfl, sz_of (by omega), _, _, rfl, rfl, _, rfl, ?_⟩
        refine ite2 (fun hg => ?_) (fun _ => ⟨z, v5, none, rfl, by omega, e2⟩)
        have hg' : 0 < z.length := by
          have q := of_decide_eq_true hg
          omega
        have c0 := Int.emod_nonneg n19 (show (26 : Int) ≠ 0 by decide)
        have c1 := Int.emod_lt_of_pos n19 (show (0 : Int) < 26 by decide)
        obtain ⟨c, hc⟩ := sign_atI (z := GOODS) c0 (by rw [goods_len]; omega)
        refine ⟨_, rfl, _, rfl, l, _, _, _, rfl, rfl, SqL.of (e2 _ _ hL), hn19, .inl ⟨_, rfl, _, _, rfl, rfl, (by show (0 : Int) < 26; decide), _, _, c, rfl, rfl, by decide +kernel, hc, _, rfl, _, rfl, z, rfl, sz_of (by omega), _, _, rfl, rfl, sz_of ?_, ?_⟩⟩
        · have := cutS_length z (some 1) none
          rw [one_len]
          omega
        · refine ⟨_, _, _, rfl, ?_, e2⟩
          have := cutS_length z (some 1) none
          rw [Str.length_append, one_len]
          omega
      · exact ⟨z, v5, none, rfl, by omega, e2⟩
    rintro σ H3 ⟨z, v5, v6, rfl, hz, e3⟩
    refine ⟨Mid, ?_, ?_⟩
    · refine ⟨_, rfl, l, _, _, _, rfl, rfl, SqL.of (e3 _ _ hL), hn16, .inl ⟨_, rfl, _, _, rfl, rfl, (by show (0 : Int) < 6; decide), rfl, _, rfl, ?_⟩⟩
      refine ite2 (fun _ => ?_) (fun _ => mid (by omega) e3)
      refine ⟨_, rfl, _, rfl, sz_of (by omega), _, _, rfl, rfl, _, rfl, ?_⟩
      refine ite2 (fun hg => ?_) (fun _ => mid (by omega) e3)
      have hg' : 0 < z.length := by
        have q := of_decide_eq_true hg
        omega
      have c0 : 0 ≤ n18.fmod (SIGNS.length : Int) := Int.fmod_nonneg_of_pos _ (by rw [signs_len]; decide)
      have c1 : n18.fmod (SIGNS.length : Int) < SIGNS.length := Int.fmod_lt_of_pos _ (by rw [signs_len]; decide)
      obtain ⟨c, hc⟩ := sign_atI (z := SIGNS) c0 c1
      refine ⟨_, rfl, l, _, _, _, rfl, rfl, SqL.of (e3 _ _ hL), hn17, .inl ⟨_, rfl, _, rfl, _, rfl, sz_of (by omega), _, _, rfl, rfl, (by omega), ?_⟩⟩
      refine ⟨_, rfl, _, rfl, _, rfl, z, rfl, sz_of (by omega), _, rfl, _, rfl, l, _, _, _, rfl, rfl, SqL.of (e3 _ _ hL), hn18, .inl ⟨_, rfl, _, rfl, _, rfl, by decide +kernel, _, _, rfl, rfl, (by show ((SIGNS.length : Nat) : Int) ≠ 0; rw [signs_len]; decide), _, _, c, rfl, rfl, by decide +kernel, hc, _, _, rfl, rfl, sz_of ?_, _, rfl, _, rfl, _, _, rfl, rfl, _, rfl, z, rfl, sz_of (by omega), _, _, rfl, rfl, sz_of ?_, ?_⟩⟩
      · have := cutS_length z none (some (n17.fmod (z.length : Int)))
        rw [one_len]
        omega
      · have h1 := cutS_length z none (some (n17.fmod (z.length : Int)))
        have h2 := cutS_length z (some (n17.fmod (z.length : Int) + 1)) none
        rw [Str.length_append, one_len]
        omega
      · refine mid ?_ e3
        have h1 := cutS_length z none (some (n17.fmod (z.length : Int)))
        have h2 := cutS_length z (some (n17.fmod (z.length : Int) + 1)) none
        rw [Str.length_append, Str.length_append, one_len]
        omega
    rintro σ H4 ⟨z, v5, v6, rfl, hz, e4⟩
    clear hs mid
    -- due
    have hzs : z.length ≤ sizeLine := sz_of (by omega)
    have hsz : z.cps.size = z.length := rfl
    refine ⟨fun σ H' => ∃ d0 : Bool, σ = [some (.ref p), some (.ref l), some (.str GOODS), some (.str SIGNS), some (.str z), v5, v6, some (.bl d0), none, none] ∧ (d0 && z.cps.toList.all okSign) = isName z ∧ Ex H1 H', ?_, ?_⟩
    · refine ⟨_, rfl, _, rfl, hzs, _, _, rfl, rfl, _, rfl, ?_⟩
      refine ite2 (fun h1 => ?_) (fun h1 => ?_)
      · have h1' : 1 ≤ z.length := by
          have q := of_decide_eq_true h1
          omega
        refine ⟨_, _, rfl, rfl, _, rfl, ?_⟩
        refine ite2 (fun h2 => ?_) (fun h2 => ?_)
        · have h2' : z.length ≤ 12 := by
            have q := of_decide_eq_true h2
            omega
          obtain ⟨c, hc⟩ : ∃ c, z.cps.toList.head? = some c := by
            cases q : z.cps.toList with
            | nil =>
              have : z.cps.toList.length = 0 := by rw [q]; rfl
              rw [Array.length_toList] at this
              omega
            | cons c r => exact ⟨c, rfl⟩
          have hcut : cutS z none (some 1) = ⟨#[c]⟩ := by
            have e0 : HT.sIx z.length z.length (some ((1 : Nat) : Int)) = 1 := by rw [HT.sIx_nat, Nat.min_eq_left h1']
            show (⟨((z.cps.toList.drop 0).take (HT.sIx z.length z.length (some ((1 : Nat) : Int)) - 0)).toArray⟩ : Str) = ⟨#[c]⟩
            rw [e0]
            cases q : z.cps.toList with
            | nil =>
              rw [q] at hc
              cases hc
            | cons c' r =>
              rw [q] at hc
              have : c' = c := Option.some.inj hc
              subst this
              rfl
          refine ⟨_, rfl, _, rfl, z, rfl, hzs, c, _, by rw [hcut], rfl, ?_⟩
          exact ⟨_, rfl, due_is h1' h2' hc, e4⟩
        · refine ⟨false, rfl, ?_, e4⟩
          rw [Bool.false_and]
          exact (not_name fun n => h2 (decide_eq_true (by omega))).symm
      · refine ⟨_, rfl, false, rfl, ?_, e4⟩
        rw [Bool.false_and]
        exact (not_name fun n => h1 (decide_eq_true (by omega))).symm
    rintro σ H5 ⟨d0, rfl, hd, e5⟩
    -- for char in text
    have hln : z.cps.toList.length = z.cps.size := Array.length_toList
    refine ⟨_, rfl, z, rfl, for_sign (x := z) (fun i σ H' => ∃ v8 : Option V, σ = [some (.ref p), some (.ref l), some (.str GOODS), some (.str SIGNS), some (.str z), v5, v6, some (.bl (d0 && (z.cps.toList.take i).all okSign)), v8, none] ∧ Ex H1 H') ?_ ?_ ?_⟩
    · exact ⟨none, by rw [List.take_zero, List.all_nil, Bool.and_true], e5⟩
    · rintro i c σ H' hc ⟨v8, rfl, e⟩
      have hlc : z.cps.toList[i]? = some c := by rw [Array.getElem?_toList]; exact hc
      have stp : (d0 && (z.cps.toList.take (i + 1)).all okSign) = ((d0 && (z.cps.toList.take i).all okSign) && okSign c) := by
        rw [List.take_add_one, hlc, List.all_append, Bool.and_assoc]
        congr 2
        show (okSign c && true) = okSign c
        rw [Bool.and_true]
      refine ⟨_, rfl, _, rfl, c, _, rfl, rfl, _, rfl, ?_⟩
      have gk := goods_ok c
      refine ite2 (fun h => ?_) (fun h => ?_)
      · have hk : okSign c = false := by
          rw [← gk]
          simpa using h
        refine ⟨some (.str ⟨#[c]⟩), ?_, e⟩
        rw [stp, hk, Bool.and_false]
        rfl
      · have hk : okSign c = true := by
          rw [← gk]
          simpa using h
        refine ⟨some (.str ⟨#[c]⟩), ?_, e⟩
        rw [stp, hk, Bool.and_true]
        rfl
    rintro σ H6 ⟨v8, rfl, e6⟩
    rw [← hln, List.take_length, hd]
    clear hd
    -- told
    refine ⟨_, rfl, z, rfl, by omega, fun H7 e7 => ?_⟩
    refine ⟨_, rfl, _, _, _, _, _, rfl, .ty "bool", .base (.bl _), kit_ty (by decide +kernel), _, rfl, iteNT ?_⟩
    refine ⟨_, rfl, _, rfl, rfl, _, rfl, ?_⟩
    rw [decide_eq_true rfl]
    refine iteNT ?_
    have g1 : isName z = true ↔ Good [z] ∧ Good ["p"] ∧ Good [] := ⟨fun q => ⟨good_one.mpr q, good_p, good_nil⟩, fun q => good_one.mp q.1⟩
    have g2 : isName z = true ↔ Good ["w"] ∧ Good [z] ∧ Good [] := ⟨fun q => ⟨good_w, good_one.mpr q, good_nil⟩, fun q => good_one.mp q.2.1⟩
    have g3 : isName z = true ↔ Good ["w"] ∧ Good ["p", "q"] ∧ Good [z] := ⟨fun q => ⟨good_w, good_pq, good_one.mpr q⟩, fun q => good_one.mp q.2.2⟩
    have same : ∀ {b : Bool} {R : Prop}, (b = true ↔ R) → (isName z = true ↔ R) → b = isName z := fun {b R} h1 h2 => by
      cases b with
      | true => exact (h2.mpr (h1.mp rfl)).symm
      | false =>
        cases q : isName z with
        | false => rfl
        | true => exact absurd (h1.mpr (h2.mp q)) (by simp)
    have s1 : 1 ≤ sizeLine := by decide
    have lw : ("w" : Str).length = 1 := by decide +kernel
    have lp : ("p" : Str).length = 1 := by decide +kernel
    have lq : ("q" : Str).length = 1 := by decide +kernel
    -- _law_taken([text], ['p'], [])
    refine ⟨_, rfl, s1, fun x1 n1 => ⟨s1, fun x2 n2 => ⟨Nat.zero_le _, fun x3 n3 => ?_⟩⟩⟩
    have d12 : x1 ≠ x2 := ne_of_none upd_same n2
    have d13 : x1 ≠ x3 := ne_of_none (show (upd (upd H7 x1 (.lst [.str z])) x2 (.lst [.str "p"])) x1 = some (.lst [.str z]) by rw [upd_ne d12, upd_same]) n3
    have d23 : x2 ≠ x3 := ne_of_none upd_same n3
    refine ⟨x1, x2, x3, [z], ["p"], [], [], rfl, SqL.of (by rw [upd_ne d13, upd_ne d12, upd_same] <;> rfl), SqL.of (by rw [upd_ne d23, upd_same] <;> rfl), SqL.of upd_same, Nat.le_refl _, by simp, Nat.le_refl _, by simp, by simp, rfl, ?_, fun i r hi => by simp at hi, fun b hb H8 e8 => ?_⟩
    · intro n hn
      rcases List.mem_cons.mp hn with q | q
      · rw [q]; omega
      · rcases List.mem_cons.mp q with q | q
        · rw [q, lp]; omega
        · cases q
    rw [same hb g1]
    refine ⟨_, rfl, rfl, _, rfl, ?_⟩
    rw [decide_eq_true rfl]
    refine iteNT ?_
    -- _law_taken(['w'], [text], [])
    clear d12 d13 d23 n1 n2 n3
    refine ⟨s1, fun x1 n1 => ⟨_, rfl, s1, fun x2 n2 => ⟨Nat.zero_le _, fun x3 n3 => ?_⟩⟩⟩
    have d12 : x1 ≠ x2 := ne_of_none upd_same n2
    have d13 : x1 ≠ x3 := ne_of_none (show (upd (upd H8 x1 (.lst [.str "w"])) x2 (.lst [.str z])) x1 = some (.lst [.str "w"]) by rw [upd_ne d12, upd_same]) n3
    have d23 : x2 ≠ x3 := ne_of_none upd_same n3
    refine ⟨x1, x2, x3, ["w"], [z], [], [], rfl, SqL.of (by rw [upd_ne d13, upd_ne d12, upd_same] <;> rfl), SqL.of (by rw [upd_ne d23, upd_same] <;> rfl), SqL.of upd_same, Nat.le_refl _, by simp, Nat.le_refl _, by simp, by simp, rfl, ?_, fun i r hi => by simp at hi, fun b hb H9 e9 => ?_⟩
    · intro n hn
      rcases List.mem_cons.mp hn with q | q
      · rw [q, lw]; omega
      · rcases List.mem_cons.mp q with q | q
        · rw [q]; omega
        · cases q
    rw [same hb g2]
    refine ⟨_, rfl, rfl, _, rfl, ?_⟩
    rw [decide_eq_true rfl]
    refine iteNT ?_
    -- _law_taken(['w'], ['p', 'q'], [(text, 'p', 'q', [None])])
    clear d12 d13 d23 n1 n2 n3
    refine ⟨s1, fun x1 n1 => ⟨by decide, fun x2 n2 => ⟨_, rfl, s1, fun x3 n3 => ⟨(by show 4 ≤ sizeLine; decide), fun x4 n4 => ⟨s1, fun x5 n5 => ?_⟩⟩⟩⟩⟩
    have d12 : x1 ≠ x2 := ne_of_none upd_same n2
    have v1 : ∀ {G : Hp} {b u : Addr} {o v : HO}, G b = some o → G u = none → (upd G u v) b = some o := fun {G b u o v} h1 h2 => by
      rw [upd_ne (ne_of_none h1 h2)]
      exact h1
    have r1 := v1 (v := .lst [.str "p", .str "q"]) (show (upd H9 x1 (.lst [.str "w"])) x1 = _ from upd_same) n2
    have r2 := v1 (v := .lst [.non]) r1 n3
    have r3 := v1 (v := .tup [.str z, .str "p", .str "q", .ref x3]) r2 n4
    have r4 := v1 (v := .lst [.ref x4]) r3 n5
    have t2 := v1 (v := .lst [.non]) (show (upd (upd H9 x1 (.lst [.str "w"])) x2 (.lst [.str "p", .str "q"])) x2 = _ from upd_same) n3
    have t3 := v1 (v := .tup [.str z, .str "p", .str "q", .ref x3]) t2 n4
    have t4 := v1 (v := .lst [.ref x4]) t3 n5
    have u3 := v1 (v := .tup [.str z, .str "p", .str "q", .ref x3]) (show (upd (upd (upd H9 x1 (.lst [.str "w"])) x2 (.lst [.str "p", .str "q"])) x3 (.lst [.non])) x3 = _ from upd_same) n4
    have u4 := v1 (v := .lst [.ref x4]) u3 n5
    have w4 := v1 (v := .lst [.ref x4]) (show (upd (upd (upd (upd H9 x1 (.lst [.str "w"])) x2 (.lst [.str "p", .str "q"])) x3 (.lst [.non])) x4 (.tup [.str z, .str "p", .str "q", .ref x3])) x4 = _ from upd_same) n5
    refine ⟨x1, x2, x5, ["w"], ["p", "q"], [z], [.ref x4], rfl, SqL.of r4, SqL.of t4, SqL.of upd_same, Nat.le_refl _, by simp, by simp, by simp, by simp, rfl, ?_, fun i r hi => ?_, fun b hb H10 e10 => ?_⟩
    · intro n hn
      rcases List.mem_cons.mp hn with q | q
      · rw [q, lw]; omega
      · rcases List.mem_cons.mp q with q | q
        · rw [q, lp]; omega
        · rcases List.mem_cons.mp q with q | q
          · rw [q, lq]; omega
          · rcases List.mem_cons.mp q with q | q
            · rw [q]; omega
            · cases q
    · have hi0 : i = 0 := by
        have := (List.getElem?_eq_some_iff.mp hi).1
        simp at this
        exact this
      subst hi0
      have : r = .ref x4 := (Option.some.inj hi).symm
      subst this
      exact ⟨z, "p", "q", rfl, ⟨x4, x3, rfl, st_of w4, SqL.of u4⟩, by simp, by simp, by decide +kernel⟩
    rw [same hb g3]
    refine ⟨_, rfl, rfl, ?_⟩
    rw [decide_eq_true rfl]
    exact k _
end
end K8

set_option Elab.async false
set_option linter.all false
set_option maxRecDepth 100000
set_option maxHeartbeats 4000000
namespace K8
open PySem PySem.Spec PyProof.Rows L2 EvS Evl
theorem all_mk {l : PySem.W.OpenLaw} {w : World} {K : PySem.W.Frag} {h : Heap} {mg : Str → Option Value} {fa C IL tl te pr D f_is_name f__check_count f__check_names f__check_ends f__as_bounds f__as_link f__as_path f__check_single_paths f_init f_link_names f__law_row f__law_numbers f__law_taken f_law : Addr} (X : K.In h) (G : h.Ns mainGlobals mg) (hfa : mg "law" = some (.ref fa))
    {od_is_name an_is_name od__check_count an__check_count od__check_names an__check_names od__check_ends an__check_ends od__as_bounds an__as_bounds od__as_link an__as_link od__as_path an__as_path od__check_single_paths an__check_single_paths od_init an_init od_link_names an_link_names od__law_row an__law_row od__law_numbers an__law_numbers od__law_taken an__law_taken od_law an_law dd_te : Option Addr} {sl_is_name sl__check_count sl__check_names sl__check_ends sl__as_bounds sl__as_link sl__as_path sl__check_single_paths sl_init sl_link_names sl__law_row sl__law_numbers sl__law_taken sl_law sl_te : Array (Option Value)} {oc_is_name kV_is_name dc_is_name pm_is_name cd_is_name ct_is_name oc__check_count kV__check_count dc__check_count pm__check_count cd__check_count ct__check_count oc__check_names kV__check_names dc__check_names pm__check_names cd__check_names ct__check_names oc__check_ends kV__check_ends dc__check_ends pm__check_ends cd__check_ends ct__check_ends oc__as_bounds kV__as_bounds dc__as_bounds pm__as_bounds cd__as_bounds ct__as_bounds oc__as_link kV__as_link dc__as_link pm__as_link cd__as_link ct__as_link oc__as_path kV__as_path dc__as_path pm__as_path cd__as_path ct__as_path oc__check_single_paths kV__check_single_paths dc__check_single_paths pm__check_single_paths cd__check_single_paths ct__check_single_paths oc_init dc_init pm_init cd_init ct_init oc_link_names kV_link_names dc_link_names pm_link_names cd_link_names ct_link_names oc__law_row kV__law_row dc__law_row pm__law_row cd__law_row ct__law_row oc__law_numbers kV__law_numbers dc__law_numbers pm__law_numbers cd__law_numbers ct__law_numbers oc__law_taken kV__law_taken dc__law_taken pm__law_taken cd__law_taken ct__law_taken oc_law kV_law dc_law pm_law cd_law ct_law : Value} {n_te : Nat} {rest_pr : List Value} {t_LETTERS t_DIGITS t_LONGEST_NAME t_MOST_WINDS t_MOST_PLACES t_MOST_LINKS t_MOST_PATHS t_MOST_MINUTES : Tok}
    (aC : PySem.W.nsIn K mainGlobals "Land" = some (some (.ref C)))
    (aI : PySem.W.nsIn K mainGlobals "InvalidLand" = some (some (.ref IL)))
    (a_is_name : PySem.W.nsIn K mainGlobals "is_name" = some (some (.ref f_is_name)))
    (l_is_name : K.lookup f_is_name = some ⟨oc_is_name, od_is_name, .func (PySem.W.fnOf "is_name" "is_name" (defArgs s_is_name) (defBody s_is_name) (defScope s_is_name) .none kV_is_name dc_is_name pm_is_name an_is_name cd_is_name ct_is_name), sl_is_name⟩)
    (c_is_name : PySem.W.codeIn K cd_is_name "is_name" = true)
    (k_is_name : PySem.W.keepIn K (.ref f_is_name) = true)
    (a__check_count : PySem.W.nsIn K mainGlobals "_check_count" = some (some (.ref f__check_count)))
    (l__check_count : K.lookup f__check_count = some ⟨oc__check_count, od__check_count, .func (PySem.W.fnOf "_check_count" "_check_count" (defArgs s__check_count) (defBody s__check_count) (defScope s__check_count) .none kV__check_count dc__check_count pm__check_count an__check_count cd__check_count ct__check_count), sl__check_count⟩)
    (c__check_count : PySem.W.codeIn K cd__check_count "_check_count" = true)
    (k__check_count : PySem.W.keepIn K (.ref f__check_count) = true)
    (a__check_names : PySem.W.nsIn K mainGlobals "_check_names" = some (some (.ref f__check_names)))
    (l__check_names : K.lookup f__check_names = some ⟨oc__check_names, od__check_names, .func (PySem.W.fnOf "_check_names" "_check_names" (defArgs s__check_names) (defBody s__check_names) (defScope s__check_names) .none kV__check_names dc__check_names pm__check_names an__check_names cd__check_names ct__check_names), sl__check_names⟩)
    (c__check_names : PySem.W.codeIn K cd__check_names "_check_names" = true)
    (k__check_names : PySem.W.keepIn K (.ref f__check_names) = true)
    (a__check_ends : PySem.W.nsIn K mainGlobals "_check_ends" = some (some (.ref f__check_ends)))
    (l__check_ends : K.lookup f__check_ends = some ⟨oc__check_ends, od__check_ends, .func (PySem.W.fnOf "_check_ends" "_check_ends" (defArgs s__check_ends) (defBody s__check_ends) (defScope s__check_ends) .none kV__check_ends dc__check_ends pm__check_ends an__check_ends cd__check_ends ct__check_ends), sl__check_ends⟩)
    (c__check_ends : PySem.W.codeIn K cd__check_ends "_check_ends" = true)
    (k__check_ends : PySem.W.keepIn K (.ref f__check_ends) = true)
    (a__as_bounds : PySem.W.nsIn K mainGlobals "_as_bounds" = some (some (.ref f__as_bounds)))
    (l__as_bounds : K.lookup f__as_bounds = some ⟨oc__as_bounds, od__as_bounds, .func (PySem.W.fnOf "_as_bounds" "_as_bounds" (defArgs s__as_bounds) (defBody s__as_bounds) (defScope s__as_bounds) .none kV__as_bounds dc__as_bounds pm__as_bounds an__as_bounds cd__as_bounds ct__as_bounds), sl__as_bounds⟩)
    (c__as_bounds : PySem.W.codeIn K cd__as_bounds "_as_bounds" = true)
    (k__as_bounds : PySem.W.keepIn K (.ref f__as_bounds) = true)
    (a__as_link : PySem.W.nsIn K mainGlobals "_as_link" = some (some (.ref f__as_link)))
    (l__as_link : K.lookup f__as_link = some ⟨oc__as_link, od__as_link, .func (PySem.W.fnOf "_as_link" "_as_link" (defArgs s__as_link) (defBody s__as_link) (defScope s__as_link) .none kV__as_link dc__as_link pm__as_link an__as_link cd__as_link ct__as_link), sl__as_link⟩)
    (c__as_link : PySem.W.codeIn K cd__as_link "_as_link" = true)
    (k__as_link : PySem.W.keepIn K (.ref f__as_link) = true)
    (a__as_path : PySem.W.nsIn K mainGlobals "_as_path" = some (some (.ref f__as_path)))
    (l__as_path : K.lookup f__as_path = some ⟨oc__as_path, od__as_path, .func (PySem.W.fnOf "_as_path" "_as_path" (defArgs s__as_path) (defBody s__as_path) (defScope s__as_path) .none kV__as_path dc__as_path pm__as_path an__as_path cd__as_path ct__as_path), sl__as_path⟩)
    (c__as_path : PySem.W.codeIn K cd__as_path "_as_path" = true)
    (k__as_path : PySem.W.keepIn K (.ref f__as_path) = true)
    (a__check_single_paths : PySem.W.nsIn K mainGlobals "_check_single_paths" = some (some (.ref f__check_single_paths)))
    (l__check_single_paths : K.lookup f__check_single_paths = some ⟨oc__check_single_paths, od__check_single_paths, .func (PySem.W.fnOf "_check_single_paths" "_check_single_paths" (defArgs s__check_single_paths) (defBody s__check_single_paths) (defScope s__check_single_paths) .none kV__check_single_paths dc__check_single_paths pm__check_single_paths an__check_single_paths cd__check_single_paths ct__check_single_paths), sl__check_single_paths⟩)
    (c__check_single_paths : PySem.W.codeIn K cd__check_single_paths "_check_single_paths" = true)
    (k__check_single_paths : PySem.W.keepIn K (.ref f__check_single_paths) = true)
    (a_init : PySem.W.findIn K (.ref C) "__init__" = some (some (.ref f_init)))
    (i_init : PySem.W.isFn K (.ref f_init) = true)
    (l_init : K.lookup f_init = some ⟨oc_init, od_init, .func (PySem.W.fnOf "__init__" "Land.__init__" (defArgs s_init) (defBody s_init) (defScope s_init) .none (.ref D) dc_init pm_init an_init cd_init ct_init), sl_init⟩)
    (c_init : PySem.W.codeIn K cd_init "Land.__init__" = true)
    (k_init : PySem.W.keepIn K (.ref f_init) = true)
    (tl1 : PySem.W.nsIn K D "links" = some (some (.ref tl)))
    (te1 : PySem.W.nsIn K D "paths" = some (some (.ref te)))
    (te2 : K.lookup te = some ⟨.type "tuple", dd_te, .seq #[] n_te, sl_te⟩)
    (pr1 : PySem.W.findIn K (.ref C) "link_names" = some (some (.ref pr)))
    (pr2 : PySem.W.specialIn K (.ref pr) "__get__" = some (some (.builtin "property.__get__")))
    (pr3 : PySem.W.takesIn K (.ref pr) = some true)
    (pr4 : PySem.W.recIn K pr "property" = some (.ref f_link_names :: rest_pr))
    (l_link_names : K.lookup f_link_names = some ⟨oc_link_names, od_link_names, .func (PySem.W.fnOf "link_names" "Land.link_names" (defArgs s_link_names) (defBody s_link_names) (defScope s_link_names) .none kV_link_names dc_link_names pm_link_names an_link_names cd_link_names ct_link_names), sl_link_names⟩)
    (c_link_names : PySem.W.codeIn K cd_link_names "Land.link_names" = true)
    (k_link_names : PySem.W.keepIn K (.ref f_link_names) = true)
    (a__law_row : PySem.W.nsIn K mainGlobals "_law_row" = some (some (.ref f__law_row)))
    (l__law_row : K.lookup f__law_row = some ⟨oc__law_row, od__law_row, .func (PySem.W.fnOf "_law_row" "_law_row" (defArgs s__law_row) (defBody s__law_row) (defScope s__law_row) .none kV__law_row dc__law_row pm__law_row an__law_row cd__law_row ct__law_row), sl__law_row⟩)
    (c__law_row : PySem.W.codeIn K cd__law_row "_law_row" = true)
    (k__law_row : PySem.W.keepIn K (.ref f__law_row) = true)
    (a__law_numbers : PySem.W.nsIn K mainGlobals "_law_numbers" = some (some (.ref f__law_numbers)))
    (l__law_numbers : K.lookup f__law_numbers = some ⟨oc__law_numbers, od__law_numbers, .func (PySem.W.fnOf "_law_numbers" "_law_numbers" (defArgs s__law_numbers) (defBody s__law_numbers) (defScope s__law_numbers) .none kV__law_numbers dc__law_numbers pm__law_numbers an__law_numbers cd__law_numbers ct__law_numbers), sl__law_numbers⟩)
    (c__law_numbers : PySem.W.codeIn K cd__law_numbers "_law_numbers" = true)
    (k__law_numbers : PySem.W.keepIn K (.ref f__law_numbers) = true)
    (a__law_taken : PySem.W.nsIn K mainGlobals "_law_taken" = some (some (.ref f__law_taken)))
    (l__law_taken : K.lookup f__law_taken = some ⟨oc__law_taken, od__law_taken, .func (PySem.W.fnOf "_law_taken" "_law_taken" (defArgs s__law_taken) (defBody s__law_taken) (defScope s__law_taken) .none kV__law_taken dc__law_taken pm__law_taken an__law_taken cd__law_taken ct__law_taken), sl__law_taken⟩)
    (c__law_taken : PySem.W.codeIn K cd__law_taken "_law_taken" = true)
    (k__law_taken : PySem.W.keepIn K (.ref f__law_taken) = true)
    (a_law : PySem.W.nsIn K mainGlobals "law" = some (some (.ref f_law)))
    (l_law : K.lookup f_law = some ⟨oc_law, od_law, .func (PySem.W.fnOf "law" "law" (defArgs s_law) (defBody s_law) (defScope s_law) .none kV_law dc_law pm_law an_law cd_law ct_law), sl_law⟩)
    (c_law : PySem.W.codeIn K cd_law "law" = true)
    (k_law : PySem.W.keepIn K (.ref f_law) = true)
    (z_abs : PySem.W.nsIn K mainGlobals "abs" = some none)
    (z_all : PySem.W.nsIn K mainGlobals "all" = some none)
    (z_bool : PySem.W.nsIn K mainGlobals "bool" = some none)
    (z_int : PySem.W.nsIn K mainGlobals "int" = some none)
    (z_isinstance : PySem.W.nsIn K mainGlobals "isinstance" = some none)
    (z_len : PySem.W.nsIn K mainGlobals "len" = some none)
    (z_max : PySem.W.nsIn K mainGlobals "max" = some none)
    (z_range : PySem.W.nsIn K mainGlobals "range" = some none)
    (z_set : PySem.W.nsIn K mainGlobals "set" = some none)
    (z_tuple : PySem.W.nsIn K mainGlobals "tuple" = some none)
    (z_sorted : PySem.W.nsIn K mainGlobals "sorted" = some none)
    (g_LETTERS : PySem.W.nsIn K mainGlobals "LETTERS" = some (some (.str "abcdefghijklmnopqrstuvwxyz" t_LETTERS)))
    (g_DIGITS : PySem.W.nsIn K mainGlobals "DIGITS" = some (some (.str "0123456789" t_DIGITS)))
    (g_LONGEST_NAME : PySem.W.nsIn K mainGlobals "LONGEST_NAME" = some (some (.int 12 t_LONGEST_NAME)))
    (g_MOST_WINDS : PySem.W.nsIn K mainGlobals "MOST_WINDS" = some (some (.int 4 t_MOST_WINDS)))
    (g_MOST_PLACES : PySem.W.nsIn K mainGlobals "MOST_PLACES" = some (some (.int 24 t_MOST_PLACES)))
    (g_MOST_LINKS : PySem.W.nsIn K mainGlobals "MOST_LINKS" = some (some (.int 60 t_MOST_LINKS)))
    (g_MOST_PATHS : PySem.W.nsIn K mainGlobals "MOST_PATHS" = some (some (.int 60 t_MOST_PATHS)))
    (g_MOST_MINUTES : PySem.W.nsIn K mainGlobals "MOST_MINUTES" = some (some (.int 1000 t_MOST_MINUTES)))
    (pg : PySem.W.plainGet K C Str.empty = true)
    (hd : PySem.W.hasDictIn K C = true)
    (po : PySem.W.plainOver K C = true)
    (sa : PySem.W.findIn K (.ref C) "__setattr__" = some (some (.builtin "object.__setattr__")))
    (mk : PySem.W.makesIn K C = true)
    (kc : PySem.W.keepIn K (.ref C) = true)
    (nW : PySem.W.findIn K (.ref C) "winds" = some none)
    (nP : PySem.W.findIn K (.ref C) "places" = some none)
    (nL : PySem.W.findIn K (.ref C) "links" = some none)
    (nA : PySem.W.findIn K (.ref C) "paths" = some none)
    (xI : PySem.W.excIn K IL [.type "ValueError", .type "Exception", .type "BaseException", .type "object"] "ValueError.__new__" = true)
    (kI : PySem.W.keepIn K (.ref IL) = true)
    (bI : PySem.W.subIn K (.ref IL) (.type "BaseException") = some true)
    (tI : PySem.W.typeIn K (.ref IL) = some (.type "type"))
    (iI : PySem.W.isClsIn K IL = true)
    (sI : PySem.W.subIn K (.ref IL) (.ref IL) = some true)
    : ∃ fd : FuncData, (∀ (s : Shared) (v : Value), BindsTo s fd ⟨[v], []⟩ [("script", v)]) ∧ ∀ base : Heap, K.In base → base.Ns mainGlobals mg → FnOk l.prog w K mg base CX0 6 fa fd ["script"] (spLaw K) := by
  have e := hfa.symm.trans (PySem.W.mg_of X G a_law)
  cases e
  have F_is_name := fun_mk (st := s_is_name) l_is_name c_is_name k_is_name
  have B_is_name := F_is_name.binds (ps := ["text"]) fun _ _ _ _ _ _ us hl => match us, hl with | [_], _ => rfl
  have F__check_count := fun_mk (st := s__check_count) l__check_count c__check_count k__check_count
  have B__check_count := F__check_count.binds (ps := ["sort", "rows", "least", "most"]) fun _ _ _ _ _ _ us hl => match us, hl with | [_, _, _, _], _ => rfl
  have F__check_names := fun_mk (st := s__check_names) l__check_names c__check_names k__check_names
  have B__check_names := F__check_names.binds (ps := ["sort", "names"]) fun _ _ _ _ _ _ us hl => match us, hl with | [_, _], _ => rfl
  have F__check_ends := fun_mk (st := s__check_ends) l__check_ends c__check_ends k__check_ends
  have B__check_ends := F__check_ends.binds (ps := ["sort", "one", "other", "places"]) fun _ _ _ _ _ _ us hl => match us, hl with | [_, _, _, _], _ => rfl
  have F__as_bounds := fun_mk (st := s__as_bounds) l__as_bounds c__as_bounds k__as_bounds
  have B__as_bounds := F__as_bounds.binds (ps := ["bounds"]) fun _ _ _ _ _ _ us hl => match us, hl with | [_], _ => rfl
  have F__as_link := fun_mk (st := s__as_link) l__as_link c__as_link k__as_link
  have B__as_link := F__as_link.binds (ps := ["link", "winds", "places"]) fun _ _ _ _ _ _ us hl => match us, hl with | [_, _, _], _ => rfl
  have F__as_path := fun_mk (st := s__as_path) l__as_path c__as_path k__as_path
  have B__as_path := F__as_path.binds (ps := ["path", "places"]) fun _ _ _ _ _ _ us hl => match us, hl with | [_, _], _ => rfl
  have F__check_single_paths := fun_mk (st := s__check_single_paths) l__check_single_paths c__check_single_paths k__check_single_paths
  have B__check_single_paths := F__check_single_paths.binds (ps := ["paths"]) fun _ _ _ _ _ _ us hl => match us, hl with | [_], _ => rfl
  have F_init : FunD K "__init__" "Land.__init__" (defArgs s_init) (defBody s_init) (defScope s_init) [] [("links", .ref tl), ("paths", .ref te)] f_init _ := ⟨⟨_, _, _, _, _, _, _, _, _, _, rfl, l_init, c_init, .inl ⟨rfl, rfl⟩, .inr ⟨D, rfl, fun q hq => by
    rcases List.mem_cons.mp hq with z | z
    · rw [z]; exact ⟨_, tl1, rfl⟩
    · rw [List.mem_singleton.mp z]; exact ⟨_, te1, rfl⟩⟩⟩, k_init⟩
  have F_link_names := fun_mk (st := s_link_names) l_link_names c_link_names k_link_names
  have B_link_names := F_link_names.binds (ps := ["self"]) fun _ _ _ _ _ _ us hl => match us, hl with | [_], _ => rfl
  have F__law_row := fun_mk (st := s__law_row) l__law_row c__law_row k__law_row
  have B__law_row := F__law_row.binds (ps := ["cell", "many"]) fun _ _ _ _ _ _ us hl => match us, hl with | [_, _], _ => rfl
  have F__law_numbers := fun_mk (st := s__law_numbers) l__law_numbers c__law_numbers k__law_numbers
  have B__law_numbers := F__law_numbers.binds (ps := ["script", "many"]) fun _ _ _ _ _ _ us hl => match us, hl with | [_, _], _ => rfl
  have F__law_taken := fun_mk (st := s__law_taken) l__law_taken c__law_taken k__law_taken
  have B__law_taken := F__law_taken.binds (ps := ["winds", "places", "links"]) fun _ _ _ _ _ _ us hl => match us, hl with | [_, _, _], _ => rfl
  have F_law := fun_mk (st := s_law) l_law c_law k_law
  have B_law := F_law.binds (ps := ["script"]) fun _ _ _ _ _ _ us hl => match us, hl with | [_], _ => rfl
  have T : Txt K mg { C := C, IL := IL, tl := tl, te := te, pr := pr, f_is_name := f_is_name, d_is_name := _, f__check_count := f__check_count, d__check_count := _, f__check_names := f__check_names, d__check_names := _, f__check_ends := f__check_ends, d__check_ends := _, f__as_bounds := f__as_bounds, d__as_bounds := _, f__as_link := f__as_link, d__as_link := _, f__as_path := f__as_path, d__as_path := _, f__check_single_paths := f__check_single_paths, d__check_single_paths := _, f_init := f_init, d_init := _, f_link_names := f_link_names, d_link_names := _, f__law_row := f__law_row, d__law_row := _, f__law_numbers := f__law_numbers, d__law_numbers := _, f__law_taken := f__law_taken, d__law_taken := _, f_law := fa, d_law := _ } := {
    F_is_name := F_is_name
    B_is_name := B_is_name
    k_is_name := k_is_name
    g_is_name := PySem.W.mg_of X G a_is_name
    F__check_count := F__check_count
    B__check_count := B__check_count
    k__check_count := k__check_count
    g__check_count := PySem.W.mg_of X G a__check_count
    F__check_names := F__check_names
    B__check_names := B__check_names
    k__check_names := k__check_names
    g__check_names := PySem.W.mg_of X G a__check_names
    F__check_ends := F__check_ends
    B__check_ends := B__check_ends
    k__check_ends := k__check_ends
    g__check_ends := PySem.W.mg_of X G a__check_ends
    F__as_bounds := F__as_bounds
    B__as_bounds := B__as_bounds
    k__as_bounds := k__as_bounds
    g__as_bounds := PySem.W.mg_of X G a__as_bounds
    F__as_link := F__as_link
    B__as_link := B__as_link
    k__as_link := k__as_link
    g__as_link := PySem.W.mg_of X G a__as_link
    F__as_path := F__as_path
    B__as_path := B__as_path
    k__as_path := k__as_path
    g__as_path := PySem.W.mg_of X G a__as_path
    F__check_single_paths := F__check_single_paths
    B__check_single_paths := B__check_single_paths
    k__check_single_paths := k__check_single_paths
    g__check_single_paths := PySem.W.mg_of X G a__check_single_paths
    F_init := F_init
    F_link_names := F_link_names
    B_link_names := B_link_names
    k_link_names := k_link_names
    F__law_row := F__law_row
    B__law_row := B__law_row
    k__law_row := k__law_row
    g__law_row := PySem.W.mg_of X G a__law_row
    F__law_numbers := F__law_numbers
    B__law_numbers := B__law_numbers
    k__law_numbers := k__law_numbers
    g__law_numbers := PySem.W.mg_of X G a__law_numbers
    F__law_taken := F__law_taken
    B__law_taken := B__law_taken
    k__law_taken := k__law_taken
    g__law_taken := PySem.W.mg_of X G a__law_taken
    F_law := F_law
    B_law := B_law
    k_law := k_law
    g_law := PySem.W.mg_of X G a_law
    z_abs := PySem.W.mg_none_of X G z_abs
    z_all := PySem.W.mg_none_of X G z_all
    z_bool := PySem.W.mg_none_of X G z_bool
    z_int := PySem.W.mg_none_of X G z_int
    z_isinstance := PySem.W.mg_none_of X G z_isinstance
    z_len := PySem.W.mg_none_of X G z_len
    z_max := PySem.W.mg_none_of X G z_max
    z_range := PySem.W.mg_none_of X G z_range
    z_set := PySem.W.mg_none_of X G z_set
    z_tuple := PySem.W.mg_none_of X G z_tuple
    z_sorted := PySem.W.mg_none_of X G z_sorted
    c_LETTERS := ⟨_, PySem.W.mg_of X G g_LETTERS⟩
    c_DIGITS := ⟨_, PySem.W.mg_of X G g_DIGITS⟩
    c_LONGEST_NAME := ⟨_, PySem.W.mg_of X G g_LONGEST_NAME⟩
    c_MOST_WINDS := ⟨_, PySem.W.mg_of X G g_MOST_WINDS⟩
    c_MOST_PLACES := ⟨_, PySem.W.mg_of X G g_MOST_PLACES⟩
    c_MOST_LINKS := ⟨_, PySem.W.mg_of X G g_MOST_LINKS⟩
    c_MOST_PATHS := ⟨_, PySem.W.mg_of X G g_MOST_PATHS⟩
    c_MOST_MINUTES := ⟨_, PySem.W.mg_of X G g_MOST_MINUTES⟩
    cl := ⟨pg, hd, po, sa⟩
    mk_Land := ⟨mk, a_init, i_init, kc⟩
    g_Land := PySem.W.mg_of X G aC
    nW := nW
    nP := nP
    nL := nL
    nA := nA
    p_link_names := ⟨pr1, pr2, pr3, ⟨_, pr4⟩⟩
    teT := fun H => .inr ⟨_, #[], _, te2, rfl, rfl, Nat.zero_le _, .nil⟩
    x_InvalidLand := xI
    g_InvalidLand := PySem.W.mg_of X G aI
    k_InvalidLand := kI
    b_InvalidLand := bI
    t_InvalidLand := tI
    e_InvalidLand := exc_self bI iI tI sI }
  exact ⟨_, fun s v => .of_eq rfl, fun base _ _ => G_law T⟩
theorem walk {l : PySem.W.OpenLaw} {q : Program} {loose : List Str} {XP : (Str → Option Value) → Heap → Prop} {YP : World → Heap → Prop} {d : DefRec} {K : Params → PySem.W.Frag} (hn : l.most = some 63) (hdf : d.params.defaults = [])
    (hY : ∀ (w : World) (h : Heap), YP w h → (K w.params).In h)
    (F : ∀ (w : World) (mg : Str → Option Value) (fa : Addr) (h : Heap), (K w.params).In h → h.Ns mainGlobals mg → mg d.name = some (.ref fa) →
      ∃ fd : FuncData, (∀ (s : Shared) (u : Value), BindsTo s fd ⟨[u], []⟩ [("script", u)]) ∧ ∀ base : Heap, (K w.params).In base → base.Ns mainGlobals mg → FnOk l.prog w (K w.params) mg base CX0 6 fa fd ["script"] (spLaw (K w.params))) :
    PySem.W.WalkO q loose XP YP l.row.toRowW d [] (fun f vs => PySem.call f vs) :=
  L2.walk_of (n := 63) (k := 6) (x := "script") (CX := fun _ => CX0) (sp := fun w => spLaw (K w.params)) hn (by decide) hdf ⟨rfl, by decide, by decide⟩ hY F (fun _ _ a ns hl _ hS => ⟨a, ns, rfl, hS, fun _ => rfl⟩) fun _ _ _ _ _ z => z
end K8
open PySem PySem.W PyProof.Rows in
set_option maxRecDepth 100000 in
set_option maxHeartbeats 0 in
theorem PySem.Challenge.cw_everyfire_k08_names_holds : PySem.Challenge.rw_everyfire_k08_names.Holds := by
  w_on; o_law; k_head; (case hw => w_witness2)
  k_fill
  refine K8.walk (l := PySem.Challenge.rw_everyfire_k08_names) rfl rfl (fun w h Y => PySem.W.kIn_of Y) ?F
  case F =>
    intro w mg fa h KX G hmg
    refine' K8.all_mk KX G hmg ?aC ?aI ?a_is_name ?l_is_name ?c_is_name ?k_is_name ?a__check_count ?l__check_count ?c__check_count ?k__check_count ?a__check_names ?l__check_names ?c__check_names ?k__check_names ?a__check_ends ?l__check_ends ?c__check_ends ?k__check_ends ?a__as_bounds ?l__as_bounds ?c__as_bounds ?k__as_bounds ?a__as_link ?l__as_link ?c__as_link ?k__as_link ?a__as_path ?l__as_path ?c__as_path ?k__as_path ?a__check_single_paths ?l__check_single_paths ?c__check_single_paths ?k__check_single_paths ?a_init ?i_init ?l_init ?c_init ?k_init ?tl1 ?te1 ?te2 ?pr1 ?pr2 ?pr3 ?pr4 ?l_link_names ?c_link_names ?k_link_names ?a__law_row ?l__law_row ?c__law_row ?k__law_row ?a__law_numbers ?l__law_numbers ?c__law_numbers ?k__law_numbers ?a__law_taken ?l__law_taken ?c__law_taken ?k__law_taken ?a_law ?l_law ?c_law ?k_law ?z_abs ?z_all ?z_bool ?z_int ?z_isinstance ?z_len ?z_max ?z_range ?z_set ?z_tuple ?z_sorted ?g_LETTERS ?g_DIGITS ?g_LONGEST_NAME ?g_MOST_WINDS ?g_MOST_PLACES ?g_MOST_LINKS ?g_MOST_PATHS ?g_MOST_MINUTES ?pg ?hd ?po ?sa ?mk ?kc ?nW ?nP ?nL ?nA ?xI ?kI ?bI ?tI ?iI ?sI
    (case aC => k_is)
    (case aI => k_is)
    (case a_is_name => k_is)
    (case l_is_name => k_is)
    (case c_is_name => k_is)
    (case k_is_name => k_is)
    (case a__check_count => k_is)
    (case l__check_count => k_is)
    (case c__check_count => k_is)
    (case k__check_count => k_is)
    (case a__check_names => k_is)
    (case l__check_names => k_is)
    (case c__check_names => k_is)
    (case k__check_names => k_is)
    (case a__check_ends => k_is)
    (case l__check_ends => k_is)
    (case c__check_ends => k_is)
    (case k__check_ends => k_is)
    (case a__as_bounds => k_is)
    (case l__as_bounds => k_is)
    (case c__as_bounds => k_is)
    (case k__as_bounds => k_is)
    (case a__as_link => k_is)
    (case l__as_link => k_is)
    (case c__as_link => k_is)
    (case k__as_link => k_is)
    (case a__as_path => k_is)
    (case l__as_path => k_is)
    (case c__as_path => k_is)
    (case k__as_path => k_is)
    (case a__check_single_paths => k_is)
    (case l__check_single_paths => k_is)
    (case c__check_single_paths => k_is)
    (case k__check_single_paths => k_is)
    (case a_init => k_is)
    (case i_init => k_is)
    (case l_init => k_is)
    (case c_init => k_is)
    (case k_init => k_is)
    (case tl1 => k_is)
    (case te1 => k_is)
    (case te2 => k_is)
    (case pr1 => k_is)
    (case pr2 => k_is)
    (case pr3 => k_is)
    (case pr4 => k_is)
    (case l_link_names => k_is)
    (case c_link_names => k_is)
    (case k_link_names => k_is)
    (case a__law_row => k_is)
    (case l__law_row => k_is)
    (case c__law_row => k_is)
    (case k__law_row => k_is)
    (case a__law_numbers => k_is)
    (case l__law_numbers => k_is)
    (case c__law_numbers => k_is)
    (case k__law_numbers => k_is)
    (case a__law_taken => k_is)
    (case l__law_taken => k_is)
    (case c__law_taken => k_is)
    (case k__law_taken => k_is)
    (case a_law => k_is)
    (case l_law => k_is)
    (case c_law => k_is)
    (case k_law => k_is)
    (case z_abs => k_is)
    (case z_all => k_is)
    (case z_bool => k_is)
    (case z_int => k_is)
    (case z_isinstance => k_is)
    (case z_len => k_is)
    (case z_max => k_is)
    (case z_range => k_is)
    (case z_set => k_is)
    (case z_tuple => k_is)
    (case z_sorted => k_is)
    (case g_LETTERS => k_is)
    (case g_DIGITS => k_is)
    (case g_LONGEST_NAME => k_is)
    (case g_MOST_WINDS => k_is)
    (case g_MOST_PLACES => k_is)
    (case g_MOST_LINKS => k_is)
    (case g_MOST_PATHS => k_is)
    (case g_MOST_MINUTES => k_is)
    (case pg => k_is)
    (case hd => k_is)
    (case po => k_is)
    (case sa => k_is)
    (case mk => k_is)
    (case kc => k_is)
    (case nW => k_is)
    (case nP => k_is)
    (case nL => k_is)
    (case nA => k_is)
    (case xI => k_exc)
    (case kI => k_is)
    (case bI => k_is)
    (case tI => k_is)
    (case iI => k_is)
    (case sI => first | rfl | k_is)

