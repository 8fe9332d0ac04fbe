import PyProof.Rows.All
import Wide.All
import OpenK.AllK
import Wide.FinOn
import PyProof.EqAt
import PyProof.EqKinds
import PyProof.TupleCall
import HandS.Base
import HandS.Call
import HandS.List
import HandS.ForMost
import HandS.ForExc
import HandS.RaiseMore
import HandS.FStr
import HandS.MakeKwOnly
import HandS.Property
import HandS.IsInst
import HandS.Evl
import HandS.TupSets
import HandS.SetFor
import HandS.Iter
import PyProof.EnumMake
import KE.GoesEnum
import HandS.Star
import HandS.Text
import PySem.Challenge.RW_everyfire_k05_whole_text_and_back
set_option Elab.async false
set_option linter.all false
set_option maxRecDepth 100000
set_option maxHeartbeats 4000000
/-! len(set(xs)) of any number of texts -/
namespace EvS
open PySem PySem.Spec PyProof.Rows
/-- the different ones, each where it came first -/
def dd {α : Type} [DecidableEq α] : List α → List α → List α
  | acc, [] => acc
  | acc, x :: r => dd (if x ∈ acc then acc else acc ++ [x]) r
theorem dd_len_le {α : Type} [DecidableEq α] : ∀ (l acc : List α), (dd acc l).length ≤ acc.length + l.length
  | [], acc => Nat.le_refl _
  | x :: r, acc => by
    unfold dd
    by_cases h : x ∈ acc
    · rw [if_pos h]
      have := dd_len_le r acc
      simp only [List.length_cons]
      omega
    · rw [if_neg h]
      have := dd_len_le r (acc ++ [x])
      simp only [List.length_cons, List.length_append, List.length_nil] at this ⊢
      omega
theorem dd_len_eq {α : Type} [DecidableEq α] : ∀ (l acc : List α), acc.Nodup → ((dd acc l).length = acc.length + l.length ↔ (acc ++ l).Nodup)
  | [], acc, h => by simp [dd, h]
  | x :: r, acc, h => by
    unfold dd
    by_cases hx : x ∈ acc
    · rw [if_pos hx]
      have h1 := dd_len_le r acc
      constructor
      · intro e
        simp only [List.length_cons] at e
        omega
      · intro e
        have := (List.nodup_append.mp e).2.2 x hx x (List.mem_cons_self ..)
        exact absurd rfl this
    · rw [if_neg hx]
      have hn : (acc ++ [x]).Nodup := by
        rw [List.nodup_append]
        refine ⟨h, by simp, fun a ha b hb => ?_⟩
        rw [List.mem_singleton] at hb
        subst hb
        exact fun e => hx (e ▸ ha)
      have ih := dd_len_eq r (acc ++ [x]) hn
      simp only [List.length_cons, List.length_append, List.length_nil, List.append_assoc, List.singleton_append] at ih ⊢
      rw [← ih]
      omega
theorem dd_snoc {α : Type} [DecidableEq α] (x : α) : ∀ (l acc : List α), dd acc (l ++ [x]) = (if x ∈ dd acc l then dd acc l else dd acc l ++ [x])
  | [], acc => rfl
  | y :: r, acc => by
    show dd _ (r ++ [x]) = _
    rw [dd_snoc x r]
    rfl
section
variable {prog : Program} {w : World} {A : Around} {R : Result → Shared → Prop} {I : Addr} {fp wr : List Addr} {G : Array GenState → Array GenState → Prop} {n : Nat} {P : Nat → Value → Prop} {St : Nat → Shared → Prop}
variable {κ : Type} [DecidableEq κ] {kd : KeyKind prog w κ}
theorem turnK (W : WalksS prog w A.in1 I fp wr G n P St) (S : Addr) (hSf : S ∉ fp) (ks : List κ) (hlen : ks.length = n) (hmax : n < 4000)
    (hat : ∀ i v k, P i v → ks[i]? = some k → kd.is k v = true ∧ v.scannable = true) :
    ∀ (m i : Nat) (s : Shared), n - i = m → i ≤ n → St i s →
      Heap.SetOf kd s.heap S (fun k => decide (k ∈ dd [] (ks.take i))) (dd [] (ks.take i)).length →
      (∀ s', Moved (S :: wr) G s s' → Heap.SetOf kd s'.heap S (fun k => decide (k ∈ dd [] ks)) (dd [] ks).length → R (.ok (.ret .none)) s') →
      codeAny (model prog w) A (.builtin "set.update.loop" ⟨[.ref S, .ref I], []⟩) R s := by
  have nw : S ∉ wr := fun q => hSf (W.sub _ q)
  have up : ∀ c ∈ wr, c ∈ S :: wr := fun c hc => List.mem_cons_of_mem _ hc
  intro m
  induction m with
  | zero =>
    intro i s hm hi hst hS hR
    obtain rfl : i = n := by omega
    refine codeAny_builtin PyProof.Rows.F.entry_set_update_loop ?_
    rw [Around.under_plainId PyProof.Rows.F.plain_set_update_loop _]
    show wpAny _ A.in1 (pyNext (.ref I) >>= _) _ _ s
    refine wpAny_bind (W.done s _ _ hst fun s1 mv => ?_)
    refine wpAny_pure (hR s1 (mv.mono up) ?_)
    rw [← hlen, List.take_length] at hS
    obtain ⟨o, es, ep, t, ho, more⟩ := hS
    exact ⟨o, es, ep, t, mv.heap S _ nw ho, more⟩
  | succ m ih =>
    intro i s hm hi hst hS hR
    have lt : i < n := by omega
    obtain ⟨k0, hk0⟩ : ∃ k, ks[i]? = some k := ⟨ks[i]'(by omega), List.getElem?_eq_getElem (by omega)⟩
    refine codeAny_builtin PyProof.Rows.F.entry_set_update_loop ?_
    rw [Around.under_plainId PyProof.Rows.F.plain_set_update_loop _]
    show wpAny _ A.in1 (pyNext (.ref I) >>= _) _ _ s
    refine wpAny_bind (W.item i s _ _ lt hst fun v s1 hP hst1 mv => ?_)
    obtain ⟨hv, hsc⟩ := hat i v k0 hP hk0
    have hS1 : Heap.SetOf kd s1.heap S (fun k => decide (k ∈ dd [] (ks.take i))) (dd [] (ks.take i)).length := by
      obtain ⟨o, es, ep, t, ho, more⟩ := hS
      exact ⟨o, es, ep, t, mv.heap S _ nw ho, more⟩
    show wpAny _ A.in1 (holding [v] (setAdd S v) >>= _) _ _ s1
    refine wpAny_bind (wpAny_holding ?_)
    unfold setAdd
    refine wpAny_holding ?_
    refine wpAny_bind (kd.pyHash (k := k0) hv ?_)
    have small : (dd [] (ks.take i)).length + 1 < scanBound := by
      have q := dd_len_le (ks.take i) []
      rw [List.length_take, List.length_nil] at q
      unfold scanBound
      omega
    refine wpAny_setAddHashed_of (knd := kd) (s := { s1 with toks := s1.toks + 1 }) hv hsc hS1 small fun h2 sb hS2 => ?_
    have et : ks.take (i + 1) = ks.take i ++ [k0] := by
      rw [List.take_add_one, hk0] <;> rfl
    have hS3 : Heap.SetOf kd h2 S (fun k => decide (k ∈ dd [] (ks.take (i + 1)))) (dd [] (ks.take (i + 1))).length := by
      rw [et, dd_snoc]
      by_cases hin : k0 ∈ dd [] (ks.take i)
      · rw [if_pos hin]
        rw [if_pos (decide_eq_true hin)] at hS2
        have e : (fun k' => decide (k' ∈ dd [] (ks.take i)) || decide (k' = k0)) = fun k => decide (k ∈ dd [] (ks.take i)) := by
          funext k'
          by_cases q : k' = k0
          · subst q
            simp [hin]
          · simp [q]
        rw [e] at hS2
        exact hS2
      · rw [if_neg hin]
        rw [if_neg (by simpa using hin)] at hS2
        have e : (fun k' => decide (k' ∈ dd [] (ks.take i)) || decide (k' = k0)) = fun k => decide (k ∈ dd [] (ks.take i) ++ [k0]) := by
          funext k'
          simp [List.mem_append]
        rw [e] at hS2
        rw [List.length_append]
        exact hS2
    refine wpAny_pure ⟨plainId_quiet PyProof.Rows.F.plain_set_update_loop _, ih (i + 1) _ (by omega) lt (W.frame _ s1 _ _ hst1 (Nat.le_succ _) fun c hc o e => ?_) hS3 fun s3 mv3 hS4 => ?_⟩
    · rw [sb.2 c (fun z : c = S => hSf (by rw [← z]; exact hc))]
      exact e
    · refine hR s3 (Moved.trans W.gtrans ((mv.mono up).then_heap (Nat.le_succ _) fun c o hc e => ?_) mv3) hS4
      rw [sb.2 c (fun z : c = S => hc (by rw [z]; exact List.mem_cons_self))]
      exact e
end
section
variable {prog : Program} {w : World} {A : Around} {E : Value → Shared → Prop} {s : Shared} {κ : Type} [DecidableEq κ] {kd : KeyKind prog w κ}
def blankSet (led : Bool) : Obj := { cls := .type "set", dict := none, data := .set #[] 0 (.fresh 0 0 led) }
/-- set(l), l a list (isT false) or a tuple (isT true) -/
theorem call_setK {l : Addr} {its : Array Value} {ks : List κ} {Q : Value → Shared → Prop} (hA : A.handled = none) (hl : s.heap.IsList l its ∨ s.heap.IsTuple l its)
    (hlen : ks.length = its.size) (hmax : its.size < 4000) (hat : ∀ (i : Nat) (v : Value) (k : κ), its[i]? = some v → ks[i]? = some k → kd.is k v = true ∧ v.scannable = true)
    (h : ∀ (h' : Heap) (tk : Nat), Heap.SetOf kd h' s.heap.objs.size (fun k => decide (k ∈ dd [] ks)) (dd [] ks).length →
      (∀ c o, c < s.heap.objs.size → s.heap.get? c = some o → h'.get? c = some o) → Q (.ref s.heap.objs.size) { s with heap := h', toks := tk }) :
    wpAny (model prog w) A (call (.type "set") [.ref l]) Q E s := by
  obtain ⟨c, tl, hmro⟩ := PySem.F.called_set.mro
  have hmade := PySem.F.called_set.made
  have hsub := PySem.F.called_set.sub
  refine wpAny_call (codeAny_of_tree ?_)
  show wpAny _ _ (callAny (.type "set") _) _ _ _
  refine wpAny_pure ⟨Code.quiet_builtin _ (by decide +kernel), codeAny_builtin PySem.F.entry_type_call ?_⟩
  rw [Around.under_plain (weight_type_call_type "set" [.ref l] []) rfl]
  have h1 := PySem.F.called_set.notType
  have h2 := PySem.F.called_set.canCreate
  have hct := PySem.F.typeCall_set_1 (.ref l)
  repeat (any_goals (first | assumption | wp_step))
  refine codeAny_mono (code_set_new_1 (.ref l) (E := E) (Q₁ := fun b s₁ => ∃ led : Bool, b = .ref s.heap.objs.size ∧ s₁ = { s with heap := s.heap.push (blankSet led) }) fun led => ⟨led, rfl, rfl⟩) fun r s₁ hr => ?_
  cases r with
  | error e => exact hr
  | ok fl =>
    cases fl with
    | ret b =>
      obtain ⟨led, rfl, rfl⟩ := hr
      have hS : (s.heap.push (blankSet led)).get? s.heap.objs.size = some (blankSet led) := Heap.get?_push_size _ rfl
      have hT : Shared.TypeIs { s with heap := s.heap.push (blankSet led) } (.ref s.heap.objs.size) "set" := ⟨_, hS, rfl⟩
      have hli := PySem.F.called_set.init.lookup
      have hbi := PySem.F.called_set.init.bind (.ref s.heap.objs.size)
      repeat (any_goals (first | assumption | wp_step))
      refine codeAny_mono (codeAny_call_builtin (R := wants (fun r s₂ => r = .none ∧ ∃ h' tk, s₂ = { s with heap := h', toks := tk } ∧
          Heap.SetOf kd h' s.heap.objs.size (fun k => decide (k ∈ dd [] ks)) (dd [] ks).length ∧
          (∀ c o, c < s.heap.objs.size → s.heap.get? c = some o → h'.get? c = some o)) E) PySem.F.called_set.init.plain PySem.F.entry_set_init (check_set_init_1 hT ?_)) fun r₂ s₂ hr₂ => ?_
      · have fin : ∀ (s1 : Shared) (I : Addr), I ≠ s.heap.objs.size → s.heap.objs.size < I → Moved [s.heap.objs.size, I] (fun a b => a = b) { s with heap := (s.heap.push (blankSet led)) } s1 → True := fun _ _ _ _ _ => trivial
        clear fin
        rcases hl with hl | hl
        · obtain ⟨ol, hol, hcl, nl, hdl⟩ := hl
          obtain ⟨ocls, odict, odata, oslots⟩ := ol
          simp only at hcl hdl
          subst hcl; subst hdl
          have hol' : (s.heap.push (blankSet led)).get? l = some { cls := .type "list", dict := odict, data := .seq its nl, slots := oslots } := Heap.get?_push_of_some _ hol
          have hsls := PySem.F.sub_list_set
          have hslf := PySem.F.sub_list_frozenset
          have hne : (Value.type "list" == Value.type "dict") = false := by decide
          have hl1 : (s.heap.push (blankSet led)).IsList l its := ⟨_, hol', rfl, nl, rfl⟩
          unfold Builtin.«set.__init__» noKeywords Builtin.Frozenset.updateFrom
          generalize hPI : pyIter = PI
          wp_walk
          subst hPI
          refine wpAny_pyIter_list hl1 ?_
          refine wpAny_bind (wpAny_runValue ?_)
          have hlS : l < s.heap.objs.size := Heap.lt_size hol
          have h3 : A.in1.in1.in1.handled = none := by simp [hA]
          have nI : l ≠ (s.heap.push (blankSet led)).objs.size := by
            rw [Heap.size_push]; exact Nat.ne_of_lt (Nat.lt_succ_of_lt hlS)
          have nS : s.heap.objs.size ∉ [(s.heap.push (blankSet led)).objs.size, l] := by
            rw [Heap.size_push]; simp only [List.mem_cons, List.mem_singleton, List.not_mem_nil, or_false, not_or]
            exact ⟨Nat.ne_of_lt (Nat.lt_succ_self _), Nat.ne_of_gt hlS⟩
          refine turnK (kd := kd) ((Walks.list h3 _ l nI its).toS) s.heap.objs.size nS ks hlen hmax (fun i v k hv hk => hat i v k hv hk) (its.size - 0) 0 _ (by omega) (Nat.zero_le _) ⟨⟨_, Heap.get?_push_size _ rfl, rfl, rfl⟩, (hl1.push _)⟩ ?hS0 ?hR
          case hS0 =>
            have hget : ((s.heap.push (blankSet led)).push { cls := .type "list_iterator", data := .fields #[.ref l, .int 0 0] }).get? s.heap.objs.size = some (blankSet led) := Heap.get?_push_of_some _ hS
            exact PyProof.Rows.SetOf_congr ((PyProof.Rows.setObjOf_fresh (knd := kd) led).setOf hget (by unfold scanBound; omega)) (fun _ => rfl) rfl
          case hR =>
            intro s' mv hS'
            obtain ⟨h', g', d', tk', os'⟩ := s'
            obtain rfl : g' = s.gens := mv.gens
            obtain rfl : d' = s.drawn := mv.drawn
            obtain rfl : os' = s.os := mv.os
            show wpAny _ _ _ _ _ _
            refine wpAny_pure ?_
            show wpAny _ _ (ret Value.none) _ _ _
            refine wpAny_pure ⟨rfl, h', tk', rfl, hS', fun c o hc e => ?_⟩
            have n1 : c ≠ s.heap.objs.size := Nat.ne_of_lt hc
            have n2 : c ≠ (s.heap.push (blankSet led)).objs.size := by
              rw [Heap.size_push]; exact Nat.ne_of_lt (Nat.lt_succ_of_lt hc)
            exact mv.heap c o (by simp only [List.mem_cons, List.mem_singleton, List.not_mem_nil, or_false, not_or]; exact ⟨n1, n2⟩) (Heap.get?_push_of_some _ (Heap.get?_push_of_some _ e))
        · obtain ⟨ol, hol, hcl, nl, hdl⟩ := hl
          obtain ⟨ocls, odict, odata, oslots⟩ := ol
          simp only at hcl hdl
          subst hcl; subst hdl
          have hol' : (s.heap.push (blankSet led)).get? l = some { cls := .type "tuple", dict := odict, data := .seq its nl, slots := oslots } := Heap.get?_push_of_some _ hol
          have hsls := PySem.F.sub_tuple_set
          have hslf := PySem.F.sub_tuple_frozenset
          have hne : (Value.type "tuple" == Value.type "dict") = false := by decide
          have hl1 : (s.heap.push (blankSet led)).IsTuple l its := ⟨_, hol', rfl, nl, rfl⟩
          unfold Builtin.«set.__init__» noKeywords Builtin.Frozenset.updateFrom
          generalize hPI : pyIter = PI
          wp_walk
          subst hPI
          refine wpAny_pyIter_tuple hl1 ?_
          refine wpAny_bind (wpAny_runValue ?_)
          have hlS : l < s.heap.objs.size := Heap.lt_size hol
          have h3 : A.in1.in1.in1.handled = none := by simp [hA]
          have nI : l ≠ (s.heap.push (blankSet led)).objs.size := by
            rw [Heap.size_push]; exact Nat.ne_of_lt (Nat.lt_succ_of_lt hlS)
          have nS : s.heap.objs.size ∉ [(s.heap.push (blankSet led)).objs.size, l] := by
            rw [Heap.size_push]; simp only [List.mem_cons, List.mem_singleton, List.not_mem_nil, or_false, not_or]
            exact ⟨Nat.ne_of_lt (Nat.lt_succ_self _), Nat.ne_of_gt hlS⟩
          refine turnK (kd := kd) ((Walks.tuple h3 _ l nI its).toS) s.heap.objs.size nS ks hlen hmax (fun i v k hv hk => hat i v k hv hk) (its.size - 0) 0 _ (by omega) (Nat.zero_le _) ⟨⟨_, Heap.get?_push_size _ rfl, rfl, rfl⟩, (hl1.push _)⟩ ?hS0 ?hR
          case hS0 =>
            have hget : ((s.heap.push (blankSet led)).push { cls := .type "tuple_iterator", data := .fields #[.ref l, .int 0 0] }).get? s.heap.objs.size = some (blankSet led) := Heap.get?_push_of_some _ hS
            exact PyProof.Rows.SetOf_congr ((PyProof.Rows.setObjOf_fresh (knd := kd) led).setOf hget (by unfold scanBound; omega)) (fun _ => rfl) rfl
          case hR =>
            intro s' mv hS'
            obtain ⟨h', g', d', tk', os'⟩ := s'
            obtain rfl : g' = s.gens := mv.gens
            obtain rfl : d' = s.drawn := mv.drawn
            obtain rfl : os' = s.os := mv.os
            show wpAny _ _ _ _ _ _
            refine wpAny_pure ?_
            show wpAny _ _ (ret Value.none) _ _ _
            refine wpAny_pure ⟨rfl, h', tk', rfl, hS', fun c o hc e => ?_⟩
            have n1 : c ≠ s.heap.objs.size := Nat.ne_of_lt hc
            have n2 : c ≠ (s.heap.push (blankSet led)).objs.size := by
              rw [Heap.size_push]; exact Nat.ne_of_lt (Nat.lt_succ_of_lt hc)
            exact mv.heap c o (by simp only [List.mem_cons, List.mem_singleton, List.not_mem_nil, or_false, not_or]; exact ⟨n1, n2⟩) (Heap.get?_push_of_some _ (Heap.get?_push_of_some _ e))
      · cases r₂ with
        | error e => exact hr₂
        | ok fl₂ =>
          cases fl₂ with
          | ret r =>
            obtain ⟨rfl, h', tk, rfl, hS', hk'⟩ := hr₂
            repeat (any_goals (first | assumption | wp_step))
            exact h _ _ hS' hk'
          | _ => exact hr₂.elim
    | _ => exact hr.elim
end
end EvS
namespace L2
open PySem PySem.Spec PyProof.Rows EvS
section
variable {X : Cx}
/-- len(set(xs)), xs a list or a tuple of texts -/
def tLenSetS (K : PySem.W.Frag) (ta : TE) : TE := fun σ H Q => ta σ H fun x H1 => ∃ (l : Addr) (xs : List Str), x = .ref l ∧ (SqL K H1 l (xs.map V.str) ∨ SqT K H1 l (xs.map V.str)) ∧ xs.length < 4000 ∧ Q (.int ((dd [] xs).length : Nat)) H1
theorem texts_at : ∀ {xs : List Str} {us : List Value}, Vals (xs.map V.str) us → ∀ (i : Nat) (v : Value) (k : Str), us[i]? = some v → xs[i]? = some k → ∃ t, v = Value.str k t
  | [], _, _, i, v, k, _, h => by simp at h
  | x :: xs, _, .cons r t, 0, v, k, h1, h2 => by
    obtain ⟨tk, rfl⟩ := r
    simp only [List.getElem?_cons_zero, Option.some.injEq] at h1 h2
    subst h1 h2
    exact ⟨tk, rfl⟩
  | x :: xs, _, .cons r t, i + 1, v, k, h1, h2 => by
    simp only [List.getElem?_cons_succ] at h1 h2
    exact texts_at t i v k h1 h2
theorem pe_lenSetS {a : Expr} {ta : TE} {p p2 q pos : Pos} (hc : X.calm = true) (hg : Gl X "len") (hm : X.mg "len" = none) (hg2 : Gl X "set") (hm2 : X.mg "set" = none) (ha : PE X a ta)
    (na : starEach [a] X.env = (false, eval a X.env) :: starEach [] X.env := by rfl) : PE X (.Call (.Name "len" p) [.Call (.Name "set" p2) [a] [] q] [] pos) (tLenSetS X.K ta) := by
  refine ⟨fun pins s σ H Q I h => ?_⟩
  refine Call_ (ld_blt I hg hm boot_len ?_)
  refine PyProof.Rows.callWith_builtin1 (PyProof.Rows.args_cons ?_ rfl) rfl rfl
  refine Call_ (ld_blt I hg2 hm2 boot_set ?_)
  refine PyProof.Rows.callWith_type1 (PyProof.Rows.args_cons (thn (ha.run pins s σ H _ I h) fun v s1 ⟨x, H1, I1, r1, q1⟩ => PyProof.Rows.args_nil ?_) na) na rfl
  obtain ⟨l, xs, rfl, hq, hmax, q1⟩ := q1
  cases r1
  have go : ∀ (its : List Value), Vals (xs.map V.str) its → (s1.heap.IsList l its.toArray ∨ s1.heap.IsTuple l its.toArray) →
      wpAny (model X.prog X.w) X.A (call (.type "set") [.ref l]) (fun v s₂ => wpAny (model X.prog X.w) X.A (spliced (backTo pos (starEach [] X.env))) (fun vs s₃ => wpAny (model X.prog X.w) X.A (call (.builtin "len") (v :: vs)) (EP X pins σ Q) X.xe s₃) X.xe s₂) X.xe s1 := fun its r pl => by
    have hl : its.toArray.size = xs.length := by rw [List.size_toArray, ← r.length, List.length_map]
    refine call_setK (kd := PySem.strKind X.prog X.w) (ks := xs) (I1.ok.hd hc) pl hl.symm (by rw [hl]; exact hmax) (fun i v k hv hk => ?_) fun h' tk hS hk => ?_
    · obtain ⟨t, rfl⟩ := texts_at r i v k (by rw [List.getElem?_toArray] at hv; exact hv) hk
      exact ⟨strKind_is _ _ _ _, rfl⟩
    · refine PyProof.Rows.args_nil ?_
      obtain ⟨o, es, ep, t, ho, hex, hd, _, _, _, hf, hn⟩ := hS
      have I2 : Inv X pins σ H1 { s1 with heap := h', toks := tk } := I1.kept fun c o e => hk c o (Heap.lt_size e) e
      have sm := dd_len_le xs []
      rw [List.length_nil] at sm
      exact call_len_set ho hex hd hf (by rw [hn] <;> omega) ⟨.int ((dd [] xs).length : Nat), H1, I2.tok _, ⟨_, by rw [hn]⟩, q1⟩
  rcases hq with hq | hq
  · obtain ⟨its, r, pl, hz⟩ := I1.list hq
    exact go its r (.inl pl.isList)
  · obtain ⟨its, r, pl, hz⟩ := I1.tuple hq
    exact go its r (.inr pl)
end
end L2

set_option Elab.async false
set_option linter.all false
set_option maxRecDepth 100000
set_option maxHeartbeats 4000000
namespace EvS
open PySem PySem.Spec PyProof.Rows L2
section
variable {X : Cx}
def rTupK (K : PySem.W.Frag) : List V → Hp → VK → Prop := fun xs H Q => ∃ p ys, xs = [.ref p] ∧ ((SqL K H p ys ∧ ∀ l, H l = none → Q (.ref l) (upd H l (.tup ys))) ∨ (SqT K H p ys ∧ Q (.ref p) H))
theorem call_tupK : CallR X (.type "tuple") (rTupK X.K) := call_tuple_of
/-- tuple(xs), xs a list or a tuple -/
def rTupS (K : PySem.W.Frag) : List V → Hp → VK → Prop := fun xs H Q => ∃ p ys, xs = [.ref p] ∧ (SqL K H p ys ∨ SqT K H p ys) ∧ ∀ u H', Evl.Ex H H' → SqT K H' u ys → Q (.ref u) H'
theorem call_tupS : CallR X (.type "tuple") (rTupS X.K) := fun pins s σ H xs us Q I r h => by
  obtain ⟨p, ys, e, hs, q⟩ := h
  refine call_tuple_of pins s σ H xs us Q I r ⟨p, ys, e, ?_⟩
  rcases hs with hs | hs
  · exact .inl ⟨hs, fun l hl => q l _ (Evl.Ex.new hl) (Evl.st_of upd_same)⟩
  · exact .inr ⟨hs, q p H (Evl.Ex.refl H) hs⟩
def rLstK (K : PySem.W.Frag) : List V → Hp → VK → Prop := fun xs H Q => ∃ p ys, xs = [.ref p] ∧ (SqL K H p ys ∨ SqT K H p ys) ∧ ∀ l, H l = none → Q (.ref l) (upd H l (.lst ys))
theorem call_lstK : CallR X (.type "list") (rLstK X.K) := call_list_of
/-- what is never reached -/
theorem pss_any {b : List Stmt} : PSs X b (fun _ _ _ => False) := ⟨fun _ _ _ _ _ _ q => q.elim⟩
theorem ps_any {b : Stmt} : PS X b (fun _ _ _ => False) := ⟨fun _ _ _ _ _ _ q => q.elim⟩
theorem pe_any {e : Expr} : PE X e (fun _ _ _ => False) := ⟨fun _ _ _ _ _ _ q => q.elim⟩
theorem pt_any {e : Expr} : PT X e (fun _ _ _ => False) := ⟨fun _ _ _ _ _ _ q => q.elim⟩
/-- the one way or the other -/
theorem pi_or {tg it : Expr} {w1 w2 : TI} (a : PI X tg it w1) (b : PI X tg it w2) : PI X tg it (fun σ H R => w1 σ H R ∨ w2 σ H R) :=
  ⟨fun pins s σ H R I h => h.elim (fun q => a.run pins s σ H R I q) (fun q => b.run pins s σ H R I q)⟩
theorem pe_or2 {e : Expr} {t1 t2 : TE} (a : PE X e t1) (b : PE X e t2) : PE X e (fun σ H Q => t1 σ H Q ∨ t2 σ H Q) :=
  ⟨fun pins s σ H Q I h => h.elim (fun q => a.run pins s σ H Q I q) (fun q => b.run pins s σ H Q I q)⟩
end
section
variable {X : Cx}
theorem pe_gI {x : Str} {n : Int} {pos : Pos} (hg : Gl X x) (h : ∃ t, X.mg x = some (.int n t)) (hd : (x == ("__debug__" : Str)) = false := by decide) : PE X (.Name x pos) (tC (.int n)) := by
  obtain ⟨t, e⟩ := h
  exact pe_glob hg e ⟨t, rfl⟩ hd
theorem pe_gS {x : Str} {z : Str} {pos : Pos} (hg : Gl X x) (h : ∃ t, X.mg x = some (.str z t)) (hd : (x == ("__debug__" : Str)) = false := by decide) : PE X (.Name x pos) (tC (.str z)) := by
  obtain ⟨t, e⟩ := h
  exact pe_glob hg e ⟨t, rfl⟩ hd
end
/-- a op b op c op d, as a test -/
def tChain3 (r1 r2 r3 : R2) (ta tb tc td : TE) : TE := fun σ H Q => ta σ H fun x H1 => tb σ H1 fun y H2 => r1 x y H2 fun z H3 => ∃ k, z = .bl k ∧ (if k = true then tc σ H3 fun u H4 => r2 y u H4 fun z' H5 => ∃ k', z' = .bl k' ∧ (if k' = true then td σ H5 fun v H6 => r3 u v H6 Q else Q (.bl false) H5) else Q (.bl false) H3)
theorem pt_chain3 {X : Cx} {a b c d : Expr} {ta tb tc td : TE} {pos : Pos} {o1 o2 o3 : CmpOp} {r1 r2 r3 : R2} (h1 : OpR X (compareOp o1) r1) (h2 : OpR X (compareOp o2) r2) (h3 : OpR X (compareOp o3) r3) (ha : PE X a ta) (hb : PE X b tb) (hc : PE X c tc) (hd : PE X d td)
    (hm : lastMarks [o1, o2, o3] [b, c, d] = false := by with_unfolding_all rfl) : PT X (.Compare a [o1, o2, o3] [b, c, d] pos) (tTest (tChain3 r1 r2 r3 ta tb tc td)) := by
  refine ⟨fun pins s σ H Q I h => ?_⟩
  refine isTrue_chain (thn (ha.run pins s σ H _ I h) fun v1 s1 ⟨x, H1, I1, y1, q1⟩ => test_link (thn (hb.run pins s1 σ H1 _ I1 q1) fun v2 s2 ⟨y, H2, I2, y2, q2⟩ => thn (h1 pins s2 σ H2 x y v1 v2 _ I2 y1 y2 q2) fun v3 s3 ⟨z, H3, I3, y3, k, e, q3⟩ => ?_)) hm
  subst e
  cases y3
  refine wpAny_truthy_bool ?_
  cases k with
  | false =>
    obtain ⟨k', e', q'⟩ := q3
    cases e'
    exact ite_ff ⟨H3, I3, q'⟩
  | true =>
    refine ite_tt (test_link (thn (hc.run pins s3 σ H3 _ I3 q3) fun v4 s4 ⟨u, H4, I4, y4, q4⟩ => thn (h2 pins s4 σ H4 y u v2 v4 _ I4 y2 y4 q4) fun v5 s5 ⟨z', H5, I5, y5, k', e', q5⟩ => ?_))
    subst e'
    cases y5
    refine wpAny_truthy_bool ?_
    cases k' with
    | false =>
      obtain ⟨k2, e2, q2'⟩ := q5
      cases e2
      exact ite_ff ⟨H5, I5, q2'⟩
    | true =>
      refine ite_tt (test_last (thn (hd.run pins s5 σ H5 _ I5 q5) fun v6 s6 ⟨v, H6, I6, y6, q6⟩ => thn (h3 pins s6 σ H6 u v v4 v6 _ I6 y4 y6 q6) fun v7 s7 ⟨z2, H7, I7, y7, k2, e2, q7⟩ => ?_))
      subst e2
      cases y7
      exact wpAny_truthy_bool ⟨H7, I7, q7⟩
theorem for_sign {x : Str} {g : TG} {tb : TS} {D : Ends} {σ : L2.St} {H : Hp} (Pv : Nat → L2.St → Hp → Prop) (h0 : Pv 0 σ H)
    (hs : ∀ i c σ H, x.cps[i]? = some c → Pv i σ H → g (.str ⟨#[c]⟩) σ H fun σ2 H2 => tb { D with nx := Pv (i + 1), ct := Pv (i + 1), bk := D.nx } σ2 H2) (hd : ∀ σ H, Pv x.cps.size σ H → D.nx σ H) :
    ∃ W : Nat → Nat → L2.St → Hp → Prop, (∃ m, W 0 m σ H) ∧ ∀ i m σ H, W i m σ H → ((Its x).stop i H ∧ D.nx σ H) ∨
      ((Its x).go i H ∧ ∃ N : L2.St → Hp → Prop, (∀ σ' H', N σ' H' → ∃ m', m' < m ∧ W (i + 1) m' σ' H') ∧ ∀ v H', (Its x).yld i H v H' → g v σ H' fun σ2 H2 => tb { D with nx := N, ct := N, bk := D.nx } σ2 H2) := by
  refine ⟨fun i m σ H => m = x.cps.size - i ∧ i ≤ x.cps.size ∧ Pv i σ H, ⟨x.cps.size, rfl, Nat.zero_le _, h0⟩, ?_⟩
  rintro i m σ H ⟨rfl, hi, p⟩
  by_cases lt : i < x.cps.size
  · refine .inr ⟨lt, Pv (i + 1), fun σ' H' p' => ⟨x.cps.size - (i + 1), by omega, rfl, lt, p'⟩, fun v H' y => ?_⟩
    obtain ⟨rfl, c, hc, rfl⟩ := y
    exact hs i c σ _ hc p
  · obtain rfl : i = x.cps.size := by omega
    exact .inl ⟨Nat.le_refl _, hd σ H p⟩
theorem lc_sign {x : Str} {g : TG} {tt : TT} {te : TE} {vs : List Nat} {σ : L2.St} {H1 : Hp} {D : Addr} {Qd : Hp → Prop} (Pv : Nat → Hp → Prop) (h0 : Pv 0 (upd H1 D (.lst [])))
    (hs : ∀ i c H, x.cps[i]? = some c → Pv i H → g (.str ⟨#[c]⟩) (wipe σ vs) H fun σ2 H2 => wipe σ2 vs = wipe σ vs ∧ tt σ2 H2 fun b H3 =>
      if b = true then te σ2 H3 fun y H4 => ∃ acc, H4 D = some (.lst acc) ∧ acc.length < sizeLine ∧ Pv (i + 1) (upd H4 D (.lst (acc ++ [y]))) else Pv (i + 1) H3) (hd : ∀ H, Pv x.cps.size H → Qd H) :
    ∃ W : Nat → Nat → Hp → Prop, (∃ m, W 0 m (upd H1 D (.lst []))) ∧ ∀ i m H, W i m H → ((Its x).stop i H ∧ Qd H) ∨
      ((Its x).go i H ∧ ∃ Nx : Hp → Prop, (∀ H', Nx H' → ∃ m', m' < m ∧ W (i + 1) m' H') ∧ ∀ v H', (Its x).yld i H v H' → g v (wipe σ vs) H' fun σ2 H2 => wipe σ2 vs = wipe σ vs ∧ tt σ2 H2 fun b H3 =>
        if b = true then te σ2 H3 fun y H4 => ∃ acc, H4 D = some (.lst acc) ∧ acc.length < sizeLine ∧ Nx (upd H4 D (.lst (acc ++ [y]))) else Nx H3) := by
  refine ⟨fun i m H => m = x.cps.size - i ∧ i ≤ x.cps.size ∧ Pv i H, ⟨x.cps.size, rfl, Nat.zero_le _, h0⟩, ?_⟩
  rintro i m H ⟨rfl, hi, p⟩
  by_cases lt : i < x.cps.size
  · refine .inr ⟨lt, Pv (i + 1), fun H' p' => ⟨x.cps.size - (i + 1), by omega, rfl, lt, p'⟩, fun v H' y => ?_⟩
    obtain ⟨rfl, c, hc, rfl⟩ := y
    exact hs i c _ hc p
  · obtain rfl : i = x.cps.size := by omega
    exact .inl ⟨Nat.le_refl _, hd H p⟩
/-- the same of a comprehension without a test -/
theorem lcY_sign {x : Str} {g : TG} {te : TE} {vs : List Nat} {σ : L2.St} {H1 : Hp} {D : Addr} {Qd : Hp → Prop} (Pv : Nat → Hp → Prop) (h0 : Pv 0 (upd H1 D (.lst [])))
    (hs : ∀ i c H, x.cps[i]? = some c → Pv i H → g (.str ⟨#[c]⟩) (wipe σ vs) H fun σ2 H2 => wipe σ2 vs = wipe σ vs ∧ te σ2 H2 fun y H4 => ∃ acc, H4 D = some (.lst acc) ∧ acc.length < sizeLine ∧ Pv (i + 1) (upd H4 D (.lst (acc ++ [y])))) (hd : ∀ H, Pv x.cps.size H → Qd H) :
    ∃ W : Nat → Nat → Hp → Prop, (∃ m, W 0 m (upd H1 D (.lst []))) ∧ ∀ i m H, W i m H → ((Its x).stop i H ∧ Qd H) ∨
      ((Its x).go i H ∧ ∃ Nx : Hp → Prop, (∀ H', Nx H' → ∃ m', m' < m ∧ W (i + 1) m' H') ∧ ∀ v H', (Its x).yld i H v H' → g v (wipe σ vs) H' fun σ2 H2 => wipe σ2 vs = wipe σ vs ∧ tYes σ2 H2 fun b H3 =>
        if b = true then te σ2 H3 fun y H4 => ∃ acc, H4 D = some (.lst acc) ∧ acc.length < sizeLine ∧ Nx (upd H4 D (.lst (acc ++ [y]))) else Nx H3) :=
  lc_sign Pv h0 (fun i c H hc p => hs i c H hc p) hd
theorem lcY_list {K : PySem.W.Frag} {a : Addr} {xs : List V} {g : TG} {te : TE} {vs : List Nat} {σ : L2.St} {H1 : Hp} {D : Addr} {Qd : Hp → Prop} (Pv : Nat → Hp → Prop) (h0 : Pv 0 (upd H1 D (.lst []))) (hl : ∀ i H, i ≤ xs.length → Pv i H → SqL K H a xs)
    (hs : ∀ i x H, xs[i]? = some x → Pv i H → g x (wipe σ vs) H fun σ2 H2 => wipe σ2 vs = wipe σ vs ∧ te σ2 H2 fun y H4 => ∃ acc, H4 D = some (.lst acc) ∧ acc.length < sizeLine ∧ Pv (i + 1) (upd H4 D (.lst (acc ++ [y])))) (hd : ∀ H, Pv xs.length H → Qd H) :
    ∃ W : Nat → Nat → Hp → Prop, (∃ m, W 0 m (upd H1 D (.lst []))) ∧ ∀ i m H, W i m H → ((Itl K a).stop i H ∧ Qd H) ∨
      ((Itl K a).go i H ∧ ∃ Nx : Hp → Prop, (∀ H', Nx H' → ∃ m', m' < m ∧ W (i + 1) m' H') ∧ ∀ x H', (Itl K a).yld i H x H' → g x (wipe σ vs) H' fun σ2 H2 => wipe σ2 vs = wipe σ vs ∧ tYes σ2 H2 fun b H3 =>
        if b = true then te σ2 H3 fun y H4 => ∃ acc, H4 D = some (.lst acc) ∧ acc.length < sizeLine ∧ Nx (upd H4 D (.lst (acc ++ [y]))) else Nx H3) :=
  lc_list Pv h0 hl (fun i c H hc p => hs i c H hc p) hd
theorem lcY_tup {K : PySem.W.Frag} {a : Addr} {xs : List V} {g : TG} {te : TE} {vs : List Nat} {σ : L2.St} {H1 : Hp} {D : Addr} {Qd : Hp → Prop} (Pv : Nat → Hp → Prop) (h0 : Pv 0 (upd H1 D (.lst []))) (hl : ∀ i H, i ≤ xs.length → Pv i H → SqT K H a xs)
    (hs : ∀ i x H, xs[i]? = some x → Pv i H → g x (wipe σ vs) H fun σ2 H2 => wipe σ2 vs = wipe σ vs ∧ te σ2 H2 fun y H4 => ∃ acc, H4 D = some (.lst acc) ∧ acc.length < sizeLine ∧ Pv (i + 1) (upd H4 D (.lst (acc ++ [y])))) (hd : ∀ H, Pv xs.length H → Qd H) :
    ∃ W : Nat → Nat → Hp → Prop, (∃ m, W 0 m (upd H1 D (.lst []))) ∧ ∀ i m H, W i m H → ((Itt K a).stop i H ∧ Qd H) ∨
      ((Itt K a).go i H ∧ ∃ Nx : Hp → Prop, (∀ H', Nx H' → ∃ m', m' < m ∧ W (i + 1) m' H') ∧ ∀ x H', (Itt K a).yld i H x H' → g x (wipe σ vs) H' fun σ2 H2 => wipe σ2 vs = wipe σ vs ∧ tYes σ2 H2 fun b H3 =>
        if b = true then te σ2 H3 fun y H4 => ∃ acc, H4 D = some (.lst acc) ∧ acc.length < sizeLine ∧ Nx (upd H4 D (.lst (acc ++ [y]))) else Nx H3) :=
  lc_tup Pv h0 hl (fun i c H hc p => hs i c H hc p) hd
theorem exc_self {K : PySem.W.Frag} {S : Addr} (h1 : PySem.W.subIn K (.ref S) (.type "BaseException") = some true) (h2 : PySem.W.isClsIn K S = true) (h3 : PySem.W.typeIn K (.ref S) = some (.type "type")) (h4 : PySem.W.subIn K (.ref S) (.ref S) = some true) :
    PySem.W.exmOne K (.ref S) (.ref S) = some true := by
  have e1 : (PySem.W.subIn K (.ref S) (.type "BaseException") == some true) = true := by rw [h1] <;> rfl
  have e2 : ((PySem.W.clsIn K S).isSome && PySem.W.typeIn K (.ref S) == some (.type "type")) = true := by
    have h2' : (PySem.W.clsIn K S).isSome = true := h2
    rw [h2', h3] <;> rfl
  show (if (PySem.W.subIn K (.ref S) (.type "BaseException") == some true) = true then (if ((PySem.W.clsIn K S).isSome && PySem.W.typeIn K (.ref S) == some (.type "type")) = true then PySem.W.subIn K (.ref S) (.ref S) else none) else none) = some true
  rw [if_pos e1, if_pos e2]
  exact h4
end EvS

set_option Elab.async false
set_option linter.all false
set_option maxRecDepth 100000
set_option maxHeartbeats 4000000
/-! len(set(xs)), xs a list of different tuples of texts (fewer than 64) -/
namespace TxSet
open PySem PySem.Spec PyProof.Rows L2
section
variable {P : Program} {w : World} {A : Around} {E : Value → Shared → Prop} {s : Shared}
abbrev TwAt (P : Program) (w : World) (h : Heap) (k : List Str) (b : Addr) : Prop := IsTupleKey (PySem.strKind P w) h k b
abbrev hs (P : Program) (w : World) (k : List Str) : Int := tupleKeyHash (PySem.strKind P w) k
abbrev go0 (t : SetTable) (h : Int) : SetTable.Probe := runAt t.mask (SetTable.bits h % (t.mask + 1)) (SetTable.bits h)
theorem words_of {k : List Str} {vs : List Value} (h : ItemsAre (PySem.strKind P w) k vs) : ∀ v ∈ vs, ∃ z t, v = Value.str z t := by
  induction h with
  | nil => exact fun v hv => by cases hv
  | @cons k0 u ks us h1 _ ih =>
    intro v hv
    cases hv with
    | head =>
      obtain ⟨t, e⟩ := Value.isStrOf_shape h1
      exact ⟨k0, t, e⟩
    | tail _ q => exact ih v q
theorem noClass (n : Nat) (z : Str) (t : Tok) : ofAClassStatement n (.str z t) = pure false := by cases n <;> rfl
theorem byVal (n : Nat) (z : Str) (t : Tok) : hashByValue n (.str z t) = pure false := by cases n <;> rfl
theorem noClassT {k : List Str} {b : Addr} {Q : Bool → Shared → Prop} (hk : TwAt P w s.heap k b) (q : Q false s) : wpAny (model P w) A (ofAClassStatement 8 (.ref b)) Q E s := by
  have ty := hk.typeIs
  obtain ⟨o, its, n, ho, _, hd, hi⟩ := hk
  have all := words_of hi
  unfold ofAClassStatement
  refine wpAny_bind (wpAny_typeOf ty ?_)
  dsimp only
  simp only [show (("tuple" : String) == "tuple") = true by decide, if_true, Bool.not_true, Bool.false_eq_true, if_false]
  try refine wpAny_bind (wpAny_pure ?_)
  try simp only [Bool.not_true, Bool.false_eq_true, if_false]
  refine wpAny_bind (m := seqItems? (.ref b)) (wpAny_seqItems ho hd ?_)
  dsimp only
  refine wpAny_bind (m := forIn its _ _) ?_
  rw [← Array.forIn_toList]
  refine wpAny_forIn_list _ (fun l r s' => (∀ v ∈ l, ∃ z t, v = Value.str z t) ∧ r.1 = none ∧ s' = s) _ ?_ ?_ _ _ ⟨all, rfl, rfl⟩
  · rintro v l r s' ⟨hl, hr, rfl⟩
    obtain ⟨z, t, rfl⟩ := hl v List.mem_cons_self
    rw [noClass]
    refine wpAny_bind (wpAny_pure ?_)
    simp only [Bool.false_eq_true, if_false]
    exact wpAny_pure ⟨fun u hu => hl u (List.mem_cons_of_mem _ hu), rfl, rfl⟩
  · rintro ⟨r1, r2⟩ s' ⟨_, hr, rfl⟩
    simp only at hr
    subst hr
    exact wpAny_pure q
theorem byValT {k : List Str} {b : Addr} {Q : Bool → Shared → Prop} (hk : TwAt P w s.heap k b) (q : ∀ v, Q v s) : wpAny (model P w) A (hashByValue 8 (.ref b)) Q E s := by
  have ty := hk.typeIs
  obtain ⟨o, its, n, ho, _, hd, hi⟩ := hk
  have all := words_of hi
  unfold hashByValue
  refine wpAny_bind (wpAny_specialOf ty F.slot_tuple_hash.lookup ?_)
  refine wpAny_bind (m := seqItems? (.ref b)) (wpAny_seqItems ho hd ?_)
  refine wpAny_bind (m := forIn its _ _) ?_
  rw [← Array.forIn_toList]
  refine wpAny_forIn_list _ (fun l r s' => (∀ v ∈ l, ∃ z t, v = Value.str z t) ∧ r.1 = none ∧ s' = s) _ ?_ ?_ _ _ ⟨all, rfl, rfl⟩
  · rintro v l r s' ⟨hl, hr, rfl⟩
    obtain ⟨z, t, rfl⟩ := hl v List.mem_cons_self
    rw [byVal]
    refine wpAny_bind (wpAny_pure ?_)
    simp only [Bool.not_false, if_true]
    exact wpAny_pure (wpAny_pure (q false))
  · rintro ⟨r1, r2⟩ s' ⟨_, hr, rfl⟩
    simp only at hr
    subst hr
    exact wpAny_pure (q true)
/-- nothing of the table is shown -/
theorem hidden {k : List Str} {b : Addr} {Q : Bool → Shared → Prop} (hk : TwAt P w s.heap k b) {ys : List Value} (hy : ∀ y ∈ ys, ∃ c k2, y = Value.ref c ∧ TwAt P w s.heap k2 c) (q : Q false s) :
    wpAny (model P w) A (searchCouldBeSeen (.ref b) ys) Q E s := by
  unfold searchCouldBeSeen
  refine wpAny_bind (wpAny_forIn_list _ (fun l r s' => (∀ y ∈ l, ∃ c k2, y = Value.ref c ∧ TwAt P w s.heap k2 c) ∧ r.1 = none ∧ s' = s) _ ?_ ?_ _ _ ⟨hy, rfl, rfl⟩)
  · rintro v l r s' ⟨hl, hr, rfl⟩
    obtain ⟨c, k2, rfl, hc⟩ := hl v List.mem_cons_self
    have more := fun u hu => hl u (List.mem_cons_of_mem _ hu)
    dsimp only
    by_cases e : (b == c || (carriedByValue (.ref b) && carriedByValue (.ref c))) = true
    · exact wp_if_pos e (wpAny_pure ⟨more, rfl, rfl⟩)
    · refine wp_if_neg e (wpAny_bind (wpAny_eqIsQuiet_tuple hk ?_))
      simp only [Bool.not_true, Bool.false_eq_true, if_false]
      refine wpAny_bind (wpAny_eqIsQuiet_tuple hc ?_)
      simp only [Bool.not_true, Bool.false_eq_true, if_false]
      refine wpAny_bind (noClassT hk ?_)
      simp only [Bool.false_eq_true, if_false]
      refine wpAny_bind (noClassT hc ?_)
      simp only [Bool.false_eq_true, if_false]
      exact wpAny_pure ⟨more, rfl, rfl⟩
  · rintro ⟨r1, r2⟩ s' ⟨_, hr, rfl⟩
    simp only at hr
    subst hr
    exact wpAny_pure q
/-! ### the set as it grows -/
def cells (P : Program) (w : World) (L : List (Addr × List Str)) : List (Int × Value) := L.map fun p => (hs P w p.2, Value.ref p.1)
theorem cells_len (L : List (Addr × List Str)) : (cells P w L).length = L.length := List.length_map ..
structure Bag (P : Program) (w : World) (h : Heap) (a : Addr) (L : List (Addr × List Str)) (es : Array (Int × Value)) (ep : Nat) (t : SetTable) : Prop where
  obj : ∃ o, h.get? a = some o ∧ o.ExactSet ∧ o.data = .set es ep t
  cel : es.toList = cells P w L
  tab : TabOk t (L.map fun p => hs P w p.2)
  key : ∀ p ∈ L, TwAt P w h p.2 p.1
  lrn : w.params.followText "set-order" = true ∨ t.led = true
  rom : L.length * 5 < t.mask * 3
  sml : L.length < 64
variable {a : Addr} {L : List (Addr × List Str)} {es : Array (Int × Value)} {ep : Nat} {t : SetTable}
theorem Bag.size (B : Bag P w s.heap a L es ep t) : es.size = L.length := by
  rw [← Array.length_toList, B.cel, cells_len]
theorem Bag.places (B : Bag P w s.heap a L es ep t) : t.place.toList.length = L.length := by
  rw [Array.length_toList, B.tab.sz, List.length_map]
theorem Bag.fit (B : Bag P w s.heap a L es ep t) : t.fits es.size = true := by
  have q1 := B.places
  have q2 := B.size
  have q3 := B.rom
  rw [Array.length_toList] at q1
  unfold SetTable.fits SetTable.fill
  rw [B.tab.dm, Bool.and_eq_true, beq_iff_eq, decide_eq_true_eq]
  constructor
  · omega
  · show t.place.size + 0 ≤ t.mask
    omega
theorem Bag.cell (B : Bag P w s.heap a L es ep t) {i : Nat} {p : Addr × List Str} (h : L[i]? = some p) : es[i]? = some (hs P w p.2, Value.ref p.1) := by
  rw [← Array.getElem?_toList, B.cel]
  unfold cells
  rw [List.getElem?_map, h]
  rfl
theorem nth_plain (m : Nat) : ∀ (n : Nat) (p : SetTable.Probe), p.dummy = none → (nth m p n).dummy = none
  | 0, _, h => h
  | n + 1, p, h => by
    refine nth_plain m n (adv m p) ?_
    unfold adv
    split <;> exact h
/-- the search for what isn't there ends at the first empty slot of its way -/
theorem seek (B : Bag P w s.heap a L es ep t) {x : Addr} {k : List Str} (hx : TwAt P w s.heap k x) (hu : A.units < cLine) (away : ∀ p ∈ L, p.2 ≠ k) {K : Nat} (hK : K < 10 * SetTable.turns t.mask)
    (hfree : way t.mask (hs P w k) K ∉ t.place.toList) (hbusy : ∀ c, c < K → way t.mask (hs P w k) c ∈ t.place.toList) {Q : SetFound → Shared → Prop} (q : Q (.free (way t.mask (hs P w k) K) false) s) :
    ∀ (f c : Nat) (st : Option SetTable.Probe), st.getD (t.probeStart (hs P w k)) = nth t.mask (go0 t (hs P w k)) c → c ≤ K → K - c < f → wpAny (model P w) A (setSearchFrom a (.ref x) (hs P w k) true f st) Q E s := by
  intro f
  induction f with
  | zero => intro c st _ _ h; exact absurd h (Nat.not_lt_zero _)
  | succ f ih =>
    intro c st hst hc hf
    obtain ⟨o, ho, hex, hd⟩ := B.obj
    rw [setSearchFrom_succ]
    refine wpAny_bind (wpAny_setState_of ho hd B.fit ?_)
    dsimp only
    refine wp_if_neg (by unfold SetTable.gaveWay; rw [mask_odd B.tab.mok]; decide) ?_
    try refine wpAny_bind (wpAny_pure ?_)
    have shift : ∀ n, nth t.mask (nth t.mask (go0 t (hs P w k)) c) n = nth t.mask (go0 t (hs P w k)) (c + n) := fun n => (nth_add t.mask c _ n).symm
    have at_ : ∀ n, (nth t.mask (nth t.mask (go0 t (hs P w k)) c) n).j = way t.mask (hs P w k) (c + n) := fun n => congrArg SetTable.Probe.j (shift n)
    have back : c + (K - c) = K := by omega
    rcases go_spec t B.tab.ris B.tab.dm (fun i => (es[i]?.map (·.1)).getD 0) (hs P w k) (10 * SetTable.turns t.mask) (K - c) _ (nth_plain t.mask c _ rfl) (by omega) (fun n hn => by rw [at_]; exact hbusy _ (by omega)) (by rw [at_, back]; exact hfree) with ⟨n, i, hn, hi, _, _, e⟩ | ⟨_, e⟩
    · have e' : t.probe (fun i => (es[i]?.map (·.1)).getD 0) (hs P w k) (st.getD (t.probeStart (hs P w k))) = some (.candidate (way t.mask (hs P w k) (c + n)) i (nth t.mask (go0 t (hs P w k)) (c + (n + 1)))) := by
        rw [hst, ← at_, ← shift]
        exact e
      rw [e']
      dsimp only
      rw [at_] at hi
      have il : i < L.length := by
        rw [← B.places]
        exact (List.getElem?_eq_some_iff.mp hi).1
      obtain ⟨p, hp⟩ : ∃ p, L[i]? = some p := ⟨_, List.getElem?_eq_getElem il⟩
      have pin := List.mem_of_getElem? hp
      have other := away p pin
      have go : wpAny (model P w) A (searchRest a (.ref x) (hs P w k) true f es t (way t.mask (hs P w k) (c + n)) i (nth t.mask (go0 t (hs P w k)) (c + (n + 1)))) Q E s := by
        unfold searchRest
        rw [B.cell hp]
        dsimp only
        refine wpAny_bind (wpAny_holding (wpAny_eqBool_tuple hu (B.key p pin) hx ?_))
        refine wpAny_bind (wpAny_setState_of ho hd B.fit ?_)
        dsimp only
        refine wp_if_neg (by simp [other]) ?_
        try refine wpAny_bind (wpAny_pure ?_)
        rw [sameMem]
        dsimp only
        simp only [if_true, slot_live B.tab.ris hi, B.cell hp]
        refine wpAny_bind (wpAny_isSame_ref_self (wpAny_bind (wpAny_pure ?_)))
        simp only [if_true]
        refine wp_if_neg (by simp [other]) ?_
        exact ih (c + (n + 1)) _ rfl (by omega) (by omega)
      by_cases hl : t.led = true
      · refine wp_if_neg (by simp [hl]) ?_
        try refine wpAny_bind (wpAny_pure ?_)
        exact go
      · refine wp_if_pos (by simp [hl]) (wpAny_bind (hidden hx (fun y hy => ?_) ?_))
        · obtain ⟨d, hd1, hd2⟩ := List.mem_map.mp hy
          have m1 : d ∈ es.toList := by
            have : d ∈ es ∧ d.1 = hs P w k := by simpa using hd1
            simpa using this.1
          rw [B.cel] at m1
          obtain ⟨p2, m2, e2⟩ := List.mem_map.mp m1
          exact ⟨p2.1, p2.2, by rw [← hd2, ← e2], B.key p2 m2⟩
        · refine wp_if_neg (by decide) ?_
          try refine wpAny_bind (wpAny_pure ?_)
          exact go
    · have e' : t.probe (fun i => (es[i]?.map (·.1)).getD 0) (hs P w k) (st.getD (t.probeStart (hs P w k))) = some (.empty (way t.mask (hs P w k) K) none) := by
        have z := at_ (K - c)
        rw [back] at z
        rw [hst, ← z]
        exact e
      rw [e']
      dsimp only
      exact wpAny_pure q
/-! ### the set grows by one -/
theorem still {h h' : Heap} {k : List Str} {c : Addr} {o : Obj} (hk : TwAt P w h k c) (ho : h.get? a = some o) (hd : o.data = .set es ep t) (sb : Heap.SameBut a h h') : TwAt P w h' k c := by
  obtain ⟨u, its, n, hu, hc, hi, hw⟩ := hk
  refine ⟨u, its, n, ?_, hc, hi, hw⟩
  rw [sb.2 c fun z => ?_]
  · exact hu
  · rw [z, ho] at hu
    rw [← Option.some.inj hu, hd] at hi
    cases hi
theorem range_get {α : Type} (L : List α) : ∀ n, n ≤ L.length → (List.range n).filterMap (fun i => L[i]?) = L.take n
  | 0, _ => rfl
  | n + 1, h => by
    have lt : n < L.length := h
    rw [List.range_succ, List.filterMap_append, range_get L n (Nat.le_of_lt lt), List.take_add_one, List.getElem?_eq_getElem lt]
    simp [List.getElem?_eq_getElem lt]
theorem chosen (hc : es.toList = cells P w L) : ∀ l : List Nat, (∀ i ∈ l, i < L.length) → l.filterMap (fun i => es[i]?) = cells P w (l.filterMap fun i => L[i]?) ∧ (l.filterMap fun i => L[i]?).map (fun p => hs P w p.2) = l.map fun i => (es.map (·.1)).getD i 0
  | [], _ => ⟨rfl, rfl⟩
  | i :: l, h => by
    obtain ⟨e1, e2⟩ := chosen hc l fun j hj => h j (List.mem_cons_of_mem _ hj)
    have il := h i List.mem_cons_self
    have gL : L[i]? = some L[i] := List.getElem?_eq_getElem il
    have gE : es[i]? = some (hs P w (L[i]).2, Value.ref (L[i]).1) := by
      rw [← Array.getElem?_toList, hc]
      unfold cells
      rw [List.getElem?_map, gL]
      rfl
    have gD : (es.map (·.1)).getD i 0 = hs P w (L[i]).2 := by
      have z : (es.map (·.1))[i]? = some (hs P w (L[i]).2) := by
        rw [Array.getElem?_map, gE]
        rfl
      rw [Array.getD_eq_getD_getElem?, z]
      rfl
    rw [List.filterMap_cons_some gE, List.filterMap_cons_some gL, e1, List.map_cons, List.map_cons, e2, gD]
    exact ⟨rfl, rfl⟩
/-- the table is laid anew, larger -/
theorem relaid_new {o : Obj} (ho : s.heap.get? a = some o) (hex : o.ExactSet) (hd : o.data = .set es ep t) (hc : es.toList = cells P w L) (hp : t.place.size = es.size) (hdm : t.dummies = #[]) (hfl : es.size ≤ t.mask)
    (key : ∀ p ∈ L, TwAt P w s.heap p.2 p.1) (ld : w.params.followText "set-order" = true ∨ t.led = true) (few : L.length < 64) {wanted M : Nat} (hw : SetTable.sizeAbove wanted - 1 = M) (hM : MaskOk M) (hw2 : SetTable.sizeAbove wanted ≤ 128)
    (hn : L.length * 5 < M * 3) {Q : Unit → Shared → Prop} (q : ∀ h' L' es' ep' t', Heap.SameBut a s.heap h' → Bag P w h' a L' es' ep' t' → L'.Perm L → Q () { s with heap := h' }) : wpAny (model P w) A (setRelay a wanted) Q E s := by
  have hl : es.size = L.length := by rw [← Array.length_toList, hc, cells_len]
  have hfit : t.fits es.size = true := by
    unfold SetTable.fits SetTable.fill
    rw [hdm, Bool.and_eq_true, beq_iff_eq, decide_eq_true_eq]
    exact ⟨hp, by show t.place.size + 0 ≤ t.mask; omega⟩
  have hsz : (es.map (·.1)).size = L.length := by rw [Array.size_map, hl]
  obtain ⟨t', ord, e, pm, T, em, el, _, _⟩ := relaid_ok t (hs := es.map (·.1)) (wanted := wanted) hw hM (by rw [hsz]; omega)
  rw [hsz] at pm
  obtain ⟨c1, c2⟩ := chosen (P := P) (w := w) (L := L) hc ord.toList fun i hi => List.mem_range.mp (pm.mem_iff.mp hi)
  have pL : (ord.toList.filterMap fun i => L[i]?).Perm L := by
    have z := pm.filterMap fun i => L[i]?
    rw [range_get L L.length (Nat.le_refl _), List.take_length] at z
    exact z
  generalize ord.toList.filterMap (fun i => L[i]?) = L2 at c1 c2 pL
  rw [← c2] at T
  have cl : (ord.filterMap (es[·]?)).toList = cells P w L2 := by first | (rw [Array.toList_filterMap]; exact c1) | simpa using c1
  have sz2 : (ord.filterMap (es[·]?)).size = es.size := by rw [← Array.length_toList, cl, cells_len, pL.length_eq, hl]
  rw [setRelay_eq]
  refine wpAny_bind (wpAny_setState_of ho hd hfit ?_)
  dsimp only
  refine wp_if_neg (by rw [sizeLine_eq]; omega) ?_
  try refine wpAny_bind (wpAny_pure ?_)
  rw [e]
  dsimp only
  refine wpAny_bind ?_
  refine wp_if_neg (by rw [sz2]; simp) ?_
  try refine wpAny_bind (wpAny_pure ?_)
  refine wpAny_pure ?_
  dsimp only
  refine wpAny_storeSet_of ho hd ?_ (by rw [sz2, hl, sizeLine_eq]; omega)
  have sb : Heap.SameBut a s.heap (s.heap.update a (Obj.putSet (ord.filterMap (es[·]?)) t')) := Heap.SameBut.update ..
  refine q _ L2 (ord.filterMap (es[·]?)) (ep + 1) t' sb ⟨⟨_, store_at ho hd, ⟨hex.1, hex.2.1, hex.2.2⟩, rfl⟩, cl, T, fun p hp => still (key p (pL.mem_iff.mp hp)) ho hd sb, by rw [el]; exact ld, by rw [pL.length_eq, em]; exact hn, by rw [pL.length_eq]; exact few⟩ pL
theorem add_new (B : Bag P w s.heap a L es ep t) {x : Addr} {k : List Str} (hx : TwAt P w s.heap k x) (hu : A.units < cLine) (away : ∀ p ∈ L, p.2 ≠ k) (few : L.length + 1 < 64) {Q : Bool → Shared → Prop}
    (q : ∀ h' L' es' ep' t', Heap.SameBut a s.heap h' → Bag P w h' a L' es' ep' t' → L'.Perm ((x, k) :: L) → Q true { s with heap := h' }) : wpAny (model P w) A (setAddHashed a (.ref x) (hs P w k)) Q E s := by
  obtain ⟨o, ho, hex, hd⟩ := B.obj
  have hl := B.size
  have rom := B.rom
  have lenT : (L.map fun p => hs P w p.2).length = L.length := List.length_map ..
  obtain ⟨K, hK, hfree, hbusy⟩ := B.tab.first (by rw [lenT]; omega) (hs P w k)
  have big : K < 100000 := by
    have z : 10 * SetTable.turns t.mask ≤ 1420 := by
      unfold SetTable.turns
      rcases B.tab.mok with e | e | e <;> omega
    omega
  unfold setAddHashed
  refine wpAny_holding ?_
  rw [show (100000 : Nat) = 99999 + 1 from rfl, setAddHashedIn_succ]
  refine wpAny_bind (wpAny_setState_of ho hd B.fit ?_)
  dsimp only
  refine wp_if_neg (by simp [byScan, Value.scannable]) ?_
  try refine wpAny_bind (wpAny_pure ?_)
  refine wpAny_bind (m := setSearch a (.ref x) (hs P w k) true) ?_
  unfold setSearch
  refine seek B hx hu away hK hfree hbusy ?_ 100000 0 none rfl (Nat.zero_le _) (by omega)
  dsimp only
  refine wpAny_bind (wpAny_setState_of ho hd B.fit ?_)
  dsimp only
  obtain ⟨g1, g2, g3, g4, g5, _, _, _, g9⟩ := B.tab.put hfree hbusy
  generalize hpt : t.put (way t.mask (hs P w k) K) = pt at g1 g3 g4 g5 g9 ⊢
  obtain ⟨t1, p⟩ := pt
  dsimp only at g1 g3 g4 g5 g9 ⊢
  subst g1
  generalize SetTable.below t.place (way t.mask (hs P w k) K) = p at g2 g3 ⊢
  have pm : (L.take p ++ (x, k) :: L.drop p).Perm ((x, k) :: L) := put_perm L p (x, k)
  have cl : (SetTable.insertAt es p (hs P w k, Value.ref x)).toList = cells P w (L.take p ++ (x, k) :: L.drop p) := by
    rw [SetTable.toList_insertAt, B.cel]
    unfold cells
    rw [List.map_append, List.map_cons, List.map_take, List.map_drop]
  have ht : (L.take p ++ (x, k) :: L.drop p).map (fun p => hs P w p.2) = (L.map fun p => hs P w p.2).take p ++ hs P w k :: (L.map fun p => hs P w p.2).drop p := by
    rw [List.map_append, List.map_cons, List.map_take, List.map_drop]
  rw [← ht] at g3
  rw [lenT] at g9
  generalize L.take p ++ (x, k) :: L.drop p = L1 at pm cl g3
  have len1 : L1.length = L.length + 1 := pm.length_eq
  have sz1 : (SetTable.insertAt es p (hs P w k, Value.ref x)).size = L.length + 1 := by rw [← Array.length_toList, cl, cells_len, len1]
  generalize SetTable.insertAt es p (hs P w k, Value.ref x) = es1 at cl sz1 ⊢
  -- behind the question whether its hash goes by value
  have rest : ∀ t2 : SetTable, TabOk t2 (L1.map fun p => hs P w p.2) → t2.mask = t.mask → t2.led = t.led → t2.fill = L.length + 1 → wpAny (model P w) A (do
      storeSet a es1 t2
      if !false && t2.tooFull then setRelay a (SetTable.grown (es.size + 1))
      return true) Q E s := fun t2 T2 m2 l2 f2 => by
    refine wpAny_bind (wpAny_storeSet_of ho hd ?_ (by rw [sz1, sizeLine_eq]; omega))
    have sb : Heap.SameBut a s.heap (s.heap.update a (Obj.putSet es1 t2)) := Heap.SameBut.update ..
    have ho1 := store_at (es' := es1) (t' := t2) ho hd
    generalize s.heap.update a (Obj.putSet es1 t2) = h1 at sb ho1 ⊢
    have key1 : ∀ p ∈ L1, TwAt P w h1 p.2 p.1 := fun p hp => by
      rcases List.mem_cons.mp (pm.mem_iff.mp hp) with e | hp
      · rw [e]
        exact still hx ho hd sb
      · exact still (B.key p hp) ho hd sb
    have ld1 : w.params.followText "set-order" = true ∨ t2.led = true := by rw [l2]; exact B.lrn
    by_cases hf : t2.tooFull = true
    · have full : (L.length + 1) * 5 ≥ t2.mask * 3 := by
        have z := hf
        unfold SetTable.tooFull at z
        rw [decide_eq_true_eq, f2] at z
        exact z
      have places : t2.place.size = es1.size := by
        have z := T2.sz
        rw [List.length_map, len1] at z
        rw [z, sz1]
      have two : (t.mask = 7 ∧ L.length = 4) ∨ (t.mask = 31 ∧ L.length = 18) := by
        rw [m2] at full
        rcases B.tab.mok with e | e | e <;> rw [e] at full rom
        · exact .inl ⟨e, by omega⟩
        · exact .inr ⟨e, by omega⟩
        · omega
      have laid : ∀ M, SetTable.sizeAbove (SetTable.grown (es.size + 1)) - 1 = M → MaskOk M → SetTable.sizeAbove (SetTable.grown (es.size + 1)) ≤ 128 → (L.length + 1) * 5 < M * 3 →
          wpAny (model P w) A (setRelay a (SetTable.grown (es.size + 1))) (fun _ s' => wpAny (model P w) A (pure true) Q E s') E { s with heap := h1 } := fun M z1 z2 z3 z4 => by
        refine relaid_new (s := { s with heap := h1 }) ho1 ⟨hex.1, hex.2.1, hex.2.2⟩ rfl cl places T2.dm (by rw [sz1, m2]; rcases two with ⟨y1, y2⟩ | ⟨y1, y2⟩ <;> omega) key1 ld1 (by rw [len1]; exact few) z1 z2 z3 (by rw [len1]; exact z4) ?_
        exact fun h2 L2 es2 ep2 t3 sb2 B2 pm2 => wpAny_pure (q h2 L2 es2 ep2 t3 (sb.trans sb2) B2 (pm2.trans pm))
      have fin : wpAny (model P w) A (setRelay a (SetTable.grown (es.size + 1))) (fun _ s' => wpAny (model P w) A (pure true) Q E s') E { s with heap := h1 } := by
        rcases two with ⟨_, y⟩ | ⟨_, y⟩
        · exact laid 31 (by rw [hl, y, size_20]) (.inr (.inl rfl)) (by rw [hl, y, size_20]; decide) (by omega)
        · exact laid 127 (by rw [hl, y, size_76]) (.inr (.inr rfl)) (by rw [hl, y, size_76]; decide) (by omega)
      first
        | (refine wpAny_bind ?_; refine wp_if_pos (by simp [hf]) ?_; exact fin)
        | (refine wp_if_pos (by simp [hf]) ?_; refine wpAny_bind ?_; exact fin)
    · have done := q h1 L1 es1 (ep + 1) t2 sb ⟨⟨_, ho1, ⟨hex.1, hex.2.1, hex.2.2⟩, rfl⟩, cl, T2, key1, ld1, (by
          have z := hf
          unfold SetTable.tooFull at z
          rw [decide_eq_true_eq, f2] at z
          rw [len1]
          omega), by rw [len1]; exact few⟩ pm
      first
        | (refine wp_if_neg (by simp [hf]) ?_; exact wpAny_pure done)
        | (refine wpAny_bind ?_; refine wp_if_neg (by simp [hf]) ?_; refine wpAny_pure ?_; exact wpAny_pure done)
  have both : ∀ v : Bool, wpAny (model P w) A (do
      storeSet a es1 (if v then t1 else { t1 with plain := false })
      if !false && (if v then t1 else { t1 with plain := false }).tooFull then setRelay a (SetTable.grown (es.size + 1))
      return true) Q E s := fun v => by
    cases v with
    | true => exact rest t1 g3 g4 g5 g9
    | false => exact rest { t1 with plain := false } ⟨g3.ris, g3.dm, g3.sz, g3.mok, g3.bd, g3.reach⟩ g4 g5 g9
  by_cases hpl : t1.plain = true
  · first
      | (refine wpAny_bind ?_; refine wp_if_pos hpl ?_; exact byValT hx both)
      | exact wp_if_pos hpl (wpAny_bind (byValT hx both))
  · first
      | (refine wpAny_bind ?_; refine wp_if_neg hpl ?_; exact wpAny_pure (both true))
      | exact wp_if_neg hpl (wpAny_bind (wpAny_pure (both true)))
/-! ### set(xs) -/
def fresh0 (w : World) : Obj := { cls := .type "set", dict := none, data := .set #[] 0 (.fresh 0 0 (!w.params.followText "set-order")) }
theorem bag0 {h : Heap} (ho : h.get? a = some (fresh0 w)) : Bag P w h a [] #[] 0 (.fresh 0 0 (!w.params.followText "set-order")) where
  obj := ⟨_, ho, ⟨rfl, rfl, rfl⟩, rfl⟩
  cel := rfl
  tab := ⟨List.Pairwise.nil, rfl, rfl, .inl rfl, fun x hx => (by cases hx), fun i h j hi => (by simp at hi)⟩
  key := fun p hp => (by cases hp)
  lrn := by
    show _ ∨ (!w.params.followText "set-order") = true
    cases w.params.followText "set-order"
    · exact .inr rfl
    · exact .inl rfl
  rom := by
    show 0 * 5 < 7 * 3
    decide
  sml := by
    show 0 < 64
    decide
theorem there {h h' : Heap} {k : List Str} {c : Addr} (hk : TwAt P w h k c) (kp : ∀ b o, h.get? b = some o → h'.get? b = some o) : TwAt P w h' k c := by
  obtain ⟨u, its, n, hu, more⟩ := hk
  exact ⟨u, its, n, kp c u hu, more⟩
theorem grow {I : Addr} {fp wr : List Addr} {G : Array GenState → Array GenState → Prop} {n : Nat} {Pv : Nat → Value → Prop} {St : Nat → Shared → Prop} {R : Result → Shared → Prop}
    (W : WalksS P w A.in1 I fp wr G n Pv St) (S : Addr) (nf : S ∉ fp) (ks : List (Addr × List Str)) (hn : ks.length = n) (few : n < 64) (diff : (ks.map (·.2)).Nodup) (hat : ∀ i v, Pv i v → ∃ p, ks[i]? = some p ∧ v = .ref p.1)
    (g : Heap) (hk : ∀ p ∈ ks, TwAt P w g p.2 p.1) (gS : g.get? S = none) (gw : ∀ b ∈ wr, g.get? b = none) (hu : A.in1.units < cLine) :
    ∀ (m i : Nat) (s : Shared), n - i = m → i ≤ n → St i s → (∀ b o, g.get? b = some o → s.heap.get? b = some o) → (∃ L es ep t, Bag P w s.heap S L es ep t ∧ L.Perm (ks.take i)) →
      (∀ s' L es ep t, Moved (S :: wr) G s s' → Bag P w s'.heap S L es ep t → L.Perm ks → R (.ok (.ret .none)) s') → codeAny (model P w) A (.builtin "set.update.loop" ⟨[.ref S, .ref I], []⟩) R s := by
  have nw : S ∉ wr := fun q => nf (W.sub _ q)
  have up : ∀ c ∈ wr, c ∈ S :: wr := fun c hc => List.mem_cons_of_mem _ hc
  have onward : ∀ {s s' : Shared}, Moved wr G s s' → (∀ b o, g.get? b = some o → s.heap.get? b = some o) → ∀ b o, g.get? b = some o → s'.heap.get? b = some o := fun mv kp b o e => by
    refine mv.heap b o (fun hb => ?_) (kp b o e)
    rw [gw b hb] at e
    cases e
  have hold : ∀ {s s' : Shared} {L : List (Addr × List Str)} {es : Array (Int × Value)} {ep : Nat} {t : SetTable} {i : Nat}, Moved wr G s s' → (∀ b o, g.get? b = some o → s'.heap.get? b = some o) → L.Perm (ks.take i) → Bag P w s.heap S L es ep t → Bag P w s'.heap S L es ep t := fun {s s' L es ep t i} mv kp pm B => by
    obtain ⟨o, ho, more⟩ := B.obj
    exact ⟨⟨o, mv.heap S o nw ho, more⟩, B.cel, B.tab, fun p hp => there (hk p (List.mem_of_mem_take (pm.mem_iff.mp hp))) kp, B.lrn, B.rom, B.sml⟩
  intro m
  induction m with
  | zero =>
    intro i s hm hi hst kp ⟨L, es, ep, t, B, pm⟩ hR
    obtain rfl : i = n := by omega
    refine codeAny_builtin F.entry_set_update_loop ?_
    rw [Around.under_plainId F.plain_set_update_loop _]
    refine wpAny_bind (m := pyNext (.ref I)) (W.done s _ _ hst fun s1 mv => ?_)
    have B1 := hold mv (onward mv kp) pm B
    rw [← hn, List.take_length] at pm
    exact wpAny_pure (hR s1 L es ep t (mv.mono up) B1 pm)
  | succ m ih =>
    intro i s hm hi hst kp ⟨L, es, ep, t, B, pm⟩ hR
    have lt : i < n := by omega
    refine codeAny_builtin F.entry_set_update_loop ?_
    rw [Around.under_plainId F.plain_set_update_loop _]
    refine wpAny_bind (m := pyNext (.ref I)) (W.item i s _ _ lt hst fun v s1 hP hst1 mv => ?_)
    obtain ⟨p, hp, rfl⟩ := hat i v hP
    have kp1 := onward mv kp
    have B1 := hold mv kp1 pm B
    have hx : TwAt P w s1.heap p.2 p.1 := there (hk p (List.mem_of_getElem? hp)) kp1
    have nxt : ks.take (i + 1) = ks.take i ++ [p] := by
      rw [List.take_add_one, hp]
      rfl
    have away : ∀ q ∈ L, q.2 ≠ p.2 := fun q hq e => by
      have d := diff.sublist (((List.take_sublist (i + 1) ks).map (·.2)))
      rw [nxt, List.map_append, List.nodup_append] at d
      exact d.2.2 q.2 (List.mem_map.mpr ⟨q, pm.mem_iff.mp hq, rfl⟩) p.2 (by simp) e
    have ll : L.length ≤ i := by
      rw [pm.length_eq, List.length_take]
      omega
    show wpAny _ A.in1 (holding [Value.ref p.1] (setAdd S (.ref p.1)) >>= _) _ _ s1
    refine wpAny_bind (wpAny_holding ?_)
    unfold setAdd
    refine wpAny_holding (wpAny_bind (wpAny_pyHash_tuple hu hx ?_))
    refine add_new (s := { s1 with toks := s1.toks + (p.2.length + 1) }) B1 hx hu away (by omega) fun h2 L2 es2 ep2 t2 sb B2 pm2 => ?_
    have pm3 : L2.Perm (ks.take (i + 1)) := by
      rw [nxt]
      exact pm2.trans ((pm.cons p).trans (List.perm_append_singleton p (ks.take i)).symm)
    have kp2 : ∀ b o, g.get? b = some o → h2.get? b = some o := fun b o e => by
      refine (sb.2 b fun z => ?_).trans (kp1 b o e)
      rw [z, gS] at e
      cases e
    refine wpAny_pure ⟨plainId_quiet F.plain_set_update_loop _, ih (i + 1) _ (by omega) lt (W.frame _ s1 _ _ hst1 (Nat.le_add_right _ _) fun c hc o e => ?_) kp2 ⟨L2, es2, ep2, t2, B2, pm3⟩ fun s3 L3 es3 ep3 t3 mv3 B3 pm4 => ?_⟩
    · rw [sb.2 c (fun z : c = S => nf (by rw [← z]; exact hc))]
      exact e
    · refine hR s3 L3 es3 ep3 t3 (Moved.trans W.gtrans ((mv.mono up).then_heap (Nat.le_add_right _ _) fun c o hc e => ?_) mv3) B3 pm4
      rw [sb.2 c (fun z : c = S => hc (by rw [z]; exact List.mem_cons_self))]
      exact e
theorem call_setT {l : Addr} {its : Array Value} (ks : List (Addr × List Str)) {Q : Value → Shared → Prop} (hA : A.handled = none) (hl : s.heap.IsList l its) (hit : its.toList = ks.map fun p => Value.ref p.1) (hk : ∀ p ∈ ks, TwAt P w s.heap p.2 p.1)
    (few : ks.length < 64) (diff : (ks.map (·.2)).Nodup) (hu : A.units + 3 < cLine)
    (q : ∀ (h' : Heap) (tk : Nat) L es ep t, Bag P w h' s.heap.objs.size L es ep t → L.Perm ks → (∀ c o, c < s.heap.objs.size → s.heap.get? c = some o → h'.get? c = some o) → Q (.ref s.heap.objs.size) { s with heap := h', toks := tk }) :
    wpAny (model P w) A (call (.type "set") [.ref l]) Q E s := by
  have hlen : ks.length = its.size := by
    have z := congrArg List.length hit
    rw [Array.length_toList, List.length_map] at z
    exact z.symm
  obtain ⟨c, tl, hmro⟩ := PySem.F.called_set.mro
  have hmade := PySem.F.called_set.made
  have hsub := PySem.F.called_set.sub
  refine wpAny_call (codeAny_of_tree ?_)
  show wpAny _ _ (callAny (.type "set") _) _ _ _
  refine wpAny_pure ⟨Code.quiet_builtin _ (by decide +kernel), codeAny_builtin PySem.F.entry_type_call ?_⟩
  rw [Around.under_plain (weight_type_call_type "set" [.ref l] []) rfl]
  have h1 := PySem.F.called_set.notType
  have h2 := PySem.F.called_set.canCreate
  have hct := PySem.F.typeCall_set_1 (.ref l)
  repeat (any_goals (first | assumption | wp_step))
  refine codeAny_mono (code_set_led1 (.ref l) (E := E) (Q₁ := fun b s₁ => b = .ref s.heap.objs.size ∧ s₁ = { s with heap := s.heap.push (fresh0 w) }) ⟨rfl, rfl⟩) fun r s₁ hr => ?_
  cases r with
  | error e => exact hr
  | ok fl =>
    cases fl with
    | ret b =>
      obtain ⟨rfl, rfl⟩ := hr
      have hS : (s.heap.push (fresh0 w)).get? s.heap.objs.size = some (fresh0 w) := Heap.get?_push_size _ rfl
      have hT : Shared.TypeIs { s with heap := s.heap.push (fresh0 w) } (.ref s.heap.objs.size) "set" := ⟨_, hS, rfl⟩
      have hli := PySem.F.called_set.init.lookup
      have hbi := PySem.F.called_set.init.bind (.ref s.heap.objs.size)
      repeat (any_goals (first | assumption | wp_step))
      refine codeAny_mono (codeAny_call_builtin (R := wants (fun r s₂ => r = .none ∧ ∃ h' tk L es ep t, s₂ = { s with heap := h', toks := tk } ∧ Bag P w h' s.heap.objs.size L es ep t ∧ L.Perm ks ∧
          (∀ c o, c < s.heap.objs.size → s.heap.get? c = some o → h'.get? c = some o)) E) PySem.F.called_set.init.plain PySem.F.entry_set_init (check_set_init_1 hT ?_)) fun r₂ s₂ hr₂ => ?_
      · obtain ⟨ol, hol, hcl, nl, hdl⟩ := hl
        obtain ⟨ocls, odict, odata, oslots⟩ := ol
        simp only at hcl hdl
        subst hcl; subst hdl
        have hol' : (s.heap.push (fresh0 w)).get? l = some { cls := .type "list", dict := odict, data := .seq its nl, slots := oslots } := Heap.get?_push_of_some _ hol
        have hsls := PySem.F.sub_list_set
        have hslf := PySem.F.sub_list_frozenset
        have hne : (Value.type "list" == Value.type "dict") = false := by decide
        have hl1 : (s.heap.push (fresh0 w)).IsList l its := ⟨_, hol', rfl, nl, rfl⟩
        unfold Builtin.«set.__init__» noKeywords Builtin.Frozenset.updateFrom
        generalize hPI : pyIter = PI
        wp_walk
        subst hPI
        refine wpAny_pyIter_list hl1 ?_
        refine wpAny_bind (wpAny_runValue ?_)
        have hlS : l < s.heap.objs.size := Heap.lt_size hol
        have h3 : A.in1.in1.in1.handled = none := by simp [hA]
        have nI : l ≠ (s.heap.push (fresh0 w)).objs.size := by
          rw [Heap.size_push]; exact Nat.ne_of_lt (Nat.lt_succ_of_lt hlS)
        have nS : s.heap.objs.size ∉ [(s.heap.push (fresh0 w)).objs.size, l] := by
          rw [Heap.size_push]; simp only [List.mem_cons, List.mem_singleton, List.not_mem_nil, or_false, not_or]
          exact ⟨Nat.ne_of_lt (Nat.lt_succ_self _), Nat.ne_of_gt hlS⟩
        have none_of : ∀ b, s.heap.objs.size ≤ b → s.heap.get? b = none := fun b hb => by
          cases z : s.heap.get? b with
          | none => rfl
          | some o => exact absurd (Nat.lt_of_lt_of_le (Heap.lt_size z) hb) (Nat.lt_irrefl _)
        have hat : ∀ (i : Nat) (v : Value), its[i]? = some v → ∃ p, ks[i]? = some p ∧ v = .ref p.1 := fun i v hv => by
          have z : its.toList[i]? = some v := by rw [Array.getElem?_toList]; exact hv
          rw [hit, List.getElem?_map] at z
          cases y : ks[i]? with
          | none =>
            rw [y] at z
            cases z
          | some p =>
            rw [y] at z
            exact ⟨p, rfl, (Option.some.inj z).symm⟩
        refine grow ((Walks.list h3 _ l nI its).toS) s.heap.objs.size nS ks hlen (by rw [← hlen]; exact few) diff hat s.heap hk (none_of _ (Nat.le_refl _)) (fun b hb => none_of b (by
            rw [List.mem_singleton.mp hb, Heap.size_push]
            exact Nat.le_succ _)) hu (its.size - 0) 0 _ (by omega) (Nat.zero_le _) ⟨⟨_, Heap.get?_push_size _ rfl, rfl, rfl⟩, (hl1.push _)⟩ (fun b o e => Heap.get?_push_of_some _ (Heap.get?_push_of_some _ e)) ?hS0 ?hR
        case hS0 =>
          have hget : ((s.heap.push (fresh0 w)).push { cls := .type "list_iterator", data := .fields #[.ref l, .int 0 0] }).get? s.heap.objs.size = some (fresh0 w) := Heap.get?_push_of_some _ hS
          exact ⟨[], #[], 0, _, bag0 hget, by rw [List.take_zero]⟩
        case hR =>
          intro s' L es ep t mv B pm
          obtain ⟨h', g', d', tk', os'⟩ := s'
          obtain rfl : g' = s.gens := mv.gens
          obtain rfl : d' = s.drawn := mv.drawn
          obtain rfl : os' = s.os := mv.os
          show wpAny _ _ _ _ _ _
          refine wpAny_pure ?_
          show wpAny _ _ (ret Value.none) _ _ _
          refine wpAny_pure ⟨rfl, h', tk', L, es, ep, t, rfl, B, pm, fun c o hc e => ?_⟩
          have n1 : c ≠ s.heap.objs.size := Nat.ne_of_lt hc
          have n2 : c ≠ (s.heap.push (fresh0 w)).objs.size := by
            rw [Heap.size_push]; exact Nat.ne_of_lt (Nat.lt_succ_of_lt hc)
          exact mv.heap c o (by simp only [List.mem_cons, List.mem_singleton, List.not_mem_nil, or_false, not_or]; exact ⟨n1, n2⟩) (Heap.get?_push_of_some _ (Heap.get?_push_of_some _ e))
      · cases r₂ with
        | error e => exact hr₂
        | ok fl₂ =>
          cases fl₂ with
          | ret r =>
            obtain ⟨rfl, h', tk, L, es, ep, t, rfl, B, pm, hk'⟩ := hr₂
            repeat (any_goals (first | assumption | wp_step))
            exact q _ _ _ _ _ _ B pm hk'
          | _ => exact hr₂.elim
    | _ => exact hr.elim
end
section
variable {X : Cx}
/-- len(set(xs)), xs a list of different tuples of texts -/
def tLenSetT (K : PySem.W.Frag) (ta : TE) : TE := fun σ H Q => ta σ H fun x H1 => ∃ (l : Addr) (ks : List (Addr × List Str)), x = .ref l ∧ SqL K H1 l (ks.map fun p => V.ref p.1) ∧ (∀ p ∈ ks, SqT K H1 p.1 (p.2.map V.str)) ∧ ks.length < 64 ∧ (ks.map (·.2)).Nodup ∧ Q (.int (ks.length : Nat)) H1
theorem words_is {P : Program} {w : World} : ∀ {k : List Str} {us : List Value}, Vals (k.map V.str) us → ItemsAre (PySem.strKind P w) k us
  | [], _, .nil => .nil
  | z :: k, _, .cons r t => by
    obtain ⟨tk, rfl⟩ := r
    exact .cons (strKind_is _ _ _ _) (words_is t)
theorem refs_is : ∀ {ks : List (Addr × List Str)} {us : List Value}, Vals (ks.map fun p => V.ref p.1) us → us = ks.map fun p => Value.ref p.1
  | [], _, .nil => rfl
  | p :: ks, _, .cons r t => by
    cases r
    rw [List.map_cons, ← refs_is t]
theorem pe_lenSetT {a : Expr} {ta : TE} {p p2 q pos : Pos} {k : Nat} (hr : Room k X.A) (hc : X.calm = true) (hg : Gl X "len") (hm : X.mg "len" = none) (hg2 : Gl X "set") (hm2 : X.mg "set" = none) (ha : PE X a ta)
    (na : starEach [a] X.env = (false, eval a X.env) :: starEach [] X.env := by rfl) : PE X (.Call (.Name "len" p) [.Call (.Name "set" p2) [a] [] q] [] pos) (tLenSetT X.K ta) := by
  refine ⟨fun pins s σ H Q I h => ?_⟩
  refine Call_ (ld_blt I hg hm boot_len ?_)
  refine PyProof.Rows.callWith_builtin1 (PyProof.Rows.args_cons ?_ rfl) rfl rfl
  refine Call_ (ld_blt I hg2 hm2 boot_set ?_)
  refine PyProof.Rows.callWith_type1 (PyProof.Rows.args_cons (thn (ha.run pins s σ H _ I h) fun v s1 ⟨x, H1, I1, r1, q1⟩ => PyProof.Rows.args_nil ?_) na) na rfl
  obtain ⟨l, ks, rfl, hq, ht, few, diff, q1⟩ := q1
  cases r1
  obtain ⟨its, r, pl, hz⟩ := I1.list hq
  have hu := hr.units
  refine call_setT (P := X.prog) (w := X.w) ks (I1.ok.hd hc) pl.isList (by simpa using refs_is r) (fun p hp => ?_) few diff (by omega) fun h' tk L es ep t B pm hk => ?_
  · obtain ⟨ts, rt, pt, _⟩ := I1.tuple (ht p hp)
    obtain ⟨o, ho, hcl, n, hd⟩ := pt
    exact ⟨o, ts.toArray, n, ho, hcl, hd, words_is rt⟩
  · refine PyProof.Rows.args_nil ?_
    obtain ⟨o, ho, hex, hd⟩ := B.obj
    have I2 : Inv X pins σ H1 { s1 with heap := h', toks := tk } := I1.kept fun c o e => hk c o (Heap.lt_size e) e
    have hn : es.size = ks.length := by
      have z : es.size = L.length := by rw [← Array.length_toList, B.cel, cells_len]
      rw [z, pm.length_eq]
    refine call_len_set ho hex hd (B.fit (s := { s1 with heap := h', toks := tk })) (by rw [hn] <;> omega) ⟨.int (ks.length : Nat), H1, I2.tok _, ⟨_, by rw [hn]⟩, q1⟩
end
end TxSet

set_option Elab.async false
set_option linter.all false
set_option maxRecDepth 100000
set_option maxHeartbeats 4000000
namespace EvE
open PySem
open Sem (wp)
open AutoSeq1 (wpAny_loadPart')
abbrev kw3 (tk : Tok) : List (Str × Value) := [("start", .int 3 tk)]
theorem enum_new3 (l : Addr) (its : Array Value) (n : Nat) (dd : Option Addr) (ss : Array (Option Value)) (tk : Tok) :
    Meets (Builtin.«enumerate.__new__» ⟨[.type "enumerate", .ref l], kw3 tk⟩) (fun _ R s => s.heap.get? l = some ⟨.type "list", dd, .seq its n, ss⟩ ∧
      R (.ok (.ret (.ref (s.heap.push ⟨.type "list_iterator", none, .fields #[.ref l, .int 0 0], #[]⟩).objs.size)))
        { s with heap := (s.heap.push ⟨.type "list_iterator", none, .fields #[.ref l, .int 0 0], #[]⟩).push ⟨.type "enumerate", none, .fields #[.none, .bool false, .ref s.heap.objs.size, rawInt 3, .none, .none], #[]⟩ }) := by
  refine .of_wp fun prog w A R s h => ?_
  obtain ⟨hp, g, d, t, os⟩ := s
  obtain ⟨h0, hR⟩ := h
  have hsub := sub_enumerate
  have h1 : Heap.IsList (Shared.heap ⟨hp, g, d, t, os⟩) l its := ⟨_, h0, rfl, n, rfl⟩
  wp_walk using wpAny_loadPart' h0
  refine wpAny_stack_any fun st => ?_
  refine wpAny_pure ?_
  split
  · rename_i c _ _ _ _ _
    cases (c == Value.type "enumerate") <;> (wp_walk using wpAny_loadPart' h0, wpAny_pyIter_list h1; exact ⟨_, rfl, hR⟩)
  · wp_walk using wpAny_loadPart' h0, wpAny_pyIter_list h1
    exact ⟨_, rfl, hR⟩
theorem tc3 (a : Value) (tk : Tok) : checkTypeCall "enumerate" ⟨[a], kw3 tk⟩ = pure () := by kernel_rfl
theorem nc3 (a : Value) (tk : Tok) : checkBuiltinCall "enumerate.__new__" ⟨[.type "enumerate", a], kw3 tk⟩ = pure () := by kernel_rfl
theorem oi3 (o a : Value) (tk : Tok) : argsOk "object.__init__" ⟨[o, a], kw3 tk⟩ := by unfold argsOk; kernel_rfl
end EvE
namespace EvE
open PySem
open Sem (wp)
section
variable {prog : Program} {w : World} {A : Around} {E : Value → Shared → Prop} {s : Shared}
theorem obj_init_kw {T nid : String} {o a : Value} {kw : List (Str × Value)} (hl : typeLookup (.type T) "__init__" = pure (some (.builtin "object.__init__")))
    (hm : Bind.madeBy (.type T) = pure (some nid)) (hn : (some nid != some "object.__new__") = true) :
    Meets (Builtin.«object.__init__» ⟨[o, a], kw⟩) (fun _ R s => s.TypeIs o T ∧ R (.ok (.ret .none)) s) := by
  refine Meets.of_wp fun prog w A R s ⟨hT, hq⟩ => ?_
  repeat (any_goals (first | assumption | wp_step))
  exact ⟨_, rfl, hq⟩
theorem call_kw {T nid : String} {Bn : Builtin} {a : Value} {kw : List (Str × Value)} {S : Spec} {Q : Value → Shared → Prop} (ft : TypeCalled T nid "object.__init__") (hn : (some nid != some "object.__new__") = true)
    (c1 : checkTypeCall T ⟨[a], kw⟩ = pure ()) (c2 : checkBuiltinCall nid ⟨[.type T, a], kw⟩ = pure ()) (c3 : ∀ o, argsOk "object.__init__" ⟨[o, a], kw⟩) (en : entryFor table nid = some Bn) (g : Meets (Bn ⟨[.type T, a], kw⟩) S)
    (h : S A.in1 (wants (fun o s1 => s1.TypeIs o T ∧ Q o s1) E) s) : wpAny (model prog w) A (call (.type T) [a] kw) Q E s := by
  obtain ⟨mc, mt, hmro⟩ := ft.mro
  have hmade := ft.made
  have hsub := ft.sub
  have k1 := ft.notType
  have k2 := ft.canCreate
  refine wpAny_call (codeAny_of_tree ?_)
  show wpAny _ _ (callAny (.type T) _) _ _ _
  refine wpAny_pure ⟨Code.quiet_builtin _ (by decide +kernel), ?_⟩
  refine codeAny_builtin F.entry_type_call ?_
  rw [Around.under_plain (show (Code.builtin "type.__call__" ⟨[.type T, a], kw⟩).weight = 0 from rfl) (show (Code.builtin "type.__call__" ⟨[.type T, a], kw⟩).cUnits = 1 from rfl)]
  repeat (any_goals (first | assumption | wp_step))
  refine codeAny_mono (codeAny_call_builtin ft.plain en (wpAny_of_eq c2 (g prog w A.in1 _ s h))) ?_
  intro r1 s1 p1
  cases r1 with
  | error e => exact p1
  | ok f1 =>
    cases f1 with
    | ret o =>
      obtain ⟨hT, hq⟩ := p1
      have q1 := ft.init.lookup
      have q2 := ft.init.bind o
      have gi := obj_init_kw (o := o) (a := a) (kw := kw) ft.init.lookup ft.made hn
      repeat (any_goals (first | assumption | wp_step))
      refine codeAny_mono (codeAny_call_builtin ft.init.plain F.entry_object_init (ft.init.check _ _ _ _ _ _ _ _ hT (c3 o) (gi prog w A.in1 (wants (fun r s2 => r = .none ∧ Q o s2) E) s1 ⟨hT, rfl, hq⟩))) ?_
      intro r2 s2 p2
      cases r2 with
      | error e => exact p2
      | ok f2 =>
        cases f2 with
        | ret r =>
          obtain ⟨rfl, hq2⟩ := p2
          repeat (any_goals (first | assumption | wp_step))
        | _ => exact p2.elim
    | _ => exact p1.elim
theorem call_enum3 {l : Addr} {its : Array Value} {tk : Tok} {Q : Value → Shared → Prop} (hL : s.heap.IsList l its)
    (h : ∀ h', IsEnum h' (s.heap.objs.size + 1) s.heap.objs.size 3 .none → h'.IsListIter s.heap.objs.size l 0 → h'.objs.size = s.heap.objs.size + 2 →
      (∀ b o, s.heap.get? b = some o → h'.get? b = some o) → Q (.ref (s.heap.objs.size + 1)) { s with heap := h' }) :
    wpAny (model prog w) A (call (.type "enumerate") [.ref l] (kw3 tk)) Q E s := by
  obtain ⟨⟨c, dct, dt, sl⟩, hl, hc, n, hd⟩ := hL
  dsimp only at hc hd
  subst hc
  subst hd
  refine call_kw F.called_enumerate (by decide) (tc3 _ _) (nc3 _ _) (fun o => oi3 o _ _) F.entry_enumerate_new (enum_new3 l its n dct sl tk) ⟨hl, ?_⟩
  have hz : (s.heap.push ⟨.type "list_iterator", none, .fields #[.ref l, .int 0 0], #[]⟩).objs.size = s.heap.objs.size + 1 := Heap.size_push ..
  have he : IsEnum ((s.heap.push ⟨.type "list_iterator", none, .fields #[.ref l, .int 0 0], #[]⟩).push ⟨.type "enumerate", none, .fields #[.none, .bool false, .ref s.heap.objs.size, rawInt 3, .none, .none], #[]⟩) (s.heap.objs.size + 1) s.heap.objs.size 3 .none := by
    have z := Heap.get?_push_size (s.heap.push ⟨.type "list_iterator", none, .fields #[.ref l, .int 0 0], #[]⟩) (o := ⟨.type "enumerate", none, .fields #[.none, .bool false, .ref s.heap.objs.size, rawInt 3, .none, .none], #[]⟩) rfl
    rw [hz] at z
    exact z
  show _ ∧ _
  rw [hz]
  exact ⟨⟨_, he, rfl⟩, h _ he ⟨_, Heap.get?_push_of_some _ (Heap.get?_push_size _ rfl), rfl, rfl⟩ (by rw [Heap.size_push, hz]) (fun b o x => Heap.get?_push_of_some _ (Heap.get?_push_of_some _ x))⟩
end
end EvE

set_option Elab.async false
set_option linter.all false
set_option maxRecDepth 100000
set_option maxHeartbeats 4000000
namespace EvE
open PySem PySem.Spec PyProof.Rows L2 EvS
open Sem (wp)
/-- the items of the list at a, each in a new pair behind its number, from 3 -/
def It3 (K : PySem.W.Frag) (a : Addr) : It where
  go := fun i H => ∃ (zs : List V) (z : V), SqL K H a zs ∧ zs[i]? = some z
  yld := fun i H v H' => ∃ (p : Addr) (z : V), v = .ref p ∧ H p = none ∧ H' = upd H p (.tup [.int (3 + (i : Int)), z]) ∧ ∀ zs, SqL K H a zs → zs[i]? = some z
  stop := fun i H => ∃ zs : List V, SqL K H a zs ∧ zs.length = i
def St3 (a e it : Addr) (i : Nat) (h : Heap) : Prop := (∃ old, IsEnum h e it (3 + (i : Int)) old) ∧ h.IsListIter it a i ∧ e ≠ it
theorem two_of {e it b : Addr} (h : b ∈ [e, it]) : b = e ∨ b = it := by simpa using h
theorem turn3 {P : Program} {w : World} {K : PySem.W.Frag} {elts : List Expr} {kk : Nat} {tp : Pos} (a e it : Addr) : Turn P w K (.Tuple elts kk tp) (It3 K a) [e, it] e (St3 a e it) where
  mem := List.mem_cons_self
  obj := by
    rintro i h ⟨⟨old, he⟩, ⟨o, ho, hc, hd⟩, _⟩ b hb
    rcases two_of hb with rfl | rfl
    · exact ⟨_, he, fun v q => nomatch q⟩
    · exact ⟨o, ho, fun v q => by rw [hd] at q; cases q⟩
  keep := by
    rintro i h h2 ⟨⟨old, he⟩, hi, hne⟩ k
    exact ⟨⟨old, k e List.mem_cons_self _ he⟩, hi.at fun o q => k it (List.mem_cons_of_mem _ List.mem_cons_self) o q, hne⟩
  item := by
    intro X hP hw hK hc i pins s σ H E I hf st hg
    subst hP hw hK
    obtain ⟨⟨old, he⟩, hit, hne⟩ := st
    obtain ⟨zs, z, hq, hz⟩ := hg
    obtain ⟨its, rv, pl, _⟩ := I.list hq
    obtain ⟨u, hu, ru⟩ := rv.get hz
    have s1 : e < s.heap.objs.size := Heap.lt_size he
    have s2 : it < s.heap.objs.size := by
      obtain ⟨_, q, _⟩ := hit
      exact Heap.lt_size q
    have lis := pl.isList
    have ea : a ≠ e := fun z => by
      obtain ⟨o, ho, hcl, _⟩ := lis
      rw [z, he] at ho
      cases ho
      injection hcl with q
      exact absurd q (by decide)
    have ia : a ≠ it := fun z => by
      obtain ⟨o, ho, hcl, _⟩ := lis
      obtain ⟨o2, ho2, hcl2, _⟩ := hit
      rw [z, ho2] at ho
      cases ho
      rw [hcl2] at hcl
      injection hcl with q
      exact absurd q (by decide)
    have hu' : its.toArray[i]? = some u := by simpa using hu
    have hi : i < its.toArray.size := by
      rcases Nat.lt_or_ge i its.toArray.size with q | q
      · exact q
      · rw [Array.getElem?_eq_none q] at hu'
        cases hu'
    refine wpAny_pyNext_enum_itemC (Draws.list (A := X.A.in1) (show X.A.in1.handled = none from I.ok.hd hc) it a ia its.toArray) he ⟨hit, lis⟩ hi hne (by simp [hne, ea.symm]) fun x h2 tk px ho st2 hT hsz hk => ?_
    obtain rfl : x = u := Option.some.inj (px.symm.trans hu')
    refine ⟨_, rfl, wpAny_letOwnedTupleGo_enum (s := { s with heap := h2, toks := tk + 1 }) ho fun h3 he3 sb => ?_⟩
    have hT3 : h3.get? s.heap.objs.size = some ⟨.type "tuple", none, .seq #[.int (3 + (i : Int)) tk, x] 0, #[]⟩ := (sb.2 _ (Nat.ne_of_gt s1)).trans hT
    have new : ObjOk X.prog X.w (upd H s.heap.objs.size (.tup [.int (3 + (i : Int)), z])) h3 s.heap.objs.size (.tup [.int (3 + (i : Int)), z]) :=
      ⟨by show 2 ≤ sizeLine; decide, [.int (3 + (i : Int)) tk, x], .cons ⟨_, rfl⟩ (.cons ru .nil), ⟨_, hT3, rfl, _, rfl⟩⟩
    have I2 : Inv X pins σ (upd H s.heap.objs.size (.tup [.int (3 + (i : Int)), z])) { s with heap := h3, toks := tk + 1 } :=
      I.turnedNew (ch := [e, it]) (fun b ob hb q => (sb.2 b (fun y => hb (by rw [y]; exact List.mem_cons_self))).trans (hk b ob (fun y => hb (by rw [y]; exact List.mem_cons_self)) (fun y => hb (by rw [y]; exact List.mem_cons_of_mem _ List.mem_cons_self)) q)) hf (Nat.le_refl _) new
    have fr : H s.heap.objs.size = none := I.hok.fresh (Nat.le_refl _)
    refine ⟨.ref s.heap.objs.size, _, I2, rfl, ⟨_, z, rfl, fr, rfl, fun ys hy => by rw [I.list_inj hy hq]; exact hz⟩, ⟨⟨x, ?_⟩, st2.1.at fun o q => (sb.2 it (Ne.symm hne)).trans q, hne⟩, fun b hb => ?_⟩
    · rw [show (3 + ((i + 1 : Nat) : Int)) = 3 + (i : Int) + 1 by omega]
      exact he3
    · have lt : b < s.heap.objs.size := by
        rcases two_of hb with rfl | rfl
        · exact s1
        · exact s2
      rw [upd_ne (Nat.ne_of_lt lt)]
      exact (hf b hb).1
  done := by
    intro X hP hw hK hc i pins s σ H E I hf st hg
    subst hP hw hK
    obtain ⟨⟨old, he⟩, hit, hne⟩ := st
    obtain ⟨zs, hq, hz⟩ := hg
    obtain ⟨its, rv, pl, _⟩ := I.list hq
    have lis := pl.isList
    have hl := rv.length
    have ia : a ≠ it := fun z => by
      obtain ⟨o, ho, hcl, _⟩ := lis
      obtain ⟨o2, ho2, hcl2, _⟩ := hit
      rw [z, ho2] at ho
      cases ho
      rw [hcl2] at hcl
      injection hcl with q
      exact absurd q (by decide)
    obtain ⟨f0, f1, f2, f3, f4, f5⟩ := hf it (List.mem_cons_of_mem _ List.mem_cons_self)
    have ei : i = its.toArray.size := by
      rw [List.size_toArray]
      omega
    rw [ei] at hit
    exact wpAny_pyNext_enum_endD (Draws.list (A := X.A.in1) (show X.A.in1.handled = none from I.ok.hd hc) it a ia its.toArray) he ⟨hit, lis⟩ fun h2 eb => ⟨rfl, I.turned (t' := s.toks) (fun b o hb q => eb b o hb q) f0 f1 f3 f4 f5⟩
  self := fun A i s Q E st h => by
    obtain ⟨⟨_, he⟩, _⟩ := st
    exact wpAny_pyIter_enum he h
section
variable {M : Model} {A : Around} {E : Value → Shared → Prop} {s : Shared} {env : Env}
theorem cw_kw {pos : Pos} {T : String} {e : Expr} {kws : List Keyword} {Q : Value → Shared → Prop}
    (h : wpAny M A (spliced (backTo pos (starEach [e] env))) (fun vs s1 => wpAny M A (evalAll ((backToKw pos (keywordEach kws env)).map (·.2)))
      (fun us s2 => wpAny M A (call (.type T) vs (((backToKw pos (keywordEach kws env)).filterMap (·.1)).zip us)) Q E s2) E s1) E s)
    (he : backTo pos (starEach [e] env) = (false, eval e env) :: backTo pos (starEach [] env) := by rfl) (hall : (backToKw pos (keywordEach kws env)).all (·.1.isSome) = true := by rfl)
    (hp : (backTo pos (starEach [e] env)).any (·.1) = false := by rfl) (hk : (backToKw pos (keywordEach kws env)).any (·.1.isNone) = false := by rfl) :
    wpAny M A (callWith pos (.type T) [] (backTo pos (starEach [e] env)) (backToKw pos (keywordEach kws env))) Q E s := by
  rw [he] at h hp ⊢
  have z := evalArgs_kwB (f := .type T) (Q := fun a s2 => wpAny M A (call (.type T) ([] ++ a.pos) a.kw) Q E s2) hall h
  unfold callWith
  refine wpAny_bind (wpAny_holding (wpAny_mono z ?_ fun _ _ x => x))
  intro b s3 h3
  refine wpAny_bind (wpAny_standAt ?_)
  simp only [hp, hk, Bool.or_false]
  refine wpAny_bind ?_
  refine wpAny_pure ?_
  refine wpAny_bind (wpAny_mono h3 ?_ fun _ _ x => x)
  exact fun r s4 hr => wpAny_bind (wpAny_holding (wpAny_point (wpAny_pure hr)))
end
section
variable {X : Cx} {e : Expr} {ta : TA} {p pos tp cp kp : Pos} {elts : List Expr} {kk : Nat} {ck : Option Str}
def iEnum3 (K : PySem.W.Frag) (ta : TA) : TI := fun σ H R => ta σ H fun vs H1 => ∃ a zs, vs = [.ref a] ∧ SqL K H1 a zs ∧ R (It3 K a) H1
theorem pi_enum3 {c : Expr} (hg : Gl X "enumerate") (hm : X.mg "enumerate" = none) (ha : PA X [e] ta) (hc : PE X c (tC (.int 3)))
    (he : backTo pos (starEach [e] X.env) = (false, eval e X.env) :: backTo pos (starEach [] X.env) := by rfl) (hn : (backToKw pos (keywordEach [⟨some "start", c, kp⟩] X.env)).filterMap (·.1) = [("start" : Str)] := by rfl)
    (hall : (backToKw pos (keywordEach [⟨some "start", c, kp⟩] X.env)).all (·.1.isSome) = true := by rfl)
    (hp : (backTo pos (starEach [e] X.env)).any (·.1) = false := by rfl) (hk : (backToKw pos (keywordEach [⟨some "start", c, kp⟩] X.env)).any (·.1.isNone) = false := by rfl) :
    PI X (.Tuple elts kk tp) (.Call (.Name "enumerate" p) [e] [⟨some "start", c, kp⟩] pos) (iEnum3 X.K ta) := by
  refine ⟨fun pins s σ H R I h => ?_⟩
  refine wpAny_Call_Name_kw (ld_blt I hg hm boot_enumerate (cw_kw ?_ he hall hp hk))
  refine thn (ha.run pos pins s σ H _ I h) fun us s1 ⟨vs, H1, I1, r1, q1⟩ => ?_
  obtain ⟨a, zs, ex, hq, q⟩ := q1
  subst ex
  have kq := (pk_cons (nm := some "start") (kpos := kp) hc pk_nil).run pos pins s1 σ H1 (fun ws H2 => ws = [.int 3] ∧ H2 = H1) I1 ⟨rfl, rfl⟩
  refine thn kq fun ws s2 ⟨vs2, H2, I2, r2, e2, eH⟩ => ?_
  subst e2
  subst eH
  rw [hn]
  obtain ⟨u, rfl, hu⟩ := vals1 r2
  obtain ⟨tk, rfl⟩ := hu
  cases r1 with
  | cons r rr =>
    cases rr
    cases r
    obtain ⟨its, rv, pl, hz⟩ := I2.list hq
    refine call_enum3 pl.isList fun h2 hE hI hsz hk2 => wpAny_pyIter_enum hE ?_
    have I3 : Inv X pins σ H2 { s2 with heap := h2 } := I2.kept (t' := s2.toks) hk2
    refine ⟨s2.heap.objs.size + 1, [s2.heap.objs.size + 1, s2.heap.objs.size], _, _, H2, rfl, I3, turn3 a (s2.heap.objs.size + 1) s2.heap.objs.size, ⟨⟨.none, hE⟩, hI, Nat.succ_ne_self _⟩, fun b hb => ?_, q⟩
    have lb : s2.heap.objs.size ≤ b := by
      rcases two_of hb with z | z
      · rw [z]
        exact Nat.le_add_right _ _
      · rw [z]
        exact Nat.le_refl _
    exact I2.fpOk lb (I2.hok.fresh lb)
end
/-- over an enumerated list that the body leaves as it is -/
theorem for_enum3 {K : PySem.W.Frag} {a : Addr} {xs : List V} {g : TG} {tb : TS} {D : Ends} {σ : L2.St} {H : Hp} (Pv : Nat → L2.St → Hp → Prop) (h0 : Pv 0 σ H) (hl : ∀ i σ H, i ≤ xs.length → Pv i σ H → SqL K H a xs)
    (hs : ∀ i x p σ H, xs[i]? = some x → Pv i σ H → H p = none → g (.ref p) σ (upd H p (.tup [.int (3 + (i : Int)), x])) fun σ2 H2 => tb { D with nx := Pv (i + 1), ct := Pv (i + 1), bk := D.nx } σ2 H2) (hd : ∀ σ H, Pv xs.length σ H → D.nx σ H) :
    ∃ W : Nat → Nat → L2.St → Hp → Prop, (∃ m, W 0 m σ H) ∧ ∀ i m σ H, W i m σ H → ((It3 K a).stop i H ∧ D.nx σ H) ∨
      ((It3 K a).go i H ∧ ∃ N : L2.St → Hp → Prop, (∀ σ' H', N σ' H' → ∃ m', m' < m ∧ W (i + 1) m' σ' H') ∧ ∀ v H', (It3 K a).yld i H v H' → g v σ H' fun σ2 H2 => tb { D with nx := N, ct := N, bk := D.nx } σ2 H2) := by
  refine ⟨fun i m σ H => m = xs.length - i ∧ i ≤ xs.length ∧ Pv i σ H, ⟨xs.length, rfl, Nat.zero_le _, h0⟩, ?_⟩
  rintro i m σ H ⟨rfl, hi, p⟩
  have q := hl i σ H hi p
  by_cases lt : i < xs.length
  · refine .inr ⟨⟨xs, xs[i], q, List.getElem?_eq_getElem lt⟩, Pv (i + 1), fun σ' H' p' => ⟨xs.length - (i + 1), by omega, rfl, lt, p'⟩, fun v H' y => ?_⟩
    obtain ⟨t, z, rfl, ht, rfl, hz⟩ := y
    exact hs i z t σ H (hz xs q) p ht
  · obtain rfl : i = xs.length := by omega
    exact .inl ⟨⟨xs, q, rfl⟩, hd σ H p⟩
end EvE

set_option Elab.async false
set_option linter.all false
set_option maxRecDepth 100000
set_option maxHeartbeats 4000000
namespace EV
open PySem PySem.Spec PyProof.Rows L2 EvS
def top (i : Nat) : Stmt := PySem.Challenge.pw_everyfire_k05_whole_text_and_back.main.body.getD i (.Pass ⟨0, 0, 0, 0⟩)
abbrev s_is_name : Stmt := top 15
abbrev s__check_count : Stmt := top 16
abbrev s__check_names : Stmt := top 17
abbrev s__check_ends : Stmt := top 18
abbrev s__as_bounds : Stmt := top 19
abbrev s__as_link : Stmt := top 20
abbrev s__as_path : Stmt := top 21
abbrev s__check_single_paths : Stmt := top 22
abbrev s__is_between : Stmt := top 23
abbrev s_init : Stmt := inClass (top 24) 0
abbrev s_link_names : Stmt := inClass (top 24) 1
abbrev s_check_place : Stmt := inClass (top 24) 2
abbrev s_link : Stmt := inClass (top 24) 4
abbrev s_minutes_between : Stmt := inClass (top 24) 9
abbrev s_format_land : Stmt := top 28
abbrev s__time_word : Stmt := top 29
abbrev s_parse_land : Stmt := top 30
abbrev s_is_number : Stmt := top 31
abbrev s__is_names : Stmt := top 32
abbrev s__is_link : Stmt := top 33
abbrev s__is_path : Stmt := top 34
abbrev s__is_time : Stmt := top 35
abbrev s__read_link : Stmt := top 36
abbrev s__read_time : Stmt := top 37
abbrev s__law_row : Stmt := top 39
abbrev s__law_numbers : Stmt := top 40
abbrev s__law_pick : Stmt := top 41
abbrev s__law_names : Stmt := top 42
abbrev s__law_count : Stmt := top 43
abbrev s__law_times : Stmt := top 44
abbrev s__law_paths : Stmt := top 45
abbrev s__law_parts : Stmt := top 46
abbrev s__law_made : Stmt := top 47
abbrev s__law_frozen : Stmt := top 48
abbrev s__law_same : Stmt := top 49
abbrev s__law_lines : Stmt := top 50
abbrev s_law : Stmt := top 51
theorem sc_is_name : FnScope ["text", "sign"] ["text"] (defScope s_is_name) := ⟨rfl, rfl, rfl, by decide +kernel, rfl, by decide +kernel, by decide +kernel⟩
theorem sc__check_count : FnScope ["sort", "rows", "least", "most"] ["sort", "rows", "least", "most"] (defScope s__check_count) := ⟨rfl, rfl, rfl, by decide +kernel, rfl, by decide +kernel, by decide +kernel⟩
theorem sc__check_names : FnScope ["sort", "names", "name"] ["sort", "names"] (defScope s__check_names) := ⟨rfl, rfl, rfl, by decide +kernel, rfl, by decide +kernel, by decide +kernel⟩
theorem sc__check_ends : FnScope ["sort", "one", "other", "places"] ["sort", "one", "other", "places"] (defScope s__check_ends) := ⟨rfl, rfl, rfl, by decide +kernel, rfl, by decide +kernel, by decide +kernel⟩
theorem sc__as_bounds : FnScope ["bounds", "least", "most"] ["bounds"] (defScope s__as_bounds) := ⟨rfl, rfl, rfl, by decide +kernel, rfl, by decide +kernel, by decide +kernel⟩
theorem sc__as_link : FnScope ["link", "winds", "places", "name", "one", "other", "times", "bounds"] ["link", "winds", "places"] (defScope s__as_link) := ⟨rfl, rfl, rfl, by decide +kernel, rfl, by decide +kernel, by decide +kernel⟩
theorem sc__as_path : FnScope ["path", "places", "one", "other", "minutes"] ["path", "places"] (defScope s__as_path) := ⟨rfl, rfl, rfl, by decide +kernel, rfl, by decide +kernel, by decide +kernel⟩
theorem sc__check_single_paths : FnScope ["paths", "ends", "one", "other", "_"] ["paths"] (defScope s__check_single_paths) := ⟨rfl, rfl, rfl, by decide +kernel, rfl, by decide +kernel, by decide +kernel⟩
theorem sc__is_between : FnScope ["path", "one", "other"] ["path", "one", "other"] (defScope s__is_between) := ⟨rfl, rfl, rfl, by decide +kernel, rfl, by decide +kernel, by decide +kernel⟩
theorem sc_init : FnScope ["self", "winds", "places", "links", "paths", "link", "path"] ["self", "winds", "places", "links", "paths"] (defScope s_init) := ⟨rfl, rfl, rfl, by decide +kernel, rfl, by decide +kernel, by decide +kernel⟩
theorem sc_link_names : FnScope ["self", "link"] ["self"] (defScope s_link_names) := ⟨rfl, rfl, rfl, by decide +kernel, rfl, by decide +kernel, by decide +kernel⟩
theorem sc_check_place : FnScope ["self", "place"] ["self", "place"] (defScope s_check_place) := ⟨rfl, rfl, rfl, by decide +kernel, rfl, by decide +kernel, by decide +kernel⟩
theorem sc_link : FnScope ["self", "name", "link"] ["self", "name"] (defScope s_link) := ⟨rfl, rfl, rfl, by decide +kernel, rfl, by decide +kernel, by decide +kernel⟩
theorem sc_minutes_between : FnScope ["self", "one", "other", "path"] ["self", "one", "other"] (defScope s_minutes_between) := ⟨rfl, rfl, rfl, by decide +kernel, rfl, by decide +kernel, by decide +kernel⟩
theorem sc_format_land : FnScope ["land", "lines", "name", "one", "other", "times", "words", "minutes", "bounds"] ["land"] (defScope s_format_land) := ⟨rfl, rfl, rfl, by decide +kernel, rfl, by decide +kernel, by decide +kernel⟩
theorem sc__time_word : FnScope ["bounds", "least", "most"] ["bounds"] (defScope s__time_word) := ⟨rfl, rfl, rfl, by decide +kernel, rfl, by decide +kernel, by decide +kernel⟩
theorem sc_parse_land : FnScope ["text", "rows", "links", "paths", "number", "words", "line"] ["text"] (defScope s_parse_land) := ⟨rfl, rfl, rfl, by decide +kernel, rfl, by decide +kernel, by decide +kernel⟩
theorem sc_is_number : FnScope ["word", "sign"] ["word"] (defScope s_is_number) := ⟨rfl, rfl, rfl, by decide +kernel, rfl, by decide +kernel, by decide +kernel⟩
theorem sc__is_names : FnScope ["first", "words", "word"] ["first", "words"] (defScope s__is_names) := ⟨rfl, rfl, rfl, by decide +kernel, rfl, by decide +kernel, by decide +kernel⟩
theorem sc__is_link : FnScope ["words", "word"] ["words"] (defScope s__is_link) := ⟨rfl, rfl, rfl, by decide +kernel, rfl, by decide +kernel, by decide +kernel⟩
theorem sc__is_path : FnScope ["words"] ["words"] (defScope s__is_path) := ⟨rfl, rfl, rfl, by decide +kernel, rfl, by decide +kernel, by decide +kernel⟩
theorem sc__is_time : FnScope ["word", "parts"] ["word"] (defScope s__is_time) := ⟨rfl, rfl, rfl, by decide +kernel, rfl, by decide +kernel, by decide +kernel⟩
theorem sc__read_link : FnScope ["words", "word"] ["words"] (defScope s__read_link) := ⟨rfl, rfl, rfl, by decide +kernel, rfl, by decide +kernel, by decide +kernel⟩
theorem sc__read_time : FnScope ["word", "part"] ["word"] (defScope s__read_time) := ⟨rfl, rfl, rfl, by decide +kernel, rfl, by decide +kernel, by decide +kernel⟩
theorem sc__law_row : FnScope ["cell", "many", "row", "rest", "mixed", "k"] ["cell", "many"] (defScope s__law_row) := ⟨rfl, rfl, rfl, by decide +kernel, rfl, by decide +kernel, by decide +kernel⟩
theorem sc__law_numbers : FnScope ["script", "many", "cells", "each", "numbers", "cell", "number"] ["script", "many"] (defScope s__law_numbers) := ⟨rfl, rfl, rfl, by decide +kernel, rfl, by decide +kernel, by decide +kernel⟩
theorem sc__law_pick : FnScope ["numbers", "k"] ["numbers", "k"] (defScope s__law_pick) := ⟨rfl, rfl, rfl, by decide +kernel, rfl, by decide +kernel, by decide +kernel⟩
theorem sc__law_names : FnScope ["numbers", "at", "many", "chars", "prefix", "k", "place", "shift", "names", "tail"] ["numbers", "at", "many"] (defScope s__law_names) := ⟨rfl, rfl, rfl, by decide +kernel, rfl, by decide +kernel, by decide +kernel⟩
theorem sc__law_count : FnScope ["number", "least", "most"] ["number", "least", "most"] (defScope s__law_count) := ⟨rfl, rfl, rfl, by decide +kernel, rfl, by decide +kernel, by decide +kernel⟩
theorem sc__law_times : FnScope ["numbers", "k", "many", "times", "n", "first", "last"] ["numbers", "k", "many"] (defScope s__law_times) := ⟨rfl, rfl, rfl, by decide +kernel, rfl, by decide +kernel, by decide +kernel⟩
theorem sc__law_paths : FnScope ["numbers", "k", "places", "many", "pairs", "n", "other", "turn", "paths", "one"] ["numbers", "k", "places", "many"] (defScope s__law_paths) := ⟨rfl, rfl, rfl, by decide +kernel, rfl, by decide +kernel, by decide +kernel⟩
theorem sc__law_parts : FnScope ["numbers", "winds", "places", "names", "links", "k", "at", "one", "other"] ["numbers"] (defScope s__law_parts) := ⟨rfl, rfl, rfl, by decide +kernel, rfl, by decide +kernel, by decide +kernel⟩
theorem sc__law_made : FnScope ["parts"] ["parts"] (defScope s__law_made) := ⟨rfl, rfl, rfl, by decide +kernel, rfl, by decide +kernel, by decide +kernel⟩
theorem sc__law_frozen : FnScope ["parts", "links", "name", "one", "other", "times", "found", "pair", "path"] ["parts"] (defScope s__law_frozen) := ⟨rfl, rfl, rfl, by decide +kernel, rfl, by decide +kernel, by decide +kernel⟩
theorem sc__law_same : FnScope ["land", "due"] ["land", "due"] (defScope s__law_same) := ⟨rfl, rfl, rfl, by decide +kernel, rfl, by decide +kernel, by decide +kernel⟩
theorem sc__law_lines : FnScope ["parts", "lines", "name", "one", "other", "times", "line", "pair", "minutes"] ["parts"] (defScope s__law_lines) := ⟨rfl, rfl, rfl, by decide +kernel, rfl, by decide +kernel, by decide +kernel⟩
theorem sc_law : FnScope ["script", "numbers", "parts", "due", "land", "text", "first", "small", "link", "one", "other", "minutes"] ["script"] (defScope s_law) := ⟨rfl, rfl, rfl, by decide +kernel, rfl, by decide +kernel, by decide +kernel⟩
/-- where the top has put things -/
structure Ad where
  C : Addr
  tl : Addr
  te : Addr
  pr : Addr
  f_is_name : Addr
  d_is_name : FuncData
  f__check_count : Addr
  d__check_count : FuncData
  f__check_names : Addr
  d__check_names : FuncData
  f__check_ends : Addr
  d__check_ends : FuncData
  f__as_bounds : Addr
  d__as_bounds : FuncData
  f__as_link : Addr
  d__as_link : FuncData
  f__as_path : Addr
  d__as_path : FuncData
  f__check_single_paths : Addr
  d__check_single_paths : FuncData
  f__is_between : Addr
  d__is_between : FuncData
  f_init : Addr
  d_init : FuncData
  f_link_names : Addr
  d_link_names : FuncData
  f_check_place : Addr
  d_check_place : FuncData
  f_link : Addr
  d_link : FuncData
  f_minutes_between : Addr
  d_minutes_between : FuncData
  f_format_land : Addr
  d_format_land : FuncData
  f__time_word : Addr
  d__time_word : FuncData
  f_parse_land : Addr
  d_parse_land : FuncData
  f_is_number : Addr
  d_is_number : FuncData
  f__is_names : Addr
  d__is_names : FuncData
  f__is_link : Addr
  d__is_link : FuncData
  f__is_path : Addr
  d__is_path : FuncData
  f__is_time : Addr
  d__is_time : FuncData
  f__read_link : Addr
  d__read_link : FuncData
  f__read_time : Addr
  d__read_time : FuncData
  f__law_row : Addr
  d__law_row : FuncData
  f__law_numbers : Addr
  d__law_numbers : FuncData
  f__law_pick : Addr
  d__law_pick : FuncData
  f__law_names : Addr
  d__law_names : FuncData
  f__law_count : Addr
  d__law_count : FuncData
  f__law_times : Addr
  d__law_times : FuncData
  f__law_paths : Addr
  d__law_paths : FuncData
  f__law_parts : Addr
  d__law_parts : FuncData
  f__law_made : Addr
  d__law_made : FuncData
  f__law_frozen : Addr
  d__law_frozen : FuncData
  f__law_same : Addr
  d__law_same : FuncData
  f__law_lines : Addr
  d__law_lines : FuncData
  f_law : Addr
  d_law : FuncData
structure Txt (K : PySem.W.Frag) (mg : Str → Option Value) (a : Ad) : Prop where
  F_is_name : Fun K "is_name" "is_name" s_is_name a.f_is_name a.d_is_name
  B_is_name : Binds K a.d_is_name ["text"] []
  k_is_name : PySem.W.keepIn K (.ref a.f_is_name) = true
  g_is_name : mg "is_name" = some (.ref a.f_is_name)
  F__check_count : Fun K "_check_count" "_check_count" s__check_count a.f__check_count a.d__check_count
  B__check_count : Binds K a.d__check_count ["sort", "rows", "least", "most"] []
  k__check_count : PySem.W.keepIn K (.ref a.f__check_count) = true
  g__check_count : mg "_check_count" = some (.ref a.f__check_count)
  F__check_names : Fun K "_check_names" "_check_names" s__check_names a.f__check_names a.d__check_names
  B__check_names : Binds K a.d__check_names ["sort", "names"] []
  k__check_names : PySem.W.keepIn K (.ref a.f__check_names) = true
  g__check_names : mg "_check_names" = some (.ref a.f__check_names)
  F__check_ends : Fun K "_check_ends" "_check_ends" s__check_ends a.f__check_ends a.d__check_ends
  B__check_ends : Binds K a.d__check_ends ["sort", "one", "other", "places"] []
  k__check_ends : PySem.W.keepIn K (.ref a.f__check_ends) = true
  g__check_ends : mg "_check_ends" = some (.ref a.f__check_ends)
  F__as_bounds : Fun K "_as_bounds" "_as_bounds" s__as_bounds a.f__as_bounds a.d__as_bounds
  B__as_bounds : Binds K a.d__as_bounds ["bounds"] []
  k__as_bounds : PySem.W.keepIn K (.ref a.f__as_bounds) = true
  g__as_bounds : mg "_as_bounds" = some (.ref a.f__as_bounds)
  F__as_link : Fun K "_as_link" "_as_link" s__as_link a.f__as_link a.d__as_link
  B__as_link : Binds K a.d__as_link ["link", "winds", "places"] []
  k__as_link : PySem.W.keepIn K (.ref a.f__as_link) = true
  g__as_link : mg "_as_link" = some (.ref a.f__as_link)
  F__as_path : Fun K "_as_path" "_as_path" s__as_path a.f__as_path a.d__as_path
  B__as_path : Binds K a.d__as_path ["path", "places"] []
  k__as_path : PySem.W.keepIn K (.ref a.f__as_path) = true
  g__as_path : mg "_as_path" = some (.ref a.f__as_path)
  F__check_single_paths : Fun K "_check_single_paths" "_check_single_paths" s__check_single_paths a.f__check_single_paths a.d__check_single_paths
  B__check_single_paths : Binds K a.d__check_single_paths ["paths"] []
  k__check_single_paths : PySem.W.keepIn K (.ref a.f__check_single_paths) = true
  g__check_single_paths : mg "_check_single_paths" = some (.ref a.f__check_single_paths)
  F__is_between : Fun K "_is_between" "_is_between" s__is_between a.f__is_between a.d__is_between
  B__is_between : Binds K a.d__is_between ["path", "one", "other"] []
  k__is_between : PySem.W.keepIn K (.ref a.f__is_between) = true
  g__is_between : mg "_is_between" = some (.ref a.f__is_between)
  F_init : FunD K "__init__" "Land.__init__" (defArgs s_init) (defBody s_init) (defScope s_init) [] [("links", .ref a.tl), ("paths", .ref a.te)] a.f_init a.d_init
  F_link_names : Fun K "link_names" "Land.link_names" s_link_names a.f_link_names a.d_link_names
  B_link_names : Binds K a.d_link_names ["self"] []
  k_link_names : PySem.W.keepIn K (.ref a.f_link_names) = true
  F_check_place : Fun K "check_place" "Land.check_place" s_check_place a.f_check_place a.d_check_place
  B_check_place : Binds K a.d_check_place ["self", "place"] []
  k_check_place : PySem.W.keepIn K (.ref a.f_check_place) = true
  m_check_place : Meth K a.C "check_place" a.f_check_place
  F_link : Fun K "link" "Land.link" s_link a.f_link a.d_link
  B_link : Binds K a.d_link ["self", "name"] []
  k_link : PySem.W.keepIn K (.ref a.f_link) = true
  m_link : Meth K a.C "link" a.f_link
  F_minutes_between : Fun K "minutes_between" "Land.minutes_between" s_minutes_between a.f_minutes_between a.d_minutes_between
  B_minutes_between : Binds K a.d_minutes_between ["self", "one", "other"] []
  k_minutes_between : PySem.W.keepIn K (.ref a.f_minutes_between) = true
  m_minutes_between : Meth K a.C "minutes_between" a.f_minutes_between
  F_format_land : Fun K "format_land" "format_land" s_format_land a.f_format_land a.d_format_land
  B_format_land : Binds K a.d_format_land ["land"] []
  k_format_land : PySem.W.keepIn K (.ref a.f_format_land) = true
  g_format_land : mg "format_land" = some (.ref a.f_format_land)
  F__time_word : Fun K "_time_word" "_time_word" s__time_word a.f__time_word a.d__time_word
  B__time_word : Binds K a.d__time_word ["bounds"] []
  k__time_word : PySem.W.keepIn K (.ref a.f__time_word) = true
  g__time_word : mg "_time_word" = some (.ref a.f__time_word)
  F_parse_land : Fun K "parse_land" "parse_land" s_parse_land a.f_parse_land a.d_parse_land
  B_parse_land : Binds K a.d_parse_land ["text"] []
  k_parse_land : PySem.W.keepIn K (.ref a.f_parse_land) = true
  g_parse_land : mg "parse_land" = some (.ref a.f_parse_land)
  F_is_number : Fun K "is_number" "is_number" s_is_number a.f_is_number a.d_is_number
  B_is_number : Binds K a.d_is_number ["word"] []
  k_is_number : PySem.W.keepIn K (.ref a.f_is_number) = true
  g_is_number : mg "is_number" = some (.ref a.f_is_number)
  F__is_names : Fun K "_is_names" "_is_names" s__is_names a.f__is_names a.d__is_names
  B__is_names : Binds K a.d__is_names ["first", "words"] []
  k__is_names : PySem.W.keepIn K (.ref a.f__is_names) = true
  g__is_names : mg "_is_names" = some (.ref a.f__is_names)
  F__is_link : Fun K "_is_link" "_is_link" s__is_link a.f__is_link a.d__is_link
  B__is_link : Binds K a.d__is_link ["words"] []
  k__is_link : PySem.W.keepIn K (.ref a.f__is_link) = true
  g__is_link : mg "_is_link" = some (.ref a.f__is_link)
  F__is_path : Fun K "_is_path" "_is_path" s__is_path a.f__is_path a.d__is_path
  B__is_path : Binds K a.d__is_path ["words"] []
  k__is_path : PySem.W.keepIn K (.ref a.f__is_path) = true
  g__is_path : mg "_is_path" = some (.ref a.f__is_path)
  F__is_time : Fun K "_is_time" "_is_time" s__is_time a.f__is_time a.d__is_time
  B__is_time : Binds K a.d__is_time ["word"] []
  k__is_time : PySem.W.keepIn K (.ref a.f__is_time) = true
  g__is_time : mg "_is_time" = some (.ref a.f__is_time)
  F__read_link : Fun K "_read_link" "_read_link" s__read_link a.f__read_link a.d__read_link
  B__read_link : Binds K a.d__read_link ["words"] []
  k__read_link : PySem.W.keepIn K (.ref a.f__read_link) = true
  g__read_link : mg "_read_link" = some (.ref a.f__read_link)
  F__read_time : Fun K "_read_time" "_read_time" s__read_time a.f__read_time a.d__read_time
  B__read_time : Binds K a.d__read_time ["word"] []
  k__read_time : PySem.W.keepIn K (.ref a.f__read_time) = true
  g__read_time : mg "_read_time" = some (.ref a.f__read_time)
  F__law_row : Fun K "_law_row" "_law_row" s__law_row a.f__law_row a.d__law_row
  B__law_row : Binds K a.d__law_row ["cell", "many"] []
  k__law_row : PySem.W.keepIn K (.ref a.f__law_row) = true
  g__law_row : mg "_law_row" = some (.ref a.f__law_row)
  F__law_numbers : Fun K "_law_numbers" "_law_numbers" s__law_numbers a.f__law_numbers a.d__law_numbers
  B__law_numbers : Binds K a.d__law_numbers ["script", "many"] []
  k__law_numbers : PySem.W.keepIn K (.ref a.f__law_numbers) = true
  g__law_numbers : mg "_law_numbers" = some (.ref a.f__law_numbers)
  F__law_pick : Fun K "_law_pick" "_law_pick" s__law_pick a.f__law_pick a.d__law_pick
  B__law_pick : Binds K a.d__law_pick ["numbers", "k"] []
  k__law_pick : PySem.W.keepIn K (.ref a.f__law_pick) = true
  g__law_pick : mg "_law_pick" = some (.ref a.f__law_pick)
  F__law_names : Fun K "_law_names" "_law_names" s__law_names a.f__law_names a.d__law_names
  B__law_names : Binds K a.d__law_names ["numbers", "at", "many"] []
  k__law_names : PySem.W.keepIn K (.ref a.f__law_names) = true
  g__law_names : mg "_law_names" = some (.ref a.f__law_names)
  F__law_count : Fun K "_law_count" "_law_count" s__law_count a.f__law_count a.d__law_count
  B__law_count : Binds K a.d__law_count ["number", "least", "most"] []
  k__law_count : PySem.W.keepIn K (.ref a.f__law_count) = true
  g__law_count : mg "_law_count" = some (.ref a.f__law_count)
  F__law_times : Fun K "_law_times" "_law_times" s__law_times a.f__law_times a.d__law_times
  B__law_times : Binds K a.d__law_times ["numbers", "k", "many"] []
  k__law_times : PySem.W.keepIn K (.ref a.f__law_times) = true
  g__law_times : mg "_law_times" = some (.ref a.f__law_times)
  F__law_paths : Fun K "_law_paths" "_law_paths" s__law_paths a.f__law_paths a.d__law_paths
  B__law_paths : Binds K a.d__law_paths ["numbers", "k", "places", "many"] []
  k__law_paths : PySem.W.keepIn K (.ref a.f__law_paths) = true
  g__law_paths : mg "_law_paths" = some (.ref a.f__law_paths)
  F__law_parts : Fun K "_law_parts" "_law_parts" s__law_parts a.f__law_parts a.d__law_parts
  B__law_parts : Binds K a.d__law_parts ["numbers"] []
  k__law_parts : PySem.W.keepIn K (.ref a.f__law_parts) = true
  g__law_parts : mg "_law_parts" = some (.ref a.f__law_parts)
  F__law_made : Fun K "_law_made" "_law_made" s__law_made a.f__law_made a.d__law_made
  B__law_made : Binds K a.d__law_made ["parts"] []
  k__law_made : PySem.W.keepIn K (.ref a.f__law_made) = true
  g__law_made : mg "_law_made" = some (.ref a.f__law_made)
  F__law_frozen : Fun K "_law_frozen" "_law_frozen" s__law_frozen a.f__law_frozen a.d__law_frozen
  B__law_frozen : Binds K a.d__law_frozen ["parts"] []
  k__law_frozen : PySem.W.keepIn K (.ref a.f__law_frozen) = true
  g__law_frozen : mg "_law_frozen" = some (.ref a.f__law_frozen)
  F__law_same : Fun K "_law_same" "_law_same" s__law_same a.f__law_same a.d__law_same
  B__law_same : Binds K a.d__law_same ["land", "due"] []
  k__law_same : PySem.W.keepIn K (.ref a.f__law_same) = true
  g__law_same : mg "_law_same" = some (.ref a.f__law_same)
  F__law_lines : Fun K "_law_lines" "_law_lines" s__law_lines a.f__law_lines a.d__law_lines
  B__law_lines : Binds K a.d__law_lines ["parts"] []
  k__law_lines : PySem.W.keepIn K (.ref a.f__law_lines) = true
  g__law_lines : mg "_law_lines" = some (.ref a.f__law_lines)
  F_law : Fun K "law" "law" s_law a.f_law a.d_law
  B_law : Binds K a.d_law ["script"] []
  k_law : PySem.W.keepIn K (.ref a.f_law) = true
  g_law : mg "law" = some (.ref a.f_law)
  z_abs : mg "abs" = none
  z_all : mg "all" = none
  z_enumerate : mg "enumerate" = none
  z_int : mg "int" = none
  z_len : mg "len" = none
  z_list : mg "list" = none
  z_max : mg "max" = none
  z_min : mg "min" = none
  z_range : mg "range" = none
  z_set : mg "set" = none
  z_sorted : mg "sorted" = none
  z_str : mg "str" = none
  z_tuple : mg "tuple" = none
  c_DIGITS : ∃ t, mg "DIGITS" = some (.str "0123456789" t)
  c_LETTERS : ∃ t, mg "LETTERS" = some (.str "abcdefghijklmnopqrstuvwxyz" t)
  c_LONGEST_NAME : ∃ t, mg "LONGEST_NAME" = some (.int 12 t)
  c_MOST_DIGITS : ∃ t, mg "MOST_DIGITS" = some (.int 6 t)
  c_MOST_LINKS : ∃ t, mg "MOST_LINKS" = some (.int 60 t)
  c_MOST_MINUTES : ∃ t, mg "MOST_MINUTES" = some (.int 1000 t)
  c_MOST_PATHS : ∃ t, mg "MOST_PATHS" = some (.int 60 t)
  c_MOST_PLACES : ∃ t, mg "MOST_PLACES" = some (.int 24 t)
  c_MOST_WINDS : ∃ t, mg "MOST_WINDS" = some (.int 4 t)
  c_SHUT : ∃ t, mg "SHUT" = some (.str "-" t)
  cl : Cls K a.C
  mk_Land : Mk K a.C a.f_init
  g_Land : mg "Land" = some (.ref a.C)
  nW : NoAttr K a.C "winds"
  nP : NoAttr K a.C "places"
  nL : NoAttr K a.C "links"
  nA : NoAttr K a.C "paths"
  p_link_names : PropOf K a.C "link_names" a.pr a.f_link_names
  tlT : ∀ H : Hp, SqT K H a.tl []
  teT : ∀ H : Hp, SqT K H a.te []
end EV

set_option Elab.async false
set_option linter.all false
set_option maxRecDepth 100000
set_option maxHeartbeats 4000000
namespace EV
open PySem PySem.Spec PyProof.Rows L2 EvS Evl
def LETS : List Nat := ("abcdefghijklmnopqrstuvwxyz" : Str).cps.toList
def DIGS : List Nat := ("0123456789" : Str).cps.toList
def okSign (c : Nat) : Bool := decide (c ∈ LETS) || decide (c ∈ DIGS)
/-- point 2 -/
def isName (z : Str) : Bool := decide (1 ≤ z.length ∧ z.length ≤ 12) && (z.cps.toList.head?.any fun c => decide (c ∈ LETS)) && z.cps.toList.all okSign
def sp_is_name : Sp := fun vs H Q _ => ∃ z : Str, vs = [.str z] ∧ z.length ≤ 10000 ∧ ∀ H', Ex H H' → Q (.bl (isName z)) H'
section
variable {P : Program} {w : World} {K : PySem.W.Frag} {mg : Str → Option Value} {base : Heap} {a : Ad}
theorem G_is_name (T : Txt K mg a) : FnOk P w K mg base CX0 1 a.f_is_name a.d_is_name ["text"] sp_is_name := by
  refine T.F_is_name.ok sc_is_name (fun vs H Q E h => ?_) (fun cdv A outer s H vs Q E hr h => ?_)
  · obtain ⟨z, rfl, _⟩ := h
    rfl
  · obtain ⟨z, rfl, hz, k⟩ := h
    have hzs : z.length ≤ sizeLine := sz_of (by omega)
    refine ⟨_, (pss_cons (ps_if (pt_not (pt_chain op_le op_le pe_int (pe_callB call_len_str (by rfl) T.z_len PySem.boot_len (pa_cons (pv 0) pa_nil)) (pe_gI rfl T.c_LONGEST_NAME))) (pss_one (ps_ret pe_bl)) pss_nil)
      (pss_one (ps_ret (pe_and (pe_cmpR op_in_sign (pe_ix ix_str (pv 0) pe_int (fun _ _ => rfl)) (pe_gS rfl T.c_LETTERS) rfl) (pe_one (pe_callB (cr_all rfl) (by rfl) T.z_all (by decide +kernel) (pa_cons (pe_lc (own := [("sign", 1)]) (g := gName 1) (tt := tYes) rfl sc_is_name.nd (pi_str (pv 0)) (blkOk_by (N := ["text", "sign"]) (sc := defScope s_is_name) (by decide +kernel)) (fun _ _ _ _ _ => pg_name (i := 1) sc_is_name.nd rfl (Or.inl rfl)) (fun _ _ _ _ _ => pts_nil) (fun _ _ _ _ _ => (pe_or (pe_cmpR op_in_sign (pv 1) (pe_gS rfl T.c_LETTERS) rfl) (pe_one (pe_cmpR op_in_sign (pv 1) (pe_gS rfl T.c_DIGITS) rfl))))) pa_nil))))))), ?_⟩
    have no : ¬ (1 ≤ z.length ∧ z.length ≤ 12) → Q (.bl false) H := fun n => by
      have e : isName z = false := by
        unfold isName
        rw [decide_eq_false n]
        rfl
      have q := k H (Ex.refl H)
      rw [e] at q
      exact q
    refine ⟨_, rfl, _, rfl, hzs, _, _, rfl, rfl, _, rfl, ?_⟩
    refine ite2 (fun h1 => ?_) (fun h1 => ?_)
    · refine ⟨_, _, rfl, rfl, _, rfl, ?_⟩
      have h1' : 1 ≤ z.length := by
        have := of_decide_eq_true h1
        omega
      refine ite2 (fun h2 => ?_) (fun h2 => ?_)
      · exact no (fun n => by simp at h2; omega)
      · have h2' : z.length ≤ 12 := by
          simp at h2
          omega
        have hsz : z.cps.size = z.length := rfl
        obtain ⟨c0, hc0⟩ : ∃ c, z.cps[0]? = some c := ⟨_, Array.getElem?_eq_getElem (by omega)⟩
        have hl0 : z.cps.toList[0]? = some c0 := by rw [Array.getElem?_toList]; exact hc0
        have hh : z.cps.toList.head? = some c0 := by rw [List.head?_eq_getElem?]; exact hl0
        refine ⟨_, rfl, z, 0, c0, rfl, rfl, hzs, ?_, ?_⟩
        · have := atI_nat (j := 0) hl0
          simpa using this
        · refine ⟨c0, _, rfl, rfl, _, rfl, ?_⟩
          have rest : ∀ H', Ex H H' → Q (.bl (decide (c0 ∈ LETS) && z.cps.toList.all okSign)) H' := fun H' e => by
            have q := k H' e
            have ei : isName z = (decide (c0 ∈ LETS) && z.cps.toList.all okSign) := by
              unfold isName
              rw [decide_eq_true (show 1 ≤ z.length ∧ z.length ≤ 12 from ⟨h1', h2'⟩), hh]
              rfl
            rw [ei] at q
            exact q
          refine ite2 (fun h3 => ?_) (fun h3 => ?_)
          · have h3' : decide (c0 ∈ LETS) = true := h3
            rw [h3', Bool.true_and] at rest
            have hlen : z.cps.toList.length = z.cps.size := Array.length_toList
            refine ⟨_, rfl, z, rfl, fun D hD => lcY_sign (fun i H' => H D = none ∧ Ex H H' ∧ H' D = some (.lst ((z.cps.toList.take i).map fun c => V.bl (okSign c)))) ⟨hD, Ex.new hD, upd_same⟩ (fun i c H' hc p => ?_) (fun H' p => ?_)⟩
            · obtain ⟨p1, p2, p3⟩ := p
              have hil : i < z.cps.size := (Array.getElem?_eq_some_iff.mp hc).1
              have hlc : z.cps.toList[i]? = some c := by rw [Array.getElem?_toList]; exact hc
              have stp : (z.cps.toList.take (i + 1)).map (fun c => V.bl (okSign c)) = (z.cps.toList.take i).map (fun c => V.bl (okSign c)) ++ [V.bl (okSign c)] := by
                rw [List.take_add_one, hlc, List.map_append]
                rfl
              have fin : ∃ acc, H' D = some (.lst acc) ∧ acc.length < sizeLine ∧ H D = none ∧ Ex H (upd H' D (.lst (acc ++ [V.bl (okSign c)]))) ∧ (upd H' D (.lst (acc ++ [V.bl (okSign c)]))) D = some (.lst ((z.cps.toList.take (i + 1)).map fun c => V.bl (okSign c))) := by
                refine ⟨_, p3, sz_lt ?_, p1, Ex.mut p2 p1, ?_⟩
                · rw [List.length_map, List.length_take]
                  omega
                · rw [stp]
                  exact upd_same
              refine ⟨rfl, ?_⟩
              refine ⟨_, rfl, c, _, rfl, rfl, _, rfl, ?_⟩
              refine ite2 (fun h5 => ?_) (fun h5 => ?_)
              · have e : okSign c = true := by
                  unfold okSign
                  rw [show decide (c ∈ LETS) = true from h5]
                  rfl
                rw [e] at fin
                exact fin
              · refine ⟨_, rfl, c, _, rfl, rfl, ?_⟩
                have e : okSign c = decide (c ∈ DIGS) := by
                  unfold okSign
                  rw [show decide (c ∈ LETS) = false from Bool.eq_false_iff.mpr h5]
                  rfl
                rw [e] at fin
                exact fin
            · obtain ⟨p1, p2, p3⟩ := p
              rw [← hlen, List.take_length] at p3
              refine ⟨D, z.cps.toList.map okSign, rfl, ?_, ?_⟩
              · rw [List.map_map]
                exact SqL.of p3
              · have q := rest H' p2
                have e : (z.cps.toList.map okSign).all id = z.cps.toList.all okSign := by
                  rw [List.all_map]
                  rfl
                rw [e]
                exact q
          · have h3' : decide (c0 ∈ LETS) = false := Bool.eq_false_iff.mpr h3
            rw [h3', Bool.false_and] at rest
            exact rest H (Ex.refl H)
    · exact ⟨_, rfl, no (fun n => by simp at h1; omega)⟩
end
end EV

set_option Elab.async false
set_option linter.all false
set_option maxRecDepth 100000
set_option maxHeartbeats 4000000
namespace EV
open PySem PySem.Spec PyProof.Rows L2 EvS Evl
def Small (l : List Int) : Prop := ∀ n ∈ l, 0 ≤ n ∧ n < 1009
theorem small_snoc {l : List Int} {n : Int} (h : Small l) (a : 0 ≤ n) (b : n < 1009) : Small (l ++ [n]) := fun x hx => by
  rcases List.mem_append.mp hx with q | q
  · exact h x q
  · rw [List.mem_singleton] at q
    subst q
    exact ⟨a, b⟩
/-- a new list of m small numbers -/
def NewNums (m : Int) (H : Hp) (Q : VK) : Prop := ∀ H' p (ns : List Int), Ex H H' → H p = none → H' p = some (.lst (ns.map V.int)) → (ns.length : Int) = m → Small ns → Q (.ref p) H'
def sp__law_row : Sp := fun vs H Q _ => ∃ (c m : Int), vs = [.int c, .int m] ∧ 0 ≤ m ∧ m ≤ 10000 ∧ NewNums m H Q
def sp__law_numbers (K : PySem.W.Frag) : Sp := fun vs H Q _ => ∃ (p : Addr) (ns : List Int) (m : Int), vs = [.ref p, .int m] ∧ SqL K H p (ns.map V.int) ∧ 0 ≤ m ∧ m ≤ 1000 ∧ NewNums m H Q
theorem cutV_to (xs : List V) (k : Nat) : cutV xs none (some (k : Int)) = xs.take k := by
  unfold cutV
  rw [HT.sIx_nat, HT.sIx_none, List.drop_zero, Nat.sub_zero]
  rcases Nat.le_total k xs.length with h | h
  · rw [Nat.min_eq_left h]
  · rw [Nat.min_eq_right h, List.take_length, List.take_of_length_le h]
section
variable {P : Program} {w : World} {K : PySem.W.Frag} {mg : Str → Option Value} {base : Heap} {a : Ad}
theorem G__law_row (T : Txt K mg a) : FnOk P w K mg base CX0 1 a.f__law_row a.d__law_row ["cell", "many"] sp__law_row := by
  refine T.F__law_row.ok sc__law_row (fun vs H Q E h => ?_) (fun cdv A outer s H vs Q E hr h => ?_)
  · obtain ⟨c, m, rfl, _⟩ := h
    rfl
  · obtain ⟨c, m, rfl, m0, m1, k⟩ := h
    refine ⟨_, (pss_cons (ps_set (i := 2) sc__law_row.nd rfl (Or.inl rfl) (pe_lst pa_nil))
      (pss_cons (ps_set (i := 3) sc__law_row.nd rfl (Or.inl rfl) (pe_callB call_abs (by rfl) T.z_abs (by decide +kernel) (pa_cons (pv 0) pa_nil)))
      (pss_cons (ps_set (i := 4) sc__law_row.nd rfl (Or.inl rfl) (pe_op op_mod (pe_callTy call_int1 (by rfl) T.z_int (by decide +kernel) (pa_cons (pe_op op_add (pe_op op_mul (pv 3) pe_int) pe_int) pa_nil)) pe_int))
      (pss_cons (ps_for PassesOwn.never rfl (pi_range1 (by rfl) T.z_range (pa_cons (pv 1) pa_nil)) (pg_name (i := 5) sc__law_row.nd rfl (Or.inl rfl)) (pss_cons (ps_set (i := 4) sc__law_row.nd rfl (Or.inl rfl) (pe_op op_mod (pe_callTy call_int1 (by rfl) T.z_int (by decide +kernel) (pa_cons (pe_op op_add (pe_op op_mul (pv 4) pe_int) (pe_op op_mul pe_int (pe_op op_add (pv 5) pe_int))) pa_nil)) pe_int))
        (pss_one (ps_if (pt_cmpR op_ge (pe_callB call_abs (by rfl) T.z_abs (by decide +kernel) (pa_cons (pv 0) pa_nil)) (pe_op op_pow pe_int pe_int) (nomark _)) (pss_cons (ps_expr (pe_bm PySem.F.plainAttrs_list PySem.F.slot_list_append PySem.F.type_list_append mt_append (pv 2) (pa_cons (pe_op op_mod (pe_callTy call_int1 (by rfl) T.z_int (by decide +kernel) (pa_cons (pv 3) pa_nil)) pe_int) pa_nil)))
          (pss_one (ps_set (i := 3) sc__law_row.nd rfl (Or.inl rfl) (pe_op op_fdiv (pv 3) pe_int)))) (pss_one (ps_expr (pe_bm PySem.F.plainAttrs_list PySem.F.slot_list_append PySem.F.type_list_append mt_append (pv 2) (pa_cons (pe_op op_mod (pe_callTy call_int1 (by rfl) T.z_int (by decide +kernel) (pa_cons (pe_op op_fdiv (pv 4) pe_int) pa_nil)) pe_int) pa_nil))))))))
      (pss_one (ps_ret (pv 2))))))), ?_⟩
    refine ⟨Nat.zero_le _, fun l hl => ?_⟩
    refine ⟨_, rfl, _, rfl, ?_⟩
    refine ⟨_, rfl, _, _, rfl, rfl, .inr ⟨by decide, by decide⟩, _, _, rfl, rfl, .inl ⟨_, rfl, _, _, rfl, rfl, (by show (0 : Int) < 2147483647; decide), ?_⟩⟩
    refine ⟨_, rfl, _, rfl, by omega, by omega, for_range (n := m.toNat) (fun i σ H' => ∃ (r x : Int) (ns : List Int) (v : Option V), σ = [some (.int c), some (.int m), some (.ref l), some (.int r), some (.int x), v] ∧ Ex H H' ∧ H' l = some (.lst (ns.map V.int)) ∧ ns.length = i ∧ Small ns) ?_ ?_ ?_⟩
    · exact ⟨_, _, [], none, rfl, Ex.new hl, upd_same, rfl, fun n hn => by cases hn⟩
    · rintro i σ H' hi ⟨r, x, ns, v, rfl, e, hL, hlen, hs⟩
      have room : (ns.map V.int).length < sizeLine := sz_lt (by rw [List.length_map]; omega)
      have nx : ∀ (r' x' y : Int), 0 ≤ y → y < 1009 → ∃ (r x : Int) (ns' : List Int) (v' : Option V), [some (V.int c), some (V.int m), some (V.ref l), some (V.int r'), some (V.int x'), some (V.int (0 + (i : Int)))] = [some (V.int c), some (V.int m), some (V.ref l), some (V.int r), some (V.int x), v'] ∧
          Ex H (upd H' l (.lst (ns.map V.int ++ [V.int y]))) ∧ (upd H' l (.lst (ns.map V.int ++ [V.int y]))) l = some (.lst (ns'.map V.int)) ∧ ns'.length = i + 1 ∧ Small ns' := fun r' x' y h0 h1 =>
        ⟨_, _, ns ++ [y], _, rfl, Ex.mut e hl, by rw [upd_same, List.map_append] <;> rfl, by rw [List.length_append, hlen] <;> rfl, small_snoc hs h0 h1⟩
      refine ⟨_, rfl, _, _, rfl, rfl, .inr ⟨by decide, by decide⟩, _, rfl, _, _, rfl, rfl, _, _, rfl, rfl, .inl ⟨by decide, by decide⟩, _, _, rfl, rfl, .inl ⟨_, rfl, _, _, rfl, rfl, (by show (0 : Int) < 2147483629; decide), ?_⟩⟩
      refine ⟨_, rfl, _, rfl, _, _, rfl, rfl, ⟨by decide, by decide, by decide⟩, _, _, rfl, rfl, _, rfl, ?_⟩
      refine ite2 (fun _ => ?_) (fun _ => ?_)
      · refine ⟨_, rfl, .inl ⟨rfl, _, SqL.of hL⟩, _, rfl, .inl ⟨_, rfl, _, _, rfl, rfl, (by show (0 : Int) < 1009; decide), l, _, _, rfl, rfl, hL, room, ?_⟩⟩
        refine ⟨_, rfl, _, _, rfl, rfl, ⟨by decide, by decide⟩, ?_⟩
        exact nx _ _ _ (Int.emod_nonneg _ (by decide)) (Int.emod_lt_of_pos _ (by decide))
      · refine ⟨_, rfl, .inl ⟨rfl, _, SqL.of hL⟩, _, rfl, _, _, rfl, rfl, ⟨by decide, by decide⟩, .inl ⟨_, rfl, _, _, rfl, rfl, (by show (0 : Int) < 1009; decide), l, _, _, rfl, rfl, hL, room, ?_⟩⟩
        exact nx _ _ _ (Int.emod_nonneg _ (by decide)) (Int.emod_lt_of_pos _ (by decide))
    · rintro σ H' ⟨r, x, ns, v, rfl, e, hL, hlen, hs⟩
      exact ⟨_, rfl, k H' l ns e hl hL (by omega) hs⟩
theorem G__law_numbers (T : Txt K mg a) : FnOk P w K mg base CX0 2 a.f__law_numbers a.d__law_numbers ["script", "many"] (sp__law_numbers K) := by
  refine T.F__law_numbers.ok sc__law_numbers (fun vs H Q E h => ?_) (fun cdv A outer s H vs Q E hr h => ?_)
  · obtain ⟨p, ns, m, rfl, _⟩ := h
    rfl
  · obtain ⟨p, ns, m, rfl, hS, m0, m1, k⟩ := h
    refine ⟨_, (pss_cons (ps_set (i := 2) sc__law_numbers.nd rfl (Or.inl rfl) (pe_slice sl_list (pv 0) po_none (po_some pe_int)))
      (pss_cons (ps_set (i := 3) sc__law_numbers.nd rfl (Or.inl rfl) (pe_op op_add pe_int (pe_op op_fdivN (pv 1) (pe_callB (call_max2 rfl) (by rfl) T.z_max (by decide +kernel) (pa_cons pe_int (pa_cons (pe_callB call_len_seq (by rfl) T.z_len PySem.boot_len (pa_cons (pv 2) pa_nil)) pa_nil))))))
      (pss_cons (ps_set (i := 4) sc__law_numbers.nd rfl (Or.inl rfl) (pe_lst pa_nil))
      (pss_cons (ps_for PassesOwn.never rfl (pi_list (pv 2)) (pg_name (i := 5) sc__law_numbers.nd rfl (Or.inl rfl)) (pss_one (ps_for PassesOwn.never rfl (pi_list (pe_call (G__law_row T) (hr.mono (by decide)) (by rfl) T.g__law_row T.k__law_row T.B__law_row .nil pass0 (pa_cons (pv 5) (pa_cons (pv 3) pa_nil)))) (pg_name (i := 6) sc__law_numbers.nd rfl (Or.inl rfl)) (pss_one (ps_expr (pe_bm PySem.F.plainAttrs_list PySem.F.slot_list_append PySem.F.type_list_append mt_append (pv 4) (pa_cons (pv 6) pa_nil)))))))
      (pss_cons (ps_while PassesOwn.never (pt_cmpR op_lt (pe_callB call_len_seq (by rfl) T.z_len PySem.boot_len (pa_cons (pv 4) pa_nil)) (pv 1) (nomark _)) (pss_one (ps_expr (pe_bm PySem.F.plainAttrs_list PySem.F.slot_list_append PySem.F.type_list_append mt_append (pv 4) (pa_cons pe_int pa_nil)))))
      (pss_one (ps_ret (pe_slice sl_list (pv 4) po_none (po_some (pv 1)))))))))), ?_⟩
    -- cells = script[:63]
    refine ⟨_, rfl, _, rfl, p, _, rfl, hS, fun q hq => ?_⟩
    have hcs : cutV (ns.map V.int) none (some ((63 : Nat) : Int)) = (ns.take 63).map V.int := by
      rw [cutV_to, List.map_take]
    show tSeq _ _ _ _ (upd H q (.lst (cutV (ns.map V.int) none (some ((63 : Nat) : Int)))))
    rw [hcs]
    generalize hcd : ns.take 63 = cs
    have hcl : cs.length ≤ 63 := by
      rw [← hcd, List.length_take]
      omega
    have hlc : (cs.map V.int).length = cs.length := List.length_map ..
    have e1 : Ex H (upd H q (.lst (cs.map V.int))) := Ex.new hq
    -- each = 1 + many // max(1, len(cells))
    refine ⟨_, rfl, _, rfl, q, _, rfl, .inl (SqL.of upd_same), _, _, rfl, _, _, rfl, rfl, ⟨?_, ?_⟩, _, _, rfl, rfl, ?_⟩
    · split <;> omega
    · rw [hlc]
      split <;> omega
    generalize hd : (if ((cs.map V.int).length : Int) > 1 then ((cs.map V.int).length : Int) else 1) = d
    have d1 : 1 ≤ d := by
      rw [← hd]
      split <;> omega
    have f0 : 0 ≤ m.fdiv d := by
      rw [Int.fdiv_eq_ediv_of_nonneg _ (by omega)]
      exact Int.ediv_nonneg m0 (by omega)
    have f1 : m.fdiv d ≤ 1000 := by
      rw [Int.fdiv_eq_ediv_of_nonneg _ (by omega)]
      exact Int.le_trans (Int.ediv_le_self _ m0) m1
    generalize m.fdiv d = f at f0 f1
    -- numbers = []
    refine ⟨Nat.zero_le _, fun l hl => ?_⟩
    have hlH : H l = none := fresh_back e1 hl
    have nql : q ≠ l := ne_of_none upd_same hl
    have nlq : l ≠ q := Ne.symm nql
    refine ⟨_, rfl, q, rfl, ⟨_, SqL.of (by rw [upd_ne nql]; exact upd_same)⟩, for_list (K := K) (a := q) (xs := cs.map V.int) (fun i σ H' => ∃ (ks : List Int) (v5 v6 : Option V), σ = [some (.ref p), some (.int m), some (.ref q), some (.int (1 + f)), some (.ref l), v5, v6] ∧
      Ex H H' ∧ H' q = some (.lst (cs.map V.int)) ∧ H' l = some (.lst (ks.map V.int)) ∧ ks.length ≤ i * 1001 ∧ Small ks) ?_ ?_ ?_ ?_⟩
    · exact ⟨[], none, none, rfl, e1.trans (Ex.new hl), by rw [upd_ne nql]; exact upd_same, upd_same, by simp, fun n hn => by cases hn⟩
    · rintro i σ H' _ ⟨ks, v5, v6, rfl, e, hQ, hL, _⟩
      exact SqL.of hQ
    · rintro i y σ H' hi ⟨ks, v5, v6, rfl, e, hQ, hL, hn, hs⟩
      have hi63 : i < cs.length := by
        have z := (List.getElem?_eq_some_iff.mp hi).1
        rw [hlc] at z
        exact z
      obtain ⟨c, rfl⟩ : ∃ c, y = V.int c := by
        rw [List.getElem?_map] at hi
        cases z : cs[i]? with
        | none =>
          rw [z] at hi
          cases hi
        | some c =>
          rw [z] at hi
          exact ⟨c, (Option.some.inj hi).symm⟩
      -- for number in _law_row(cell, each)
      refine ⟨_, rfl, _, rfl, c, 1 + f, rfl, by omega, by omega, fun H2 r rs e2 hr hR hrl hrs => ⟨r, rfl, ⟨_, SqL.of hR⟩, ?_⟩⟩
      have nrl : r ≠ l := Ne.symm (ne_of_none hL hr)
      have nrq : q ≠ r := ne_of_none hQ hr
      have nlr : l ≠ r := Ne.symm nrl
      refine for_list (K := K) (a := r) (xs := rs.map V.int) (fun j σ H' => ∃ (ks' : List Int) (v6 : Option V), σ = [some (.ref p), some (.int m), some (.ref q), some (.int (1 + f)), some (.ref l), some (.int c), v6] ∧
        Ex H H' ∧ H' q = some (.lst (cs.map V.int)) ∧ H' r = some (.lst (rs.map V.int)) ∧ H' l = some (.lst (ks'.map V.int)) ∧ ks'.length = ks.length + j ∧ Small ks') ?_ ?_ ?_ ?_
      · exact ⟨ks, v6, rfl, e.trans e2, e2 _ _ hQ, hR, e2 _ _ hL, rfl, hs⟩
      · rintro j σ H' _ ⟨ks', v6, rfl, _, _, h3, _⟩
        exact SqL.of h3
      · rintro j y σ H' hj ⟨ks', v6, rfl, e3, hQ3, hR3, hL3, hn3, hs3⟩
        have hjr : j < rs.length := by
          have z := (List.getElem?_eq_some_iff.mp hj).1
          rw [List.length_map] at z
          exact z
        obtain ⟨n, hnm, rfl⟩ : ∃ n, n ∈ rs ∧ y = V.int n := by
          rw [List.getElem?_map] at hj
          cases z : rs[j]? with
          | none =>
            rw [z] at hj
            cases hj
          | some n =>
            rw [z] at hj
            exact ⟨n, List.mem_of_getElem? z, (Option.some.inj hj).symm⟩
        refine ⟨_, rfl, .inl ⟨rfl, _, SqL.of hL3⟩, _, rfl, l, _, _, rfl, rfl, hL3, sz_lt (by rw [List.length_map]; omega), ?_⟩
        exact ⟨ks' ++ [n], _, rfl, Ex.mut e3 hlH, by rw [upd_ne nql]; exact hQ3, by rw [upd_ne nrl]; exact hR3, by rw [upd_same, List.map_append] <;> rfl, by rw [List.length_append, hn3] <;> rfl, small_snoc hs3 (hrs n hnm).1 (hrs n hnm).2⟩
      · rintro σ H' ⟨ks', v6, rfl, e3, hQ3, hR3, hL3, hn3, hs3⟩
        rw [List.length_map] at hn3
        exact ⟨ks', _, _, rfl, e3, hQ3, hL3, by omega, hs3⟩
    · rintro σ H' ⟨ks, v5, v6, rfl, e, hQ, hL, hn, hs⟩
      rw [hlc] at hn
      -- while len(numbers) < many
      refine ⟨fun j σ H' => ∃ ks' : List Int, j = (m.toNat - ks'.length) ∧ σ = [some (.ref p), some (.int m), some (.ref q), some (.int (1 + f)), some (.ref l), v5, v6] ∧ Ex H H' ∧ H' l = some (.lst (ks'.map V.int)) ∧ ks'.length ≤ 70000 ∧ Small ks',
        ⟨_, ks, rfl, rfl, e, hL, by omega, hs⟩, ?_⟩
      rintro j σ H' ⟨ks', rfl, rfl, e3, hL3, hn3, hs3⟩
      have hlk : (ks'.map V.int).length = ks'.length := List.length_map ..
      refine ⟨_, rfl, l, _, rfl, .inl (SqL.of hL3), _, rfl, _, _, rfl, rfl, _, rfl, ?_⟩
      refine ite2 (fun lt => ?_) (fun ge => ?_)
      · have lt' : (ks'.length : Int) < m := by
          have z := of_decide_eq_true lt
          rw [hlk] at z
          exact z
        refine ⟨_, fun σ' H' z => z, ?_⟩
        refine ⟨_, rfl, .inl ⟨rfl, _, SqL.of hL3⟩, l, _, _, rfl, rfl, hL3, sz_lt (by rw [hlk]; omega), ?_⟩
        exact ⟨_, by show m.toNat - (ks' ++ [0]).length < _; rw [List.length_append, List.length_singleton]; omega, ks' ++ [0], rfl, rfl, Ex.mut e3 hlH, by rw [upd_same, List.map_append] <;> rfl, by rw [List.length_append, List.length_singleton]; omega, small_snoc hs3 (by decide) (by decide)⟩
      · have ge' : m ≤ (ks'.length : Int) := by
          have z : ¬ ((ks'.map V.int).length : Int) < m := fun z => ge (decide_eq_true z)
          rw [hlk] at z
          omega
        -- return numbers[:many]
        refine ⟨_, rfl, _, rfl, _, rfl, l, _, rfl, SqL.of hL3, fun u hu => ?_⟩
        have em : m = ((m.toNat : Nat) : Int) := by omega
        have hcu : cutV (ks'.map V.int) none (some m) = (ks'.take m.toNat).map V.int := by
          rw [em, cutV_to, List.map_take]
          rfl
        show Q (.ref u) (upd H' u (.lst (cutV (ks'.map V.int) none (some m))))
        rw [hcu]
        refine k _ u (ks'.take m.toNat) (e3.trans (Ex.new hu)) (fresh_back e3 hu) upd_same ?_ (fun x hx => hs3 x (List.mem_of_mem_take hx))
        rw [List.length_take]
        omega
end
end EV

set_option Elab.async false
set_option linter.all false
set_option maxRecDepth 100000
set_option maxHeartbeats 4000000
namespace EV
open PySem PySem.Spec PyProof.Rows L2 EvS Evl
/-! ### the data of a land -/
structure Link where
  n : Str
  o : Str
  t : Str
  ts : List (Option (Int × Int))
structure LandD where
  ws : List Str
  ps : List Str
  ls : List Link
  pa : List (Str × Str × Int)
def dTime : Option (Int × Int) → PyData
  | none => .none
  | some b => .tuple [.int b.1, .int b.2]
def dRaw (k : Link) : PyData := .tuple [.str k.n, .str k.o, .str k.t, .list (k.ts.map dTime)]
def dLink (k : Link) : PyData := .tuple [.str k.n, .str k.o, .str k.t, .tuple (k.ts.map dTime)]
def dPath (p : Str × Str × Int) : PyData := .tuple [.str p.1, .str p.2.1, .int p.2.2]
def dParts (D : LandD) : PyData := .list [.list (D.ws.map .str), .list (D.ps.map .str), .list (D.ls.map dRaw), .list (D.pa.map dPath)]
def dLand (D : LandD) : PyData := .tuple [.tuple (D.ws.map .str), .tuple (D.ps.map .str), .tuple (D.ls.map dLink), .tuple (D.pa.map dPath)]
def Good (ns : List Str) : Prop := (∀ n ∈ ns, isName n = true) ∧ ns.Nodup
def TimeOk : Option (Int × Int) → Prop
  | none => True
  | some b => 1 ≤ b.1 ∧ b.1 ≤ b.2 ∧ b.2 ≤ 1000
structure LinkOk (ws ps : List Str) (k : Link) : Prop where
  o : k.o ∈ ps
  t : k.t ∈ ps
  ne : k.o ≠ k.t
  len : k.ts.length = ws.length
  ok : ∀ b ∈ k.ts, TimeOk b
structure PathOk (ps : List Str) (p : Str × Str × Int) : Prop where
  o : p.1 ∈ ps
  t : p.2.1 ∈ ps
  ne : p.1 ≠ p.2.1
  lo : 1 ≤ p.2.2
  hi : p.2.2 ≤ 1000
def Apart (p q : Str × Str) : Prop := ¬ [p.1, p.2].Perm [q.1, q.2]
structure LandOk (D : LandD) : Prop where
  w1 : 1 ≤ D.ws.length
  w4 : D.ws.length ≤ 4
  p1 : 1 ≤ D.ps.length
  p24 : D.ps.length ≤ 24
  l60 : D.ls.length ≤ 60
  a60 : D.pa.length ≤ 60
  gw : Good D.ws
  gp : Good D.ps
  gl : Good (D.ls.map (·.n))
  lk : ∀ k ∈ D.ls, LinkOk D.ws D.ps k
  pt : ∀ p ∈ D.pa, PathOk D.ps p
  ap : (D.pa.map fun p => (p.1, p.2.1)).Pairwise Apart
theorem name_len {z : Str} (h : isName z = true) : 1 ≤ z.length ∧ z.length ≤ 12 := by
  unfold isName at h
  rw [Bool.and_eq_true, Bool.and_eq_true] at h
  exact of_decide_eq_true h.1.1
/-! ### data that stands -/
mutual
theorem dp_ex {K : PySem.W.Frag} {H H' : Hp} (e : Ex H H') : ∀ {v : V} {d : PyData}, Dp K H v d → Dp K H' v d
  | _, _, .non => .non
  | _, _, .bl b => .bl b
  | _, _, .int i => .int i
  | _, _, .str x => .str x
  | _, _, .lst h r => .lst (ex_l e h) (dps_ex e r)
  | _, _, .tup h r => .tup (ex_t e h) (dps_ex e r)
theorem dps_ex {K : PySem.W.Frag} {H H' : Hp} (e : Ex H H') : ∀ {vs : List V} {ds : List PyData}, DpAll K H vs ds → DpAll K H' vs ds
  | _, _, .nil => .nil
  | _, _, .cons h r => .cons (dp_ex e h) (dps_ex e r)
end
theorem dps_len {K : PySem.W.Frag} {H : Hp} : ∀ {vs : List V} {ds : List PyData}, DpAll K H vs ds → vs.length = ds.length
  | _, _, .nil => rfl
  | _, _, .cons _ r => congrArg Nat.succ (dps_len r)
theorem dps_at {K : PySem.W.Frag} {H : Hp} : ∀ {vs : List V} {ds : List PyData} {i : Nat} {v : V}, DpAll K H vs ds → vs[i]? = some v → ∃ d, ds[i]? = some d ∧ Dp K H v d
  | _, _, _, _, .nil, h => by simp at h
  | _, _, 0, _, .cons h _, e => by
    simp only [List.getElem?_cons_zero, Option.some.injEq] at e
    subst e
    exact ⟨_, rfl, h⟩
  | _, _, i + 1, _, .cons _ r, e => by
    simp only [List.getElem?_cons_succ] at e
    exact dps_at (i := i) r e
theorem dps_app {K : PySem.W.Frag} {H : Hp} : ∀ {vs us : List V} {ds es : List PyData}, DpAll K H vs ds → DpAll K H us es → DpAll K H (vs ++ us) (ds ++ es)
  | _, _, _, _, .nil, b => b
  | _, _, _, _, .cons h r, b => .cons h (dps_app r b)
theorem dps_one {K : PySem.W.Frag} {H : Hp} {v : V} {d : PyData} (h : Dp K H v d) : DpAll K H [v] [d] := .cons h .nil
theorem dps_str {K : PySem.W.Frag} {H : Hp} : ∀ ns : List Str, DpAll K H (ns.map V.str) (ns.map PyData.str)
  | [] => .nil
  | n :: r => .cons (.str n) (dps_str r)
theorem dps_strs {K : PySem.W.Frag} {H : Hp} : ∀ {ns : List Str} {vs : List V}, DpAll K H vs (ns.map PyData.str) → vs = ns.map V.str
  | [], _, .nil => rfl
  | n :: r, _, .cons h t => by
    cases h
    rw [dps_strs t]
    rfl
def Seq2 (K : PySem.W.Frag) (H : Hp) (p : Addr) (xs : List V) : Prop := SqL K H p xs ∨ SqT K H p xs
theorem Seq2.ex {K : PySem.W.Frag} {H H' : Hp} {p : Addr} {xs : List V} (e : Ex H H') (h : Seq2 K H p xs) : Seq2 K H' p xs := h.elim (fun q => .inl (ex_l e q)) (fun q => .inr (ex_t e q))
/-- a link as it is handed in: its times are a list or a tuple -/
def LinkIn (K : PySem.W.Frag) (H : Hp) (v : V) (k : Link) : Prop := ∃ t u vs, v = .ref t ∧ SqT K H t [.str k.n, .str k.o, .str k.t, .ref u] ∧ Seq2 K H u vs ∧ DpAll K H vs (k.ts.map dTime)
theorem LinkIn.ex {K : PySem.W.Frag} {H H' : Hp} {v : V} {k : Link} (e : Ex H H') (h : LinkIn K H v k) : LinkIn K H' v k := by
  obtain ⟨t, u, vs, rfl, h1, h2, h3⟩ := h
  exact ⟨t, u, vs, rfl, ex_t e h1, h2.ex e, dps_ex e h3⟩
theorem raw_in {K : PySem.W.Frag} {H : Hp} {v : V} {k : Link} (h : Dp K H v (dRaw k)) : LinkIn K H v k := by
  unfold dRaw at h
  cases h with
  | tup hs hr =>
    cases hr with
    | cons a1 hr =>
      cases a1
      cases hr with
      | cons a2 hr =>
        cases a2
        cases hr with
        | cons a3 hr =>
          cases a3
          cases hr with
          | cons a4 hr =>
            cases hr
            cases a4 with
            | lst hl ha => exact ⟨_, _, _, rfl, hs, .inl hl, ha⟩
theorem made_in {K : PySem.W.Frag} {H : Hp} {v : V} {k : Link} (h : Dp K H v (dLink k)) : LinkIn K H v k := by
  unfold dLink at h
  cases h with
  | tup hs hr =>
    cases hr with
    | cons a1 hr =>
      cases a1
      cases hr with
      | cons a2 hr =>
        cases a2
        cases hr with
        | cons a3 hr =>
          cases a3
          cases hr with
          | cons a4 hr =>
            cases hr
            cases a4 with
            | tup hl ha => exact ⟨_, _, _, rfl, hs, .inr hl, ha⟩
theorem path_in {K : PySem.W.Frag} {H : Hp} {v : V} {p : Str × Str × Int} (h : Dp K H v (dPath p)) : ∃ t, v = .ref t ∧ SqT K H t [.str p.1, .str p.2.1, .int p.2.2] := by
  unfold dPath at h
  cases h with
  | tup hs hr =>
    cases hr with
    | cons a1 hr =>
      cases a1
      cases hr with
      | cons a2 hr =>
        cases a2
        cases hr with
        | cons a3 hr =>
          cases a3
          cases hr
          exact ⟨_, rfl, hs⟩
/-- a land as it stands -/
def landFs (wi pl li pa : Addr) : List (Str × V) := putF "paths" (.ref pa) (putF "links" (.ref li) (putF "places" (.ref pl) (putF "winds" (.ref wi) [])))
structure LandAt (K : PySem.W.Frag) (C : Addr) (H : Hp) (x : Addr) (D : LandD) (dx wi pl li pa : Addr) (rows prs : List V) : Prop where
  ob : H x = some (.ins C dx (landFs wi pl li pa))
  wi : SqT K H wi (D.ws.map V.str)
  pl : SqT K H pl (D.ps.map V.str)
  li : SqT K H li rows
  ls : DpAll K H rows (D.ls.map dLink)
  pa : SqT K H pa prs
  ps : DpAll K H prs (D.pa.map dPath)
def IsLand (K : PySem.W.Frag) (C : Addr) (H : Hp) (x : Addr) (D : LandD) : Prop := ∃ dx wi pl li pa rows prs, LandAt K C H x D dx wi pl li pa rows prs
theorem IsLand.ex {K : PySem.W.Frag} {C : Addr} {H H' : Hp} {x : Addr} {D : LandD} (e : Ex H H') (h : IsLand K C H x D) : IsLand K C H' x D := by
  obtain ⟨dx, wi, pl, li, pa, rows, prs, L⟩ := h
  exact ⟨dx, wi, pl, li, pa, rows, prs, e _ _ L.ob, ex_t e L.wi, ex_t e L.pl, ex_t e L.li, dps_ex e L.ls, ex_t e L.pa, dps_ex e L.ps⟩
theorem fs_winds (wi pl li pa : Addr) : (landFs wi pl li pa).lookup ("winds" : Str) = some (V.ref wi) := by
  unfold landFs
  rw [lookup_putF, if_neg (by decide +kernel), lookup_putF, if_neg (by decide +kernel), lookup_putF, if_neg (by decide +kernel), lookup_putF, if_pos rfl]
theorem fs_places (wi pl li pa : Addr) : (landFs wi pl li pa).lookup ("places" : Str) = some (V.ref pl) := by
  unfold landFs
  rw [lookup_putF, if_neg (by decide +kernel), lookup_putF, if_neg (by decide +kernel), lookup_putF, if_pos rfl]
theorem fs_links (wi pl li pa : Addr) : (landFs wi pl li pa).lookup ("links" : Str) = some (V.ref li) := by
  unfold landFs
  rw [lookup_putF, if_neg (by decide +kernel), lookup_putF, if_pos rfl]
theorem fs_paths (wi pl li pa : Addr) : (landFs wi pl li pa).lookup ("paths" : Str) = some (V.ref pa) := by
  unfold landFs
  rw [lookup_putF, if_pos rfl]
/-! ### the checks, where all is well -/
theorem flat_str (ys : List Str) : (ys.map V.str).all flatV = true := by
  rw [List.all_map]
  exact List.all_eq_true.mpr fun _ _ => rfl
theorem inV_str {z : Str} {ys : List Str} (h : z ∈ ys) : inV (.str z) (ys.map V.str) = true := by
  unfold inV
  rw [List.any_map, List.any_eq_true]
  refine ⟨z, h, ?_⟩
  show (z == z) = true
  exact beq_self_eq_true z
def sp__check_count (K : PySem.W.Frag) : Sp := fun vs H Q _ => ∃ (z : Str) (p : Addr) (xs : List V) (lo hi : Int), vs = [.str z, .ref p, .int lo, .int hi] ∧ Seq2 K H p xs ∧ lo ≤ xs.length ∧ (xs.length : Int) ≤ hi ∧ Q .non H
def sp__check_names (K : PySem.W.Frag) : Sp := fun vs H Q _ => ∃ (z : Str) (p : Addr) (ns : List Str), vs = [.str z, .ref p] ∧ Seq2 K H p (ns.map V.str) ∧ ns.length ≤ 1000 ∧ Good ns ∧ ∀ H', Ex H H' → Q .non H'
def sp__check_ends (K : PySem.W.Frag) : Sp := fun vs H Q _ => ∃ (z one other : Str) (p : Addr) (ps : List Str), vs = [.str z, .str one, .str other, .ref p] ∧ Seq2 K H p (ps.map V.str) ∧ one ∈ ps ∧ other ∈ ps ∧ one ≠ other ∧ Q .non H
def sp__as_bounds (K : PySem.W.Frag) : Sp := fun vs H Q _ => ∃ (v : V) (b : Option (Int × Int)), vs = [v] ∧ Dp K H v (dTime b) ∧ TimeOk b ∧ ∀ v' H', Ex H H' → Dp K H' v' (dTime b) → Q v' H'
def sp__as_link (K : PySem.W.Frag) : Sp := fun vs H Q _ => ∃ (v : V) (wi pl : Addr) (ws ps : List Str) (k : Link), vs = [v, .ref wi, .ref pl] ∧ LinkIn K H v k ∧ Seq2 K H wi (ws.map V.str) ∧ Seq2 K H pl (ps.map V.str) ∧ LinkOk ws ps k ∧ ws.length ≤ 100 ∧
  ∀ H' p, Ex H H' → H p = none → Dp K H' (.ref p) (dLink k) → Q (.ref p) H'
def sp__as_path (K : PySem.W.Frag) : Sp := fun vs H Q _ => ∃ (v : V) (pl : Addr) (ps : List Str) (p : Str × Str × Int), vs = [v, .ref pl] ∧ Dp K H v (dPath p) ∧ Seq2 K H pl (ps.map V.str) ∧ PathOk ps p ∧ ∀ H' q, Ex H H' → H q = none → Dp K H' (.ref q) (dPath p) → Q (.ref q) H'
def sp__check_single_paths (K : PySem.W.Frag) : Sp := fun vs H Q _ => ∃ (p : Addr) (prs : List V) (pa : List (Str × Str × Int)), vs = [.ref p] ∧ SqT K H p prs ∧ DpAll K H prs (pa.map dPath) ∧ pa.length ≤ 60 ∧ (pa.map fun p => (p.1, p.2.1)).Pairwise Apart ∧ ∀ H', Ex H H' → Q .non H'
def sp_link_names (K : PySem.W.Frag) (C : Addr) : Sp := fun vs H Q _ => ∃ (x dx : Addr) (fs : List (Str × V)) (l : Addr) (rows : List V) (ls : List Link), vs = [.ref x] ∧ H x = some (.ins C dx fs) ∧ fs.lookup ("links" : Str) = some (V.ref l) ∧ SqT K H l rows ∧ DpAll K H rows (ls.map dLink) ∧ ls.length ≤ 1000 ∧
  ∀ H' p, Ex H H' → H p = none → H' p = some (.tup ((ls.map (·.n)).map V.str)) → Q (.ref p) H'
section
variable {P : Program} {w : World} {K : PySem.W.Frag} {mg : Str → Option Value} {base : Heap} {a : Ad}
theorem G__check_count (T : Txt K mg a) : FnOk P w K mg base CX0 1 a.f__check_count a.d__check_count ["sort", "rows", "least", "most"] (sp__check_count K) := by
  refine T.F__check_count.ok sc__check_count (fun vs H Q E h => ?_) (fun cdv A outer s H vs Q E hr h => ?_)
  · obtain ⟨z, p, xs, lo, hi, rfl, _⟩ := h
    rfl
  · obtain ⟨z, p, xs, lo, hi, rfl, hS, h1, h2, k⟩ := h
    refine ⟨_, (pss_one (ps_if (pt_not (pt_chain op_le op_le (pv 2) (pe_callB call_len_seq (by rfl) T.z_len PySem.boot_len (pa_cons (pv 1) pa_nil)) (pv 3))) pss_any pss_nil)), ?_⟩
    refine ⟨_, rfl, _, rfl, p, _, rfl, hS, _, _, rfl, rfl, _, rfl, ?_⟩
    refine ite2 (fun _ => ?_) (fun n => absurd (decide_eq_true h1) n)
    exact ⟨_, rfl, _, _, rfl, rfl, _, rfl, iteNS h2 k⟩
theorem G__check_names (T : Txt K mg a) : FnOk P w K mg base CX0 2 a.f__check_names a.d__check_names ["sort", "names"] (sp__check_names K) := by
  refine T.F__check_names.ok sc__check_names (fun vs H Q E h => ?_) (fun cdv A outer s H vs Q E hr h => ?_)
  · obtain ⟨z, p, ns, rfl, _⟩ := h
    rfl
  · obtain ⟨z, p, ns, rfl, hS, hl, hg, k⟩ := h
    refine ⟨_, (pss_cons (ps_for PassesOwn.never rfl (pi_or (pi_list (pv 1)) (pi_tup (pv 1))) (pg_name (i := 2) sc__check_names.nd rfl (Or.inl rfl)) (pss_one (ps_if (pt_not (pt_val (pe_call (G_is_name T) (hr.mono (by decide)) (by rfl) T.g_is_name T.k_is_name T.B_is_name .nil pass0 (pa_cons (pv 2) pa_nil)))) pss_any pss_nil)))
      (pss_one (ps_if (pt_cmpR op_ne (pe_lenSetS rfl (by rfl) T.z_len (by rfl) T.z_set (pv 1)) (pe_callB call_len_seq (by rfl) T.z_len PySem.boot_len (pa_cons (pv 1) pa_nil)) (nomark _)) pss_any pss_nil))), ?_⟩
    have hlen : (ns.map V.str).length = ns.length := List.length_map ..
    have pick : ∀ {i : Nat} {y : V}, (ns.map V.str)[i]? = some y → ∃ n, n ∈ ns ∧ y = .str n := fun {i y} hy => by
      rw [List.getElem?_map] at hy
      cases q : ns[i]? with
      | none =>
        rw [q] at hy
        cases hy
      | some n =>
        rw [q] at hy
        exact ⟨n, List.mem_of_getElem? q, (Option.some.inj hy).symm⟩
    have dl := (dd_len_eq ns [] List.nodup_nil).mpr (by rw [List.nil_append]; exact hg.2)
    rw [List.length_nil, Nat.zero_add] at dl
    rcases hS with hS | hS
    · refine .inl ⟨_, rfl, p, rfl, ⟨_, hS⟩, for_list (K := K) (a := p) (xs := ns.map V.str) (fun i σ H' => ∃ v, σ = [some (V.str z), some (V.ref p), v] ∧ Ex H H') ⟨none, rfl, Ex.refl H⟩ ?_ ?_ ?_⟩
      · rintro i σ H' _ ⟨v, rfl, e⟩
        exact ex_l e hS
      · rintro i y σ H' hy ⟨v, rfl, e⟩
        obtain ⟨n, hn, rfl⟩ := pick hy
        have nl := name_len (hg.1 n hn)
        refine ⟨_, rfl, n, rfl, by omega, fun H2 e2 => ⟨_, rfl, ?_⟩⟩
        rw [hg.1 n hn]
        exact iteF ⟨_, rfl, e.trans e2⟩
      · rintro σ H' ⟨v, rfl, e⟩
        refine ⟨_, rfl, p, ns, rfl, .inl (ex_l e hS), by omega, _, rfl, p, _, rfl, .inl (ex_l e hS), rfl, _, rfl, ?_⟩
        rw [hlen, dl]
        exact iteNS rfl (k _ e)
    · refine .inr ⟨_, rfl, p, rfl, ⟨_, hS⟩, for_tup (K := K) (a := p) (xs := ns.map V.str) (fun i σ H' => ∃ v, σ = [some (V.str z), some (V.ref p), v] ∧ Ex H H') ⟨none, rfl, Ex.refl H⟩ ?_ ?_ ?_⟩
      · rintro i σ H' _ ⟨v, rfl, e⟩
        exact ex_t e hS
      · rintro i y σ H' hy ⟨v, rfl, e⟩
        obtain ⟨n, hn, rfl⟩ := pick hy
        have nl := name_len (hg.1 n hn)
        refine ⟨_, rfl, n, rfl, by omega, fun H2 e2 => ⟨_, rfl, ?_⟩⟩
        rw [hg.1 n hn]
        exact iteF ⟨_, rfl, e.trans e2⟩
      · rintro σ H' ⟨v, rfl, e⟩
        refine ⟨_, rfl, p, ns, rfl, .inr (ex_t e hS), by omega, _, rfl, p, _, rfl, .inr (ex_t e hS), rfl, _, rfl, ?_⟩
        rw [hlen, dl]
        exact iteNS rfl (k _ e)
theorem G__check_ends (T : Txt K mg a) : FnOk P w K mg base CX0 1 a.f__check_ends a.d__check_ends ["sort", "one", "other", "places"] (sp__check_ends K) := by
  refine T.F__check_ends.ok sc__check_ends (fun vs H Q E h => ?_) (fun cdv A outer s H vs Q E hr h => ?_)
  · obtain ⟨z, one, other, p, ps, rfl, _⟩ := h
    rfl
  · obtain ⟨z, one, other, p, ps, rfl, hS, h1, h2, h3, k⟩ := h
    refine ⟨_, (pss_cons (ps_if (PW.pt (pw_or (pt_cmpR op_notIn_seq (pv 1) (pv 3) (by rfl)) (pw_or1 (pt_cmpR op_notIn_seq (pv 2) (pv 3) (by rfl))))) pss_any pss_nil)
      (pss_one (ps_if (pt_cmpR op_eq (pv 1) (pv 2) (nomark _)) pss_any pss_nil))), ?_⟩
    refine ⟨_, rfl, _, rfl, p, _, rfl, hS, rfl, flat_str _, _, rfl, ?_⟩
    rw [inV_str h1]
    refine iteF ⟨_, rfl, _, rfl, p, _, rfl, hS, rfl, flat_str _, _, rfl, ?_⟩
    rw [inV_str h2]
    refine iteF ?_
    refine ⟨_, rfl, _, rfl, rfl, _, rfl, ?_⟩
    rw [decide_eq_false (fun q => h3 (V.str.inj q))]
    exact iteF k
theorem G__as_bounds (T : Txt K mg a) : FnOk P w K mg base CX0 1 a.f__as_bounds a.d__as_bounds ["bounds"] (sp__as_bounds K) := by
  refine T.F__as_bounds.ok sc__as_bounds (fun vs H Q E h => ?_) (fun cdv A outer s H vs Q E hr h => ?_)
  · obtain ⟨v, b, rfl, _⟩ := h
    rfl
  · obtain ⟨v, b, rfl, hv, hok, k⟩ := h
    refine ⟨_, (pss_cons (ps_if (pt_cmpR op_isN (pv 0) pe_non (nomark _)) (pss_one (ps_ret pe_non)) pss_nil)
      (pss_cons (ps_if (pt_cmpR op_ne (pe_callB call_len_seq (by rfl) T.z_len PySem.boot_len (pa_cons (pv 0) pa_nil)) pe_int (nomark _)) pss_any pss_nil)
      (pss_cons (ps_asg (pv 0) (pg_tup (by rfl) (pgs_cons (pg_name (i := 1) sc__as_bounds.nd rfl (Or.inl rfl)) (pgs_cons (pg_name (i := 2) sc__as_bounds.nd rfl (Or.inl rfl)) pgs_nil))))
      (pss_cons (ps_if (pt_not (pt_chain3 op_le op_le op_le pe_int (pv 1) (pv 2) (pe_gI rfl T.c_MOST_MINUTES))) pss_any pss_nil)
      (pss_one (ps_ret (pe_tup (pa_cons (pv 1) (pa_cons (pv 2) pa_nil))))))))), ?_⟩
    cases b with
    | none =>
      cases hv
      exact ⟨_, rfl, rfl, _, rfl, iteT (k .non H (Ex.refl H) .non)⟩
    | some b =>
      obtain ⟨lo, hi⟩ := b
      obtain ⟨o1, o2, o3⟩ := hok
      cases hv with
      | tup hs hr =>
        cases hr with
        | cons a1 hr =>
          cases a1
          cases hr with
          | cons a2 hr =>
            cases a2
            cases hr
            rename_i p
            refine ⟨_, rfl, rfl, _, rfl, iteF ?_⟩
            refine ⟨_, rfl, p, _, rfl, .inr hs, rfl, _, rfl, iteNS rfl ?_⟩
            refine ⟨_, rfl, p, _, rfl, hs, rfl, _, _, rfl, _, _, rfl, rfl, ?_⟩
            refine ⟨_, rfl, _, _, rfl, rfl, _, rfl, ?_⟩
            refine ite2 (fun _ => ?_) (fun n => absurd (decide_eq_true o1) n)
            refine ⟨_, rfl, _, _, rfl, rfl, _, rfl, ?_⟩
            refine ite2 (fun _ => ?_) (fun n => absurd (decide_eq_true o2) n)
            refine ⟨_, _, rfl, rfl, _, rfl, iteNS o3 ?_⟩
            refine ⟨_, rfl, _, rfl, by show 2 ≤ sizeLine; decide, fun q hq => ?_⟩
            exact k _ _ (Ex.new hq) (.tup (st_of upd_same) (.cons (.int lo) (.cons (.int hi) .nil)))
theorem G_link_names (T : Txt K mg a) : FnOk P w K mg base CX0 1 a.f_link_names a.d_link_names ["self"] (sp_link_names K a.C) := by
  refine T.F_link_names.ok sc_link_names (fun vs H Q E h => ?_) (fun cdv A outer s H vs Q E hr h => ?_)
  · obtain ⟨x, dx, fs, l, rows, ls, rfl, _⟩ := h
    rfl
  · obtain ⟨x, dx, fs, l, rows, ls, rfl, hx, hf, hl, hd, hmax, k⟩ := h
    have hlen : rows.length = ls.length := by rw [dps_len hd, List.length_map]
    refine ⟨_, (pss_one (ps_ret (pe_callTy call_tupK (by rfl) T.z_tuple (by decide +kernel) (pa_cons (pe_lc (own := [("link", 1)]) (g := gName 1) (tt := tYes) rfl sc_link_names.nd (pi_tup (pe_fld (pv 0) rfl)) (blkOk_by (N := ["self", "link"]) (sc := defScope s_link_names) (by decide +kernel)) (fun _ _ _ _ _ => pg_name (i := 1) sc_link_names.nd rfl (Or.inl rfl)) (fun _ _ _ _ _ => pts_nil) (fun _ _ _ _ _ => (pe_ix (show IxR _ (rIxT K) from ix_tup) (pv 1) pe_int (fun _ _ => rfl)))) pa_nil)))), ?_⟩
    refine ⟨_, rfl, x, _, dx, fs, _, rfl, hx, T.cl, T.nL, hf, l, rfl, ⟨_, hl⟩, fun D hD => lcY_tup (K := K) (a := l) (xs := rows) (fun i H' => Ex H H' ∧ H' D = some (.lst (((ls.map (·.n)).take i).map V.str))) ⟨Ex.new hD, upd_same⟩ (fun i H' _ p => ex_t p.1 hl) (fun i r H' hi p => ?_) (fun H' p => ?_)⟩
    · obtain ⟨d, hd1, hd2⟩ := dps_at hd hi
      have hil : i < rows.length := (List.getElem?_eq_some_iff.mp hi).1
      obtain ⟨k0, hk0⟩ : ∃ k0, ls[i]? = some k0 := ⟨ls[i]'(by omega), List.getElem?_eq_getElem (by omega)⟩
      rw [List.getElem?_map, hk0] at hd1
      obtain rfl : dLink k0 = d := Option.some.inj hd1
      obtain ⟨t, u, vs, rfl, hT, _, _⟩ := made_in hd2
      refine ⟨rfl, _, rfl, t, _, 0, .str k0.n, rfl, rfl, ex_t p.1 hT, atI_nat (j := 0) rfl, _, p.2, sz_lt (by rw [List.length_map, List.length_take, List.length_map]; omega), Ex.mut p.1 hD, ?_⟩
      rw [upd_same, List.take_add_one, List.getElem?_map, hk0, List.map_append]
      rfl
    · rw [hlen, ← List.length_map (f := (·.n)), List.take_length] at p
      refine ⟨D, _, rfl, .inl ⟨SqL.of p.2, fun q hq => ?_⟩⟩
      exact k _ q (p.1.trans (Ex.new hq)) (fresh_back p.1 hq) upd_same
end
end EV

set_option Elab.async false
set_option linter.all false
set_option maxRecDepth 100000
set_option maxHeartbeats 4000000
namespace EV
open PySem PySem.Spec PyProof.Rows L2 EvS Evl
/-! ### data without lists stands while lists change -/
mutual
def frozen : PyData → Bool
  | .none => true
  | .bool _ => true
  | .int _ => true
  | .str _ => true
  | .tuple ds => frozenAll ds
  | .list _ => false
  | .dict _ => false
def frozenAll : List PyData → Bool
  | [] => true
  | d :: ds => frozen d && frozenAll ds
end
theorem frozenAll_of : ∀ {ds : List PyData}, (∀ d ∈ ds, frozen d = true) → frozenAll ds = true
  | [], _ => by simp [frozenAll]
  | d :: ds, h => by
    rw [frozenAll, h d List.mem_cons_self, frozenAll_of fun x hx => h x (List.mem_cons_of_mem _ hx)]
    rfl
theorem frozen_time (b : Option (Int × Int)) : frozen (dTime b) = true := by cases b <;> simp [dTime, frozen, frozenAll]
theorem frozen_times (ts : List (Option (Int × Int))) : frozenAll (ts.map dTime) = true := frozenAll_of fun d hd => by
  obtain ⟨b, _, rfl⟩ := List.mem_map.mp hd
  exact frozen_time b
theorem frozen_link (k : Link) : frozen (dLink k) = true := by simp [dLink, frozen, frozenAll, frozen_times]
theorem frozen_path (p : Str × Str × Int) : frozen (dPath p) = true := by simp [dPath, frozen, frozenAll]
theorem frozen_links (ls : List Link) : frozenAll (ls.map dLink) = true := frozenAll_of fun d hd => by
  obtain ⟨b, _, rfl⟩ := List.mem_map.mp hd
  exact frozen_link b
theorem frozen_paths (ls : List (Str × Str × Int)) : frozenAll (ls.map dPath) = true := frozenAll_of fun d hd => by
  obtain ⟨b, _, rfl⟩ := List.mem_map.mp hd
  exact frozen_path b
theorem frozen_strs (ls : List Str) : frozenAll (ls.map PyData.str) = true := frozenAll_of fun d hd => by
  obtain ⟨b, _, rfl⟩ := List.mem_map.mp hd
  simp [frozen]
theorem frozen_land (D : LandD) : frozen (dLand D) = true := by simp [dLand, frozen, frozenAll, frozen_links, frozen_paths, frozen_strs]
def ExT (H H' : Hp) : Prop := ∀ a xs, Rd H a (.tup xs) → Rd H' a (.tup xs)
theorem exT_of {H H' : Hp} (e : Ex H H') : ExT H H' := fun _ _ h => ex_rd e h
theorem ExT.trans {H H1 H2 : Hp} (a : ExT H H1) (b : ExT H1 H2) : ExT H H2 := fun x y h => b x y (a x y h)
theorem exT_mut {H : Hp} {l : Addr} {xs ys : List V} (h : H l = some (.lst xs)) : ExT H (upd H l (.lst ys)) := fun a zs r => by
  rcases r with r | ⟨o, r⟩
  · exact .inl (by rw [upd_ne (ne_of r h (by intro z; cases z))]; exact r)
  · exact .inr ⟨o, by rw [upd_ne (ne_of r h (by intro z; cases z))]; exact r⟩
theorem exT_t {K : PySem.W.Frag} {H H' : Hp} {p : Addr} {xs : List V} (e : ExT H H') (h : SqT K H p xs) : SqT K H' p xs := h.elim (fun r => .inl (e _ _ r)) .inr
mutual
theorem dp_exT {K : PySem.W.Frag} {H H' : Hp} (e : ExT H H') : ∀ {v : V} {d : PyData}, Dp K H v d → frozen d = true → Dp K H' v d
  | _, _, .non, _ => .non
  | _, _, .bl b, _ => .bl b
  | _, _, .int i, _ => .int i
  | _, _, .str x, _ => .str x
  | _, _, .lst _ _, f => by simp [frozen] at f
  | _, _, .tup h r, f => .tup (exT_t e h) (dps_exT e r (by simpa [frozen] using f))
theorem dps_exT {K : PySem.W.Frag} {H H' : Hp} (e : ExT H H') : ∀ {vs : List V} {ds : List PyData}, DpAll K H vs ds → frozenAll ds = true → DpAll K H' vs ds
  | _, _, .nil, _ => .nil
  | _, _, .cons h r, f => by
    simp only [frozenAll, Bool.and_eq_true] at f
    exact .cons (dp_exT e h f.1) (dps_exT e r f.2)
end
/-! ### side by side -/
inductive All2 {α β : Type} (R : α → β → Prop) : List α → List β → Prop
  | nil : All2 R [] []
  | cons {a : α} {b : β} {as : List α} {bs : List β} : R a b → All2 R as bs → All2 R (a :: as) (b :: bs)
theorem All2.len {α β : Type} {R : α → β → Prop} : ∀ {as : List α} {bs : List β}, All2 R as bs → as.length = bs.length
  | _, _, .nil => rfl
  | _, _, .cons _ r => congrArg Nat.succ r.len
theorem All2.mono {α β : Type} {R S : α → β → Prop} (f : ∀ a b, R a b → S a b) : ∀ {as : List α} {bs : List β}, All2 R as bs → All2 S as bs
  | _, _, .nil => .nil
  | _, _, .cons h r => .cons (f _ _ h) (r.mono f)
theorem All2.app {α β : Type} {R : α → β → Prop} : ∀ {as cs : List α} {bs ds : List β}, All2 R as bs → All2 R cs ds → All2 R (as ++ cs) (bs ++ ds)
  | _, _, _, _, .nil, b => b
  | _, _, _, _, .cons h r, b => .cons h (r.app b)
theorem All2.at {α β : Type} {R : α → β → Prop} : ∀ {as : List α} {bs : List β} (i : Nat) {a : α}, All2 R as bs → as[i]? = some a → ∃ b, bs[i]? = some b ∧ R a b
  | _, _, _, _, .nil, h => by simp at h
  | _, _, 0, _, .cons h _, e => by
    simp only [List.getElem?_cons_zero, Option.some.injEq] at e
    subst e
    exact ⟨_, rfl, h⟩
  | _, _, i + 1, _, .cons _ r, e => by
    simp only [List.getElem?_cons_succ] at e
    exact r.at i e
theorem all2_dps {β : Type} {K : PySem.W.Frag} {H : Hp} {f : β → PyData} {R : V → β → Prop} (g : ∀ v b, Dp K H v (f b) → R v b) : ∀ {vs : List V} {bs : List β}, DpAll K H vs (bs.map f) → All2 R vs bs
  | _, [], .nil => .nil
  | _, _ :: _, .cons h r => .cons (g _ _ h) (all2_dps g r)
theorem take_one {α : Type} {l : List α} {i : Nat} {x : α} (h : l[i]? = some x) : l.take (i + 1) = l.take i ++ [x] := by
  rw [List.take_add_one, h]
  rfl
section
variable {P : Program} {w : World} {K : PySem.W.Frag} {mg : Str → Option Value} {base : Heap} {a : Ad}
theorem G__as_link (T : Txt K mg a) : FnOk P w K mg base CX0 2 a.f__as_link a.d__as_link ["link", "winds", "places"] (sp__as_link K) := by
  refine T.F__as_link.ok sc__as_link (fun vs H Q E h => ?_) (fun cdv A outer s H vs Q E hr h => ?_)
  · obtain ⟨v, wi, pl, ws, ps, k0, rfl, _⟩ := h
    rfl
  · obtain ⟨v, wi, pl, ws, ps, k0, rfl, hv, hW, hP, ok, hmax, k⟩ := h
    obtain ⟨t, u, vs, rfl, hT, hU, hD0⟩ := hv
    have lv : vs.length = k0.ts.length := by rw [dps_len hD0, List.length_map]
    refine ⟨_, (pss_cons (ps_if (pt_cmpR op_ne (pe_callB call_len_seq (by rfl) T.z_len PySem.boot_len (pa_cons (pv 0) pa_nil)) pe_int (nomark _)) pss_any pss_nil)
      (pss_cons (ps_asg (pv 0) (pg_tup (by rfl) (pgs_cons (pg_name (i := 3) sc__as_link.nd rfl (Or.inl rfl)) (pgs_cons (pg_name (i := 4) sc__as_link.nd rfl (Or.inl rfl)) (pgs_cons (pg_name (i := 5) sc__as_link.nd rfl (Or.inl rfl)) (pgs_cons (pg_name (i := 6) sc__as_link.nd rfl (Or.inl rfl)) pgs_nil))))))
      (pss_cons (ps_expr (pe_call (G__check_ends T) (hr.mono (by decide)) (by rfl) T.g__check_ends T.k__check_ends T.B__check_ends .nil pass0 (pa_cons pe_str (pa_cons (pv 4) (pa_cons (pv 5) (pa_cons (pv 2) pa_nil))))))
      (pss_cons (ps_if (pt_cmpR op_ne (pe_callB call_len_seq (by rfl) T.z_len PySem.boot_len (pa_cons (pv 6) pa_nil)) (pe_callB call_len_seq (by rfl) T.z_len PySem.boot_len (pa_cons (pv 1) pa_nil)) (nomark _)) pss_any pss_nil)
      (pss_one (ps_ret (pe_tup (pa_cons (pv 3) (pa_cons (pv 4) (pa_cons (pv 5) (pa_cons (pe_callTy call_tupK (by rfl) T.z_tuple (by decide +kernel) (pa_cons (pe_lc (own := [("bounds", 7)]) (g := gName 7) (tt := tYes) rfl sc__as_link.nd (pi_or (pi_list (pv 6)) (pi_tup (pv 6))) (blkOk_by (N := ["link", "winds", "places", "name", "one", "other", "times", "bounds"]) (sc := defScope s__as_link) (by decide +kernel)) (fun _ _ _ _ _ => pg_name (i := 7) sc__as_link.nd rfl (Or.inl rfl)) (fun _ _ _ _ _ => pts_nil) (fun _ _ _ _ _ => (pe_call (G__as_bounds T) (hr.mono (by decide)) (by rfl) T.g__as_bounds T.k__as_bounds T.B__as_bounds .nil pass0 (pa_cons (pv 7) pa_nil)))) pa_nil)) pa_nil))))))))))), ?_⟩
    refine ⟨_, rfl, t, _, rfl, .inr hT, rfl, _, rfl, iteNS rfl ?_⟩
    refine ⟨_, rfl, t, _, rfl, hT, rfl, _, _, rfl, _, _, rfl, _, _, rfl, _, _, rfl, rfl, ?_⟩
    refine ⟨_, rfl, _, rfl, _, rfl, _, k0.o, k0.t, pl, ps, rfl, hP, ok.o, ok.t, ok.ne, ?_⟩
    refine ⟨_, rfl, u, _, rfl, hU, _, rfl, wi, _, rfl, hW, rfl, _, rfl, iteNS (by rw [lv, ok.len, List.length_map]) ?_⟩
    refine ⟨_, rfl, _, rfl, _, rfl, ?_⟩
    let Pv : Addr → Nat → Hp → Prop := fun D i H' => Ex H H' ∧ ∃ made, H' D = some (.lst made) ∧ made.length = i ∧ DpAll K H' made ((k0.ts.take i).map dTime)
    have start : ∀ {D : Addr}, H D = none → Pv D 0 (upd H D (.lst [])) := fun hD => ⟨Ex.new hD, [], upd_same, rfl, .nil⟩
    have turn : ∀ {D : Addr} (i : Nat) (y : V) (H' : Hp) (σ : L2.St), H D = none → vs[i]? = some y → Pv D i H' → σ[7]? = some (some y) →
        tCall (sp__as_bounds K) [] E0 (tCons (tVar 7) tNil) σ H' fun y H4 => ∃ acc, H4 D = some (.lst acc) ∧ acc.length < sizeLine ∧ Pv D (i + 1) (upd H4 D (.lst (acc ++ [y]))) := by
      rintro D i y H' σ hD hy ⟨e, made, hm, hl, hd⟩ hs
      obtain ⟨d, hd1, hd2⟩ := dps_at hD0 hy
      have hil : i < vs.length := (List.getElem?_eq_some_iff.mp hy).1
      obtain ⟨b, hb⟩ : ∃ b, k0.ts[i]? = some b := ⟨k0.ts[i]'(by omega), List.getElem?_eq_getElem (by omega)⟩
      rw [List.getElem?_map, hb] at hd1
      obtain rfl : dTime b = d := Option.some.inj hd1
      refine ⟨y, hs, y, b, rfl, dp_ex e hd2, ok.ok b (List.mem_of_getElem? hb), fun v' H6 e6 hv' => ⟨made, e6 _ _ hm, sz_lt (by have := ok.len; omega), (e.trans e6).mut hD, _, upd_same, by rw [List.length_append, hl] <;> rfl, ?_⟩⟩
      rw [take_one hb, List.map_append]
      exact dps_app (dps_exT (exT_mut (e6 _ _ hm)) (dps_ex e6 hd) (frozen_times _)) (dps_one (dp_exT (exT_mut (e6 _ _ hm)) hv' (frozen_time _)))
    have fin : ∀ {D : Addr} {H' : Hp}, Pv D vs.length H' → rTupK K [.ref D] H' fun x H2 => (5 : Nat) - 1 ≤ sizeLine ∧ ∀ p, H2 p = none → Q (.ref p) (upd H2 p (.tup [.str k0.n, .str k0.o, .str k0.t, x])) := by
      rintro D H' ⟨e, made, hm, hl, hd⟩
      rw [lv, List.take_length] at hd
      refine ⟨D, made, rfl, .inl ⟨SqL.of hm, fun q hq => ⟨by decide, fun r hr0 => ?_⟩⟩⟩
      have e1 : Ex H' (upd (upd H' q (.tup made)) r (.tup [.str k0.n, .str k0.o, .str k0.t, .ref q])) := (Ex.new hq).trans (Ex.new hr0)
      have nqr : q ≠ r := ne_of_none upd_same hr0
      exact k _ r (e.trans e1) (fresh_back (e.trans (Ex.new hq)) hr0) (.tup (st_of upd_same) (.cons (.str _) (.cons (.str _) (.cons (.str _) (.cons (.tup (st_of (by rw [upd_ne nqr, upd_same])) (dps_ex e1 hd)) .nil)))))
    rcases hU with hU | hU
    · exact .inl ⟨_, rfl, u, rfl, ⟨_, hU⟩, fun D hD => lcY_list (K := K) (a := u) (xs := vs) (Pv D) (start hD) (fun i H' _ p => ex_l p.1 hU) (fun i y H' hi p => ⟨rfl, turn i y H' _ hD hi p rfl⟩) (fun H' p => fin p)⟩
    · exact .inr ⟨_, rfl, u, rfl, ⟨_, hU⟩, fun D hD => lcY_tup (K := K) (a := u) (xs := vs) (Pv D) (start hD) (fun i H' _ p => ex_t p.1 hU) (fun i y H' hi p => ⟨rfl, turn i y H' _ hD hi p rfl⟩) (fun H' p => fin p)⟩
theorem G__as_path (T : Txt K mg a) : FnOk P w K mg base CX0 2 a.f__as_path a.d__as_path ["path", "places"] (sp__as_path K) := by
  refine T.F__as_path.ok sc__as_path (fun vs H Q E h => ?_) (fun cdv A outer s H vs Q E hr h => ?_)
  · obtain ⟨v, pl, ps, p, rfl, _⟩ := h
    rfl
  · obtain ⟨v, pl, ps, p, rfl, hv, hP, ok, k⟩ := h
    obtain ⟨t, rfl, hT⟩ := path_in hv
    have lo := ok.lo
    have hi := ok.hi
    refine ⟨_, (pss_cons (ps_if (pt_cmpR op_ne (pe_callB call_len_seq (by rfl) T.z_len PySem.boot_len (pa_cons (pv 0) pa_nil)) pe_int (nomark _)) pss_any pss_nil)
      (pss_cons (ps_asg (pv 0) (pg_tup (by rfl) (pgs_cons (pg_name (i := 2) sc__as_path.nd rfl (Or.inl rfl)) (pgs_cons (pg_name (i := 3) sc__as_path.nd rfl (Or.inl rfl)) (pgs_cons (pg_name (i := 4) sc__as_path.nd rfl (Or.inl rfl)) pgs_nil)))))
      (pss_cons (ps_expr (pe_call (G__check_ends T) (hr.mono (by decide)) (by rfl) T.g__check_ends T.k__check_ends T.B__check_ends .nil pass0 (pa_cons pe_str (pa_cons (pv 2) (pa_cons (pv 3) (pa_cons (pv 1) pa_nil))))))
      (pss_cons (ps_if (pt_not (pt_chain op_le op_le pe_int (pv 4) (pe_gI rfl T.c_MOST_MINUTES))) pss_any pss_nil)
      (pss_one (ps_ret (pe_tup (pa_cons (pv 2) (pa_cons (pv 3) (pa_cons (pv 4) pa_nil)))))))))), ?_⟩
    refine ⟨_, rfl, t, _, rfl, .inr hT, rfl, _, rfl, iteNS rfl ?_⟩
    refine ⟨_, rfl, t, _, rfl, hT, rfl, _, _, rfl, _, _, rfl, _, _, rfl, rfl, ?_⟩
    refine ⟨_, rfl, _, rfl, _, rfl, _, p.1, p.2.1, pl, ps, rfl, hP, ok.o, ok.t, ok.ne, ?_⟩
    refine ⟨_, rfl, _, _, rfl, rfl, _, rfl, ?_⟩
    refine ite2 (fun _ => ?_) (fun n => absurd (decide_eq_true lo) n)
    refine ⟨_, _, rfl, rfl, _, rfl, iteNS hi ?_⟩
    refine ⟨_, rfl, _, rfl, _, rfl, by show 3 ≤ sizeLine; decide, fun q hq => ?_⟩
    exact k _ q (Ex.new hq) hq (.tup (st_of upd_same) (.cons (.str _) (.cons (.str _) (.cons (.int _) .nil))))
theorem G__check_single_paths (T : Txt K mg a) : FnOk P w K mg base CX0 1 a.f__check_single_paths a.d__check_single_paths ["paths"] (sp__check_single_paths K) := by
  refine T.F__check_single_paths.ok sc__check_single_paths (fun vs H Q E h => ?_) (fun cdv A outer s H vs Q E hr h => ?_)
  · obtain ⟨p, prs, pa, rfl, _⟩ := h
    rfl
  · obtain ⟨p, prs, pa, rfl, hT, hd, h60, hap, k⟩ := h
    have lp : prs.length = pa.length := by rw [dps_len hd, List.length_map]
    refine ⟨_, (pss_cons (ps_setLc (i := 1) (own := [("one", 2), ("other", 3), ("_", 4)]) (g := gTup K 3 (gCons (gName 2) (gCons (gName 3) (gCons (gName 4) gNil)))) (tt := tYes) rfl sc__check_single_paths.nd rfl rfl (sw_true rfl rfl rfl (by decide +kernel)) (pi_tup (pv 0)) (blkOk_by (N := ["paths", "ends", "one", "other", "_"]) (sc := defScope s__check_single_paths) (by decide +kernel)) (fun _ _ _ _ _ => (pg_tup (by rfl) (pgs_cons (pg_name (i := 2) sc__check_single_paths.nd rfl (Or.inl rfl)) (pgs_cons (pg_name (i := 3) sc__check_single_paths.nd rfl (Or.inl rfl)) (pgs_cons (pg_name (i := 4) sc__check_single_paths.nd rfl (Or.inl rfl)) pgs_nil))))) (fun _ _ _ _ _ => pts_nil) (fun _ _ _ _ _ => (pe_callTy (show CallR _ _ (rTupK K) from call_tupK) (by rfl) T.z_tuple (by decide +kernel) (pa_cons (pe_callB (show CallR _ _ (rSortedS K) from cr_sortedS) (by rfl) T.z_sorted (by decide +kernel) (pa_cons (pe_lst (pa_cons (pv 2) (pa_cons (pv 3) pa_nil))) pa_nil)) pa_nil))))
      (pss_one (ps_if (pt_cmpR op_ne (TxSet.pe_lenSetT hr rfl (by rfl) T.z_len (by rfl) T.z_set (pv 1)) (pe_callB call_len_seq (by rfl) T.z_len PySem.boot_len (pa_cons (pv 1) pa_nil)) (nomark _)) pss_any pss_nil))), ?_⟩
    refine ⟨_, rfl, p, rfl, ⟨_, hT⟩, fun D hD => lcY_tup (K := K) (a := p) (xs := prs) (fun i H' => Ex H H' ∧ ∃ ks : List (Addr × List Str), H' D = some (.lst (ks.map fun p => V.ref p.1)) ∧ (∀ p ∈ ks, H' p.1 = some (.tup (p.2.map V.str))) ∧ All2 (fun q r => q.2.Perm [r.1, r.2.1]) ks (pa.take i))
      ⟨Ex.new hD, [], upd_same, fun p hp => (by cases hp), .nil⟩ (fun i H' _ q => ex_t q.1 hT) (fun i y H' hi q => ?_) (fun H' q => ?_)⟩
    · obtain ⟨e, ks, hks, hat, h2⟩ := q
      have hil : i < prs.length := (List.getElem?_eq_some_iff.mp hi).1
      obtain ⟨d, hd1, hd2⟩ := dps_at hd hi
      obtain ⟨b, hb⟩ : ∃ b, pa[i]? = some b := ⟨pa[i]'(by omega), List.getElem?_eq_getElem (by omega)⟩
      rw [List.getElem?_map, hb] at hd1
      obtain rfl : dPath b = d := Option.some.inj hd1
      obtain ⟨t, rfl, hb2⟩ := path_in hd2
      have lk : ks.length = (pa.take i).length := h2.len
      refine ⟨t, _, rfl, ex_t e hb2, rfl, _, _, rfl, _, _, rfl, _, _, rfl, rfl, rfl, ?_⟩
      refine ⟨_, rfl, _, rfl, by show 2 ≤ sizeLine; decide, fun l hl => ?_⟩
      refine ⟨l, [b.1, b.2.1], rfl, SqL.of upd_same, (by show 2 < 64; decide), fun ys m pm _ hm => ?_⟩
      refine ⟨m, _, rfl, .inl ⟨SqL.of upd_same, fun n hn => ?_⟩⟩
      have e3 : Ex H' (upd (upd (upd H' l (.lst [.str b.1, .str b.2.1])) m (.lst (ys.map V.str))) n (.tup (ys.map V.str))) := ((Ex.new hl).trans (Ex.new hm)).trans (Ex.new hn)
      have hD3 := e3 _ _ hks
      refine ⟨_, hD3, sz_lt (by rw [List.length_map, lk, List.length_take]; omega), (e.trans e3).mut hD, ks ++ [(n, ys)], by rw [upd_same, List.map_append] <;> rfl, fun q hq => ?_, ?_⟩
      · rcases List.mem_append.mp hq with z | z
        · have h3 := e3 _ _ (hat q z)
          rw [upd_ne (ne_of h3 hD3 (by intro z; cases z))]
          exact h3
        · rw [List.mem_singleton.mp z]
          have h3 : (upd (upd (upd H' l (.lst [.str b.1, .str b.2.1])) m (.lst (ys.map V.str))) n (.tup (ys.map V.str))) n = some (.tup (ys.map V.str)) := upd_same
          show (upd _ D _) n = _
          rw [upd_ne (ne_of h3 hD3 (by intro z; cases z))]
          exact h3
      · rw [take_one hb]
        exact h2.app (.cons pm .nil)
    · obtain ⟨e, ks, hks, hat, h2⟩ := q
      rw [lp, List.take_length] at h2
      have lk := h2.len
      have diff : (ks.map (·.2)).Nodup := by
        have go : ∀ {ks : List (Addr × List Str)} {pa : List (Str × Str × Int)}, All2 (fun q r => q.2.Perm [r.1, r.2.1]) ks pa → (pa.map fun p => (p.1, p.2.1)).Pairwise Apart → (ks.map (·.2)).Nodup := by
          intro ks pa h
          induction h with
          | nil => intro _; exact List.nodup_nil
          | @cons q r ks pa h hr ih =>
            intro hp
            rw [List.map_cons, List.pairwise_cons] at hp
            rw [List.map_cons, List.nodup_cons]
            refine ⟨fun hm => ?_, ih hp.2⟩
            obtain ⟨q2, hq2, e2⟩ := List.mem_map.mp hm
            obtain ⟨i, hi, ei⟩ := List.getElem_of_mem hq2
            obtain ⟨r2, hr2, p2⟩ := hr.at i (show ks[i]? = some q2 by rw [List.getElem?_eq_getElem hi, ei])
            refine hp.1 (r2.1, r2.2.1) (List.mem_map.mpr ⟨r2, List.mem_of_getElem? hr2, rfl⟩) ?_
            rw [e2] at p2
            exact h.symm.trans p2
        exact go h2 hap
      refine ⟨_, rfl, D, ks, rfl, SqL.of hks, fun q hq => st_of (hat q hq), by omega, diff, _, rfl, D, _, rfl, .inl (SqL.of hks), rfl, _, rfl, ?_⟩
      rw [List.length_map]
      exact iteNS rfl (k _ e)
end
end EV

set_option Elab.async false
set_option linter.all false
set_option maxRecDepth 100000
set_option maxHeartbeats 4000000
namespace EV
open PySem PySem.Spec PyProof.Rows L2 EvS Evl
/-- a new land of well formed parts -/
def sp_init (K : PySem.W.Frag) (C : Addr) : Sp := fun vs H Q _ => ∃ (H0 : Hp) (x dx wi pl li pa : Addr) (D : LandD) (rows prs : List V), vs = [.ref x, .ref wi, .ref pl, .ref li, .ref pa] ∧ Ex H0 H ∧ H0 x = none ∧ H x = some (.ins C dx []) ∧
  Seq2 K H0 wi (D.ws.map V.str) ∧ Seq2 K H0 pl (D.ps.map V.str) ∧ Seq2 K H0 li rows ∧ All2 (LinkIn K H0) rows D.ls ∧ Seq2 K H0 pa prs ∧ DpAll K H0 prs (D.pa.map dPath) ∧ LandOk D ∧ ∀ H', Ex H0 H' → IsLand K C H' x D → Q .non H'
section
variable {P : Program} {w : World} {K : PySem.W.Frag} {mg : Str → Option Value} {base : Heap} {a : Ad}
theorem G_init (T : Txt K mg a) : FnOk P w K mg base CX0 3 a.f_init a.d_init ["self", "winds", "places", "links", "paths"] (sp_init K a.C) := by
  refine T.F_init.ok sc_init (fun vs H Q E h => ?_) (fun cdv A outer s H vs Q E hr h => ?_)
  · obtain ⟨H0, x, dx, wi, pl, li, pa, D, rows, prs, rfl, _⟩ := h
    rfl
  · obtain ⟨H0, x, dx, wi, pl, li, pa, D, rows, prs, rfl, e0, x0, hx, hW, hP, hL, hLs, hA, hAs, ok, k⟩ := h
    have lw : (D.ws.map V.str).length = D.ws.length := List.length_map ..
    have lp : (D.ps.map V.str).length = D.ps.length := List.length_map ..
    have ll := hLs.len
    have la : prs.length = D.pa.length := by rw [dps_len hAs, List.length_map]
    have b1 := ok.w1
    have b2 := ok.w4
    have b3 := ok.p1
    have b4 := ok.p24
    have b5 := ok.l60
    have b6 := ok.a60
    refine ⟨_, (pss_cons (ps_expr (pe_call (G__check_count T) (hr.mono (by decide)) (by rfl) T.g__check_count T.k__check_count T.B__check_count .nil pass0 (pa_cons pe_str (pa_cons (pv 1) (pa_cons pe_int (pa_cons (pe_gI rfl T.c_MOST_WINDS) pa_nil))))))
      (pss_cons (ps_expr (pe_call (G__check_names T) (hr.mono (by decide)) (by rfl) T.g__check_names T.k__check_names T.B__check_names .nil pass0 (pa_cons pe_str (pa_cons (pv 1) pa_nil))))
      (pss_cons (ps_expr (pe_call (G__check_count T) (hr.mono (by decide)) (by rfl) T.g__check_count T.k__check_count T.B__check_count .nil pass0 (pa_cons pe_str (pa_cons (pv 2) (pa_cons pe_int (pa_cons (pe_gI rfl T.c_MOST_PLACES) pa_nil))))))
      (pss_cons (ps_expr (pe_call (G__check_names T) (hr.mono (by decide)) (by rfl) T.g__check_names T.k__check_names T.B__check_names .nil pass0 (pa_cons pe_str (pa_cons (pv 2) pa_nil))))
      (pss_cons (ps_expr (pe_call (G__check_count T) (hr.mono (by decide)) (by rfl) T.g__check_count T.k__check_count T.B__check_count .nil pass0 (pa_cons pe_str (pa_cons (pv 3) (pa_cons pe_int (pa_cons (pe_gI rfl T.c_MOST_LINKS) pa_nil))))))
      (pss_cons (ps_expr (pe_call (G__check_count T) (hr.mono (by decide)) (by rfl) T.g__check_count T.k__check_count T.B__check_count .nil pass0 (pa_cons pe_str (pa_cons (pv 4) (pa_cons pe_int (pa_cons (pe_gI rfl T.c_MOST_PATHS) pa_nil))))))
      (pss_cons (ps_fld (pv 0) (pe_callTy call_tupS (by rfl) T.z_tuple (by decide +kernel) (pa_cons (pv 1) pa_nil)) rfl)
      (pss_cons (ps_fld (pv 0) (pe_callTy call_tupS (by rfl) T.z_tuple (by decide +kernel) (pa_cons (pv 2) pa_nil)) rfl)
      (pss_cut (ps_fld (pv 0) (pe_callTy call_tupK (by rfl) T.z_tuple (by decide +kernel) (pa_cons (pe_lc (own := [("link", 5)]) (g := gName 5) (tt := tYes) rfl sc_init.nd (pi_or (pi_list (pv 3)) (pi_tup (pv 3))) (blkOk_by (N := ["self", "winds", "places", "links", "paths", "link", "path"]) (sc := defScope s_init) (by decide +kernel)) (fun _ _ _ _ _ => pg_name (i := 5) sc_init.nd rfl (Or.inl rfl)) (fun _ _ _ _ _ => pts_nil) (fun _ _ _ _ _ => (pe_call (G__as_link T) (hr.mono (by decide)) (by rfl) T.g__as_link T.k__as_link T.B__as_link .nil pass0 (pa_cons (pv 5) (pa_cons (show PE _ _ (tFld K (tVar 0) "winds") from pe_fld (pv 0) rfl) (pa_cons (show PE _ _ (tFld K (tVar 0) "places") from pe_fld (pv 0) rfl) pa_nil)))))) pa_nil)) rfl)
      (pss_cons (ps_expr (pe_call (G__check_names T) (hr.mono (by decide)) (by rfl) T.g__check_names T.k__check_names T.B__check_names .nil pass0 (pa_cons pe_str (pa_cons (pe_prop (pv 0) T.cl T.p_link_names (G_link_names T) (hr.mono (by decide)) T.B_link_names .nil pass0 rfl) pa_nil))))
      (pss_cut (ps_fld (pv 0) (pe_callTy call_tupK (by rfl) T.z_tuple (by decide +kernel) (pa_cons (pe_lc (own := [("path", 6)]) (g := gName 6) (tt := tYes) rfl sc_init.nd (pi_or (pi_list (pv 4)) (pi_tup (pv 4))) (blkOk_by (N := ["self", "winds", "places", "links", "paths", "link", "path"]) (sc := defScope s_init) (by decide +kernel)) (fun _ _ _ _ _ => pg_name (i := 6) sc_init.nd rfl (Or.inl rfl)) (fun _ _ _ _ _ => pts_nil) (fun _ _ _ _ _ => (pe_call (G__as_path T) (hr.mono (by decide)) (by rfl) T.g__as_path T.k__as_path T.B__as_path .nil pass0 (pa_cons (pv 6) (pa_cons (show PE _ _ (tFld K (tVar 0) "places") from pe_fld (pv 0) rfl) pa_nil))))) pa_nil)) rfl)
      (pss_one (ps_expr (pe_call (G__check_single_paths T) (hr.mono (by decide)) (by rfl) T.g__check_single_paths T.k__check_single_paths T.B__check_single_paths .nil pass0 (pa_cons (pe_fld (pv 0) rfl) pa_nil))))))))))))))), ?_⟩
    refine ⟨_, rfl, _, wi, _, _, _, rfl, hW.ex e0, by rw [lw]; omega, by rw [lw]; omega, ?_⟩
    refine ⟨_, rfl, _, wi, D.ws, rfl, hW.ex e0, by omega, ok.gw, fun H1 e1 => ?_⟩
    have f1 : Ex H0 H1 := e0.trans e1
    refine ⟨_, rfl, _, pl, _, _, _, rfl, hP.ex f1, by rw [lp]; omega, by rw [lp]; omega, ?_⟩
    refine ⟨_, rfl, _, pl, D.ps, rfl, hP.ex f1, by omega, ok.gp, fun H2 e2 => ?_⟩
    have f2 : Ex H0 H2 := f1.trans e2
    have hx2 : H2 x = some (.ins a.C dx []) := e2 _ _ (e1 _ _ hx)
    refine ⟨_, rfl, _, li, _, _, _, rfl, hL.ex f2, by omega, by omega, ?_⟩
    refine ⟨_, rfl, _, pa, _, _, _, rfl, hA.ex f2, by omega, by omega, ?_⟩
    -- self.winds
    refine ⟨_, rfl, wi, _, rfl, hW.ex f2, fun u H3 e3 hu => ?_⟩
    have hx3 := e3 _ _ hx2
    refine ⟨_, rfl, x, a.C, dx, [], rfl, hx3, T.cl, T.nW, by show 0 < 1000; decide, ?_⟩
    have ins_t : ∀ {H : Hp} {fs gs : List (Str × V)}, H x = some (.ins a.C dx fs) → ExT H (upd H x (.ins a.C dx gs)) := fun {H fs gs} h b xs r => by
      rcases r with r | ⟨o, r⟩
      · exact .inl (by rw [upd_ne (ne_of r h (by intro z; cases z))]; exact r)
      · exact .inr ⟨o, by rw [upd_ne (ne_of r h (by intro z; cases z))]; exact r⟩
    have f4 : Ex H0 (upd H3 x (.ins a.C dx (putF "winds" (.ref u) []))) := (f2.trans e3).mut x0
    have hu4 := exT_t (ins_t (gs := putF "winds" (.ref u) []) hx3) hu
    have hx4 : (upd H3 x (.ins a.C dx (putF "winds" (.ref u) []))) x = some (.ins a.C dx (putF "winds" (.ref u) [])) := upd_same
    generalize upd H3 x (.ins a.C dx (putF "winds" (.ref u) [])) = H4 at f4 hu4 hx4
    -- self.places
    refine ⟨_, rfl, pl, _, rfl, hP.ex f4, fun q H5 e5 hq => ?_⟩
    have hx5 := e5 _ _ hx4
    refine ⟨_, rfl, x, a.C, dx, _, rfl, hx5, T.cl, T.nP, by show 1 < 1000; decide, ?_⟩
    have f6 : Ex H0 (upd H5 x (.ins a.C dx (putF "places" (.ref q) (putF "winds" (.ref u) [])))) := (f4.trans e5).mut x0
    have hu6 := exT_t (ins_t (gs := putF "places" (.ref q) (putF "winds" (.ref u) [])) hx5) (ex_t e5 hu4)
    have hq6 := exT_t (ins_t (gs := putF "places" (.ref q) (putF "winds" (.ref u) [])) hx5) hq
    have hx6 : (upd H5 x (.ins a.C dx (putF "places" (.ref q) (putF "winds" (.ref u) [])))) x = some (.ins a.C dx (putF "places" (.ref q) (putF "winds" (.ref u) []))) := upd_same
    generalize upd H5 x (.ins a.C dx (putF "places" (.ref q) (putF "winds" (.ref u) []))) = H6 at f6 hu6 hq6 hx6
    have lkW : (putF "places" (.ref q) (putF "winds" (.ref u) [])).lookup ("winds" : Str) = some (V.ref u) := by
      rw [lookup_putF, if_neg (by decide +kernel), lookup_putF, if_pos rfl]
    have lkP : (putF "places" (.ref q) (putF "winds" (.ref u) [])).lookup ("places" : Str) = some (V.ref q) := by
      rw [lookup_putF, if_pos rfl]
    -- self.links
    refine ⟨fun σ H' => σ = [some (.ref x), some (.ref wi), some (.ref pl), some (.ref li), some (.ref pa), none, none] ∧ ∃ v made, Ex H0 H' ∧ H' x = some (.ins a.C dx (putF "links" (.ref v) (putF "places" (.ref q) (putF "winds" (.ref u) [])))) ∧ SqT K H' u (D.ws.map V.str) ∧ SqT K H' q (D.ps.map V.str) ∧ SqT K H' v made ∧ DpAll K H' made (D.ls.map dLink), ?_, ?_⟩
    let Pv : Addr → Nat → Hp → Prop := fun D0 i H' => Ex H6 H' ∧ ∃ made, H' D0 = some (.lst made) ∧ made.length = i ∧ DpAll K H' made ((D.ls.take i).map dLink)
    have start : ∀ {D0 : Addr}, H6 D0 = none → Pv D0 0 (upd H6 D0 (.lst [])) := fun hD => ⟨Ex.new hD, [], upd_same, rfl, .nil⟩
    have turn : ∀ {D0 : Addr} (i : Nat) (y : V) (H' : Hp) (σ : L2.St), H6 D0 = none → rows[i]? = some y → Pv D0 i H' → σ[5]? = some (some y) → σ[0]? = some (some (.ref x)) →
        tCall (sp__as_link K) [] E0 (tCons (tVar 5) (tCons (tFld K (tVar 0) "winds") (tCons (tFld K (tVar 0) "places") tNil))) σ H' fun y H4 => ∃ acc, H4 D0 = some (.lst acc) ∧ acc.length < sizeLine ∧ Pv D0 (i + 1) (upd H4 D0 (.lst (acc ++ [y]))) := by
      rintro D0 i y H' σ hD hy ⟨e, made, hm, hl, hd⟩ s5 s0
      obtain ⟨k0, hk0, hin⟩ := hLs.at i hy
      have hil : i < rows.length := (List.getElem?_eq_some_iff.mp hy).1
      have hx' := e _ _ hx6
      refine ⟨y, s5, _, s0, x, a.C, dx, _, _, rfl, hx', T.cl, T.nW, lkW, _, s0, x, a.C, dx, _, _, rfl, hx', T.cl, T.nP, lkP, ?_⟩
      refine ⟨y, u, q, D.ws, D.ps, k0, rfl, hin.ex (f6.trans e), .inr (ex_t e hu6), .inr (ex_t e hq6), ok.lk k0 (List.mem_of_getElem? hk0), by omega, fun H8 t e8 ht hM => ⟨made, e8 _ _ hm, sz_lt (by omega), (e.trans e8).mut hD, _, upd_same, by rw [List.length_append, hl] <;> rfl, ?_⟩⟩
      rw [take_one hk0, List.map_append]
      exact dps_app (dps_exT (exT_mut (e8 _ _ hm)) (dps_ex e8 hd) (frozen_links _)) (dps_one (dp_exT (exT_mut (e8 _ _ hm)) hM (frozen_link _)))
    · have fin : ∀ {D0 : Addr} {H' : Hp}, Pv D0 rows.length H' → rTupK K [.ref D0] H' fun y H1 => tVar 0 [some (.ref x), some (.ref wi), some (.ref pl), some (.ref li), some (.ref pa), none, none] H1 fun x2 H2 => ∃ (b C2 d2 : Addr) (fs : List (Str × V)), x2 = .ref b ∧ H2 b = some (.ins C2 d2 fs) ∧ Cls K C2 ∧ NoAttr K C2 "links" ∧ fs.length < 1000 ∧
          ∃ v made, Ex H0 (upd H2 b (.ins C2 d2 (putF "links" y fs))) ∧ (upd H2 b (.ins C2 d2 (putF "links" y fs))) x = some (.ins a.C dx (putF "links" (.ref v) (putF "places" (.ref q) (putF "winds" (.ref u) [])))) ∧ SqT K (upd H2 b (.ins C2 d2 (putF "links" y fs))) u (D.ws.map V.str) ∧ SqT K (upd H2 b (.ins C2 d2 (putF "links" y fs))) q (D.ps.map V.str) ∧ SqT K (upd H2 b (.ins C2 d2 (putF "links" y fs))) v made ∧ DpAll K (upd H2 b (.ins C2 d2 (putF "links" y fs))) made (D.ls.map dLink) := by
        rintro D0 H' ⟨e, made, hm, hl, hd⟩
        rw [ll, List.take_length] at hd
        refine ⟨D0, made, rfl, .inl ⟨SqL.of hm, fun v hv => ?_⟩⟩
        have e2 : Ex H6 (upd H' v (.tup made)) := e.trans (Ex.new hv)
        have hx' := e2 _ _ hx6
        refine ⟨_, rfl, x, a.C, dx, _, rfl, hx', T.cl, T.nL, by show 2 < 1000; decide, v, made, (f6.trans e2).mut x0, upd_same, exT_t (ins_t hx') (ex_t e2 hu6), exT_t (ins_t hx') (ex_t e2 hq6), exT_t (ins_t hx') (st_of upd_same), dps_exT (ins_t hx') (dps_ex (Ex.new hv) hd) (frozen_links _)⟩
      rcases hL.ex f6 with hL6 | hL6
      · refine .inl ⟨_, rfl, li, rfl, ⟨_, hL6⟩, fun D0 hD => lcY_list (K := K) (a := li) (xs := rows) (Pv D0) (start hD) (fun i H' _ p => ex_l p.1 hL6) (fun i y H' hi p => ⟨rfl, turn i y H' _ hD hi p rfl rfl⟩) (fun H' p => ?_)⟩
        obtain ⟨p0, ys, y1, y2⟩ := fin p
        refine ⟨p0, ys, y1, ?_⟩
        rcases y2 with ⟨z1, z2⟩ | ⟨z1, z2⟩
        · refine .inl ⟨z1, fun l hl => ?_⟩
          obtain ⟨c1, c2, c3, c4, c5, c6, c7, c8, c9, c10, c11, c12⟩ := z2 l hl
          exact ⟨c1, c2, c3, c4, c5, c6, c7, c8, c9, c10, c11, rfl, c12⟩
        · obtain ⟨c1, c2, c3, c4, c5, c6, c7, c8, c9, c10, c11, c12⟩ := z2
          exact .inr ⟨z1, c1, c2, c3, c4, c5, c6, c7, c8, c9, c10, c11, rfl, c12⟩
      · refine .inr ⟨_, rfl, li, rfl, ⟨_, hL6⟩, fun D0 hD => lcY_tup (K := K) (a := li) (xs := rows) (Pv D0) (start hD) (fun i H' _ p => ex_t p.1 hL6) (fun i y H' hi p => ⟨rfl, turn i y H' _ hD hi p rfl rfl⟩) (fun H' p => ?_)⟩
        obtain ⟨p0, ys, y1, y2⟩ := fin p
        refine ⟨p0, ys, y1, ?_⟩
        rcases y2 with ⟨z1, z2⟩ | ⟨z1, z2⟩
        · refine .inl ⟨z1, fun l hl => ?_⟩
          obtain ⟨c1, c2, c3, c4, c5, c6, c7, c8, c9, c10, c11, c12⟩ := z2 l hl
          exact ⟨c1, c2, c3, c4, c5, c6, c7, c8, c9, c10, c11, rfl, c12⟩
        · obtain ⟨c1, c2, c3, c4, c5, c6, c7, c8, c9, c10, c11, c12⟩ := z2
          exact .inr ⟨z1, c1, c2, c3, c4, c5, c6, c7, c8, c9, c10, c11, rfl, c12⟩
    rintro σ H7 ⟨rfl, v, made, f7, hx7, hu7, hq7, hv7, hM7⟩
    have lkL : (putF "links" (.ref v) (putF "places" (.ref q) (putF "winds" (.ref u) []))).lookup ("links" : Str) = some (V.ref v) := by
      rw [lookup_putF, if_pos rfl]
    -- _check_names('links', self.link_names)
    refine ⟨_, rfl, x, dx, _, rfl, hx7, x, dx, _, v, made, D.ls, rfl, hx7, lkL, hv7, hM7, by omega, fun H8 t e8 ht hT => ?_⟩
    refine ⟨_, t, D.ls.map (·.n), rfl, .inr (st_of hT), by rw [List.length_map]; omega, ok.gl, fun H9 e9 => ?_⟩
    have f9 : Ex H0 H9 := (f7.trans e8).trans e9
    have hx9 := e9 _ _ (e8 _ _ hx7)
    have hu9 := ex_t e9 (ex_t e8 hu7)
    have hq9 := ex_t e9 (ex_t e8 hq7)
    have hv9 := ex_t e9 (ex_t e8 hv7)
    have hM9 := dps_ex e9 (dps_ex e8 hM7)
    -- self.paths
    refine ⟨fun σ H' => σ = [some (.ref x), some (.ref wi), some (.ref pl), some (.ref li), some (.ref pa), none, none] ∧ ∃ y prs', Ex H0 H' ∧ LandAt K a.C H' x D dx u q v y made prs', ?_, ?_⟩
    · let Pw : Addr → Nat → Hp → Prop := fun D0 i H' => Ex H9 H' ∧ ∃ got, H' D0 = some (.lst got) ∧ got.length = i ∧ DpAll K H' got ((D.pa.take i).map dPath)
      have start : ∀ {D0 : Addr}, H9 D0 = none → Pw D0 0 (upd H9 D0 (.lst [])) := fun hD => ⟨Ex.new hD, [], upd_same, rfl, .nil⟩
      have lkP9 : (putF "links" (.ref v) (putF "places" (.ref q) (putF "winds" (.ref u) []))).lookup ("places" : Str) = some (V.ref q) := by
        rw [lookup_putF, if_neg (by decide +kernel), lookup_putF, if_pos rfl]
      have turn : ∀ {D0 : Addr} (i : Nat) (y : V) (H' : Hp) (σ : L2.St), H9 D0 = none → prs[i]? = some y → Pw D0 i H' → σ[6]? = some (some y) → σ[0]? = some (some (.ref x)) →
          tCall (sp__as_path K) [] E0 (tCons (tVar 6) (tCons (tFld K (tVar 0) "places") tNil)) σ H' fun y H4 => ∃ acc, H4 D0 = some (.lst acc) ∧ acc.length < sizeLine ∧ Pw D0 (i + 1) (upd H4 D0 (.lst (acc ++ [y]))) := by
        rintro D0 i y H' σ hD hy ⟨e, got, hm, hl, hd⟩ s6 s0
        obtain ⟨d, hd1, hd2⟩ := dps_at hAs hy
        have hil : i < prs.length := (List.getElem?_eq_some_iff.mp hy).1
        obtain ⟨b, hb⟩ : ∃ b, D.pa[i]? = some b := ⟨D.pa[i]'(by omega), List.getElem?_eq_getElem (by omega)⟩
        rw [List.getElem?_map, hb] at hd1
        obtain rfl : dPath b = d := Option.some.inj hd1
        refine ⟨y, s6, _, s0, x, a.C, dx, _, _, rfl, e _ _ hx9, T.cl, T.nP, lkP9, ?_⟩
        refine ⟨y, q, D.ps, b, rfl, dp_ex (f9.trans e) hd2, .inr (ex_t e hq9), ok.pt b (List.mem_of_getElem? hb), fun H8 t e8 ht hM => ⟨got, e8 _ _ hm, sz_lt (by omega), (e.trans e8).mut hD, _, upd_same, by rw [List.length_append, hl] <;> rfl, ?_⟩⟩
        rw [take_one hb, List.map_append]
        exact dps_app (dps_exT (exT_mut (e8 _ _ hm)) (dps_ex e8 hd) (frozen_paths _)) (dps_one (dp_exT (exT_mut (e8 _ _ hm)) hM (frozen_path _)))
      have fin : ∀ {D0 : Addr} {H' : Hp}, Pw D0 prs.length H' → ∃ got, H' D0 = some (.lst got) ∧ ∀ y, H' y = none → (upd H' y (.tup got)) x = some (.ins a.C dx (putF "links" (.ref v) (putF "places" (.ref q) (putF "winds" (.ref u) [])))) ∧
          ∃ y2 prs', Ex H0 (upd (upd H' y (.tup got)) x (.ins a.C dx (landFs u q v y))) ∧ LandAt K a.C (upd (upd H' y (.tup got)) x (.ins a.C dx (landFs u q v y))) x D dx u q v y2 made prs' := by
        rintro D0 H' ⟨e, got, hm, hl, hd⟩
        rw [la, List.take_length] at hd
        refine ⟨got, hm, fun y hy => ?_⟩
        have e2 : Ex H9 (upd H' y (.tup got)) := e.trans (Ex.new hy)
        have hx' := e2 _ _ hx9
        exact ⟨hx', y, got, (f9.trans e2).mut x0, upd_same, exT_t (ins_t hx') (ex_t e2 hu9), exT_t (ins_t hx') (ex_t e2 hq9), exT_t (ins_t hx') (ex_t e2 hv9), dps_exT (ins_t hx') (dps_ex e2 hM9) (frozen_links _), exT_t (ins_t hx') (st_of upd_same), dps_exT (ins_t hx') (dps_ex (Ex.new hy) hd) (frozen_paths _)⟩
      rcases hA.ex f9 with hA9 | hA9
      · refine .inl ⟨_, rfl, pa, rfl, ⟨_, hA9⟩, fun D0 hD => lcY_list (K := K) (a := pa) (xs := prs) (Pw D0) (start hD) (fun i H' _ p => ex_l p.1 hA9) (fun i y H' hi p => ⟨rfl, turn i y H' _ hD hi p rfl rfl⟩) (fun H' p => ?_)⟩
        obtain ⟨got, hm, z⟩ := fin p
        refine ⟨D0, got, rfl, .inl ⟨SqL.of hm, fun y hy => ?_⟩⟩
        obtain ⟨hx', z2⟩ := z y hy
        exact ⟨_, rfl, x, a.C, dx, _, rfl, hx', T.cl, T.nA, by show 3 < 1000; decide, rfl, z2⟩
      · refine .inr ⟨_, rfl, pa, rfl, ⟨_, hA9⟩, fun D0 hD => lcY_tup (K := K) (a := pa) (xs := prs) (Pw D0) (start hD) (fun i H' _ p => ex_t p.1 hA9) (fun i y H' hi p => ⟨rfl, turn i y H' _ hD hi p rfl rfl⟩) (fun H' p => ?_)⟩
        obtain ⟨got, hm, z⟩ := fin p
        refine ⟨D0, got, rfl, .inl ⟨SqL.of hm, fun y hy => ?_⟩⟩
        obtain ⟨hx', z2⟩ := z y hy
        exact ⟨_, rfl, x, a.C, dx, _, rfl, hx', T.cl, T.nA, by show 3 < 1000; decide, rfl, z2⟩
    rintro σ H10 ⟨rfl, y, prs', f10, L⟩
    refine ⟨_, rfl, x, a.C, dx, _, _, rfl, L.ob, T.cl, T.nA, fs_paths u q v y, y, prs', D.pa, rfl, L.pa, L.ps, ok.a60, ok.ap, fun H11 e11 => ?_⟩
    exact k H11 (f10.trans e11) (IsLand.ex e11 ⟨dx, u, q, v, y, made, prs', L⟩)
/-- which of __init__'s parameters a call names -/
theorem kb_wplp (T : Txt K mg a) : ∃ mv : List Value, KBn K a.d_init ["self", "winds", "places", "links", "paths"] 1 ["winds", "places", "links", "paths"] (fun us ws => us ++ (ws ++ mv)) (fun vs zs => vs ++ (zs ++ [])) :=
  T.F_init.kbinds0 (ps := ["self", "winds", "places", "links", "paths"]) 1 ["winds", "places", "links", "paths"] [] (fun us mv ws => us ++ (ws ++ mv)) (by simp) (fun q hq => by cases hq) (fun r1 r2 r3 => r1.append (r3.append r2))
    (fun D doc pm an cdv ct us mv ws h1 h2 h3 => match us, mv, ws, h1, h2, h3 with
      | [_], [], [_, _, _, _], _, _, _ => rfl)
theorem vals_take : ∀ {vs : List V} {us : List Value} (n : Nat), Vals vs us → Vals (vs.take n) (us.take n)
  | _, _, 0, _ => .nil
  | _, _, _ + 1, .nil => .nil
  | _, _, n + 1, .cons h r => .cons h (vals_take n r)
def turned {α : Type} (l : List α) : List α := (l.drop 2).take 1 ++ (l.take 1 ++ (l.drop 3 ++ (l.drop 1).take 1))
theorem kb_ppwl (T : Txt K mg a) : ∃ mv : List Value, KBn K a.d_init ["self", "winds", "places", "links", "paths"] 1 ["places", "paths", "winds", "links"] (fun us ws => us ++ (turned ws ++ mv)) (fun vs zs => vs ++ (turned zs ++ [])) :=
  T.F_init.kbinds0 (ps := ["self", "winds", "places", "links", "paths"]) 1 ["places", "paths", "winds", "links"] [] (fun us mv ws => us ++ (turned ws ++ mv)) (by simp) (fun q hq => by cases hq)
    (fun r1 r2 r3 => r1.append (((vals_take 1 (r3.drop 2)).append ((vals_take 1 r3).append ((r3.drop 3).append (vals_take 1 (r3.drop 1))))).append r2))
    (fun D doc pm an cdv ct us mv ws h1 h2 h3 => match us, mv, ws, h1, h2, h3 with
      | [_], [], [_, _, _, _], _, _, _ => rfl)
theorem kb_wp (T : Txt K mg a) : ∃ mv : List Value, KBn K a.d_init ["self", "winds", "places", "links", "paths"] 1 ["winds", "places"] (fun us ws => us ++ (ws ++ mv)) (fun vs zs => vs ++ (zs ++ [.ref a.tl, .ref a.te])) :=
  T.F_init.kbinds0 (ps := ["self", "winds", "places", "links", "paths"]) 1 ["winds", "places"] [("links", .ref a.tl), ("paths", .ref a.te)] (fun us mv ws => us ++ (ws ++ mv)) (by simp) (fun q hq => by simpa using hq) (fun r1 r2 r3 => r1.append (r3.append r2))
    (fun D doc pm an cdv ct us mv ws h1 h2 h3 => match us, mv, ws, h1, h2, h3 with
      | [_], [_, _], [_, _], _, _, _ => ⟨_, _, _, _, _, _, rfl, rfl, _, _, _, _, _, _, rfl, rfl, rfl⟩)
end
end EV

set_option Elab.async false
set_option linter.all false
set_option maxRecDepth 100000
set_option maxHeartbeats 4000000
namespace EV
open PySem PySem.Spec PyProof.Rows L2 EvS Evl
theorem num_in {ks : List Int} {i : Int} (h0 : 0 ≤ i) (h : i < ks.length) : ∃ n, n ∈ ks ∧ atI (ks.map V.int) i = some (.int n) ∧ n = ks.getD i.toNat 0 := by
  have hl : i.toNat < ks.length := by omega
  have e : ks[i.toNat]? = some ks[i.toNat] := List.getElem?_eq_getElem hl
  have z : atI (ks.map V.int) ((i.toNat : Nat) : Int) = some (.int ks[i.toNat]) := atI_nat (by rw [List.getElem?_map, e] <;> rfl)
  rw [show ((i.toNat : Nat) : Int) = i by omega] at z
  exact ⟨ks[i.toNat], List.getElem_mem hl, z, by rw [List.getD_eq_getElem?_getD, e] <;> rfl⟩
theorem at3 {α : Type} {x y z : α} {i : Int} (h0 : 0 ≤ i) (h : i < 3) : ∃ v, atI [x, y, z] i = some v ∧ (v = x ∨ v = y ∨ v = z) := by
  have c : i = 0 ∨ i = 1 ∨ i = 2 := by omega
  rcases c with rfl | rfl | rfl
  · exact ⟨x, atI_nat (j := 0) rfl, .inl rfl⟩
  · exact ⟨y, atI_nat (j := 1) rfl, .inr (.inl rfl)⟩
  · exact ⟨z, atI_nat (j := 2) rfl, .inr (.inr rfl)⟩
theorem at4 {α : Type} {x y z u : α} {i : Int} (h0 : 0 ≤ i) (h : i < 4) : ∃ v, atI [x, y, z, u] i = some v ∧ (v = x ∨ v = y ∨ v = z ∨ v = u) := by
  have c : i = 0 ∨ i = 1 ∨ i = 2 ∨ i = 3 := by omega
  rcases c with rfl | rfl | rfl | rfl
  · exact ⟨x, atI_nat (j := 0) rfl, .inl rfl⟩
  · exact ⟨y, atI_nat (j := 1) rfl, .inr (.inl rfl)⟩
  · exact ⟨z, atI_nat (j := 2) rfl, .inr (.inr (.inl rfl))⟩
  · exact ⟨u, atI_nat (j := 3) rfl, .inr (.inr (.inr rfl))⟩
/-- the drawn numbers -/
structure Nums (K : PySem.W.Frag) (H : Hp) (p : Addr) (ks : List Int) : Prop where
  at_ : SqL K H p (ks.map V.int)
  sm : Small ks
  lo : 150 ≤ ks.length
  hi : ks.length ≤ 1000
theorem Nums.ex {K : PySem.W.Frag} {H H' : Hp} {p : Addr} {ks : List Int} (e : Ex H H') (h : Nums K H p ks) : Nums K H' p ks := ⟨ex_l e h.at_, h.sm, h.lo, h.hi⟩
def sp__law_pick (K : PySem.W.Frag) : Sp := fun vs H Q _ => ∃ (p : Addr) (ks : List Int) (k : Int), vs = [.ref p, .int k] ∧ Nums K H p ks ∧ 0 ≤ k ∧ ∀ v, 0 ≤ v → Q (.int v) H
def sp__law_count : Sp := fun vs H Q _ => ∃ n lo hi : Int, vs = [.int n, .int lo, .int hi] ∧ lo ≤ hi ∧ ∀ v, lo ≤ v → v ≤ hi → Q (.int v) H
def sp__law_times (K : PySem.W.Frag) : Sp := fun vs H Q _ => ∃ (p : Addr) (ks : List Int) (k m : Int), vs = [.ref p, .int k, .int m] ∧ Nums K H p ks ∧ 0 ≤ k ∧ 0 ≤ m ∧ m ≤ 1000 ∧
  ∀ H' u us (ts : List (Option (Int × Int))), Ex H H' → H u = none → H' u = some (.lst us) → DpAll K H' us (ts.map dTime) → (ts.length : Int) = m → (∀ b ∈ ts, TimeOk b) → Q (.ref u) H'
section
variable {P : Program} {w : World} {K : PySem.W.Frag} {mg : Str → Option Value} {base : Heap} {a : Ad}
theorem G__law_pick (T : Txt K mg a) : FnOk P w K mg base CX0 1 a.f__law_pick a.d__law_pick ["numbers", "k"] (sp__law_pick K) := by
  refine T.F__law_pick.ok sc__law_pick (fun vs H Q E h => ?_) (fun cdv A outer s H vs Q E hr h => ?_)
  · obtain ⟨p, ks, k, rfl, _⟩ := h
    rfl
  · obtain ⟨p, ks, k0, rfl, N, k1, k⟩ := h
    have n1 := N.lo
    have n2 := N.hi
    have hlen : (ks.map V.int).length = ks.length := List.length_map ..
    have pos : (0 : Int) < ((ks.map V.int).length : Nat) := by rw [hlen]; omega
    obtain ⟨n, hn, hat, _⟩ := num_in (ks := ks) (i := k0.fmod (((ks.map V.int).length : Nat) : Int)) (Int.fmod_nonneg_of_pos _ pos) (by rw [← hlen]; exact Int.fmod_lt_of_pos _ pos)
    refine ⟨_, (pss_one (ps_ret (pe_op op_add (pe_callTy call_int1 (by rfl) T.z_int (by decide +kernel) (pa_cons (pe_ix ix_list (pv 0) (pe_op op_modN (pv 1) (pe_callB call_len_seq (by rfl) T.z_len PySem.boot_len (pa_cons (pv 0) pa_nil))) (fun _ _ => rfl)) pa_nil)) (pe_op op_mul pe_int (pe_op op_fdivN (pv 1) (pe_callB call_len_seq (by rfl) T.z_len PySem.boot_len (pa_cons (pv 0) pa_nil))))))), ?_⟩
    refine ⟨_, rfl, _, rfl, _, rfl, p, _, rfl, .inl N.at_, _, _, rfl, rfl, by omega, p, _, _, _, rfl, rfl, N.at_, hat, .inl ⟨_, rfl, _, rfl, _, rfl, p, _, rfl, .inl N.at_, _, _, rfl, rfl, ⟨by omega, by omega⟩, _, _, rfl, rfl, .inl ⟨by decide, by decide⟩, _, _, rfl, rfl, ?_⟩⟩
    refine k _ ?_
    have f0 : 0 ≤ k0.fdiv (((ks.map V.int).length : Nat) : Int) := by
      rw [Int.fdiv_eq_ediv_of_nonneg _ (by omega)]
      exact Int.ediv_nonneg k1 (by omega)
    have := (N.sm n hn).1
    omega
theorem G__law_count (T : Txt K mg a) : FnOk P w K mg base CX0 1 a.f__law_count a.d__law_count ["number", "least", "most"] sp__law_count := by
  refine T.F__law_count.ok sc__law_count (fun vs H Q E h => ?_) (fun cdv A outer s H vs Q E hr h => ?_)
  · obtain ⟨n, lo, hi, rfl, _⟩ := h
    rfl
  · obtain ⟨n, lo, hi, rfl, le, k⟩ := h
    refine ⟨_, (pss_cons (ps_if (pt_cmpR op_eq (pe_op op_mod (pe_callTy call_int1 (by rfl) T.z_int (by decide +kernel) (pa_cons (pv 0) pa_nil)) pe_int) pe_int (nomark _)) (pss_one (ps_ret (pv 1))) pss_nil)
      (pss_cons (ps_if (pt_cmpR op_eq (pe_op op_mod (pe_callTy call_int1 (by rfl) T.z_int (by decide +kernel) (pa_cons (pv 0) pa_nil)) pe_int) pe_int (nomark _)) (pss_one (ps_ret (pv 2))) pss_nil)
      (pss_one (ps_ret (pe_op op_add (pv 1) (pe_op op_modN (pe_op op_fdiv (pe_callTy call_int1 (by rfl) T.z_int (by decide +kernel) (pa_cons (pv 0) pa_nil)) pe_int) (pe_op op_add (pe_op op_sub (pe_callB (call_min2 rfl) (by rfl) T.z_min (by decide +kernel) (pa_cons (pv 2) (pa_cons (pe_op op_add (pv 1) pe_int) pa_nil))) (pv 1)) pe_int))))))), ?_⟩
    refine ⟨_, rfl, .inl ⟨_, rfl, _, _, rfl, rfl, (by show (0 : Int) < 7; decide), rfl, _, rfl, ?_⟩⟩
    refine ite2 (fun _ => ⟨_, rfl, k lo (Int.le_refl _) le⟩) (fun _ => ?_)
    refine ⟨_, rfl, .inl ⟨_, rfl, _, _, rfl, rfl, (by show (0 : Int) < 7; decide), rfl, _, rfl, ?_⟩⟩
    refine ite2 (fun _ => ⟨_, rfl, k hi le (Int.le_refl _)⟩) (fun _ => ?_)
    have d1 : 0 < (if lo + 9 < hi then lo + 9 else hi) - lo + 1 := by split <;> omega
    have d2 : (if lo + 9 < hi then lo + 9 else hi) ≤ hi := by split <;> omega
    refine ⟨_, rfl, _, rfl, .inl ⟨_, rfl, _, _, rfl, rfl, ⟨by decide, by decide⟩, _, rfl, _, rfl, _, _, rfl, rfl, _, _, rfl, _, rfl, _, _, rfl, rfl, _, _, rfl, rfl, _, _, rfl, rfl, by omega, _, _, rfl, rfl, ?_⟩⟩
    have m0 := Int.fmod_nonneg_of_pos (n / 7) d1
    have m1 := Int.fmod_lt_of_pos (n / 7) d1
    exact k _ (by omega) (by omega)
theorem G__law_times (T : Txt K mg a) : FnOk P w K mg base CX0 2 a.f__law_times a.d__law_times ["numbers", "k", "many"] (sp__law_times K) := by
  refine T.F__law_times.ok sc__law_times (fun vs H Q E h => ?_) (fun cdv A outer s H vs Q E hr h => ?_)
  · obtain ⟨p, ks, k, m, rfl, _⟩ := h
    rfl
  · obtain ⟨p, ks, k0, m, rfl, N, k1, m0, m1, k⟩ := h
    refine ⟨_, (pss_cons (ps_set (i := 3) sc__law_times.nd rfl (Or.inl rfl) (pe_lst pa_nil))
      (pss_cons (ps_for PassesOwn.never rfl (pi_range1 (by rfl) T.z_range (pa_cons (pv 2) pa_nil)) (pg_name (i := 4) sc__law_times.nd rfl (Or.inl rfl)) (pss_cons (ps_set (i := 5) sc__law_times.nd rfl (Or.inl rfl) (pe_ix ix_list (pe_lst (pa_cons pe_int (pa_cons pe_int (pa_cons (pe_op op_add pe_int (pe_op op_mod (pe_call (G__law_pick T) (hr.mono (by decide)) (by rfl) T.g__law_pick T.k__law_pick T.B__law_pick .nil pass0 (pa_cons (pv 0) (pa_cons (pe_op op_add (pv 1) (pv 4)) pa_nil))) pe_int)) (pa_cons (pe_op op_add pe_int (pe_op op_mod (pe_call (G__law_pick T) (hr.mono (by decide)) (by rfl) T.g__law_pick T.k__law_pick T.B__law_pick .nil pass0 (pa_cons (pv 0) (pa_cons (pe_op op_add (pv 1) (pv 4)) pa_nil))) pe_int)) pa_nil))))) (pe_op op_mod (pe_call (G__law_pick T) (hr.mono (by decide)) (by rfl) T.g__law_pick T.k__law_pick T.B__law_pick .nil pass0 (pa_cons (pv 0) (pa_cons (pe_op op_add (pe_op op_add (pv 1) (pv 4)) pe_int) pa_nil))) pe_int) (fun _ _ => rfl)))
        (pss_cons (ps_set (i := 6) sc__law_times.nd rfl (Or.inl rfl) (pe_ix ix_list (pe_lst (pa_cons (pv 5) (pa_cons pe_int (pa_cons (pe_op op_add (pv 5) (pe_op op_modN (pe_call (G__law_pick T) (hr.mono (by decide)) (by rfl) T.g__law_pick T.k__law_pick T.B__law_pick .nil pass0 (pa_cons (pv 0) (pa_cons (pe_op op_add (pe_op op_add (pv 1) (pv 4)) pe_int) pa_nil))) (pe_op op_sub pe_int (pv 5)))) pa_nil)))) (pe_op op_mod (pe_call (G__law_pick T) (hr.mono (by decide)) (by rfl) T.g__law_pick T.k__law_pick T.B__law_pick .nil pass0 (pa_cons (pv 0) (pa_cons (pe_op op_add (pe_op op_add (pv 1) (pv 4)) pe_int) pa_nil))) pe_int) (fun _ _ => rfl)))
        (pss_one (ps_expr (pe_bm PySem.F.plainAttrs_list PySem.F.slot_list_append PySem.F.type_list_append mt_append (pv 3) (pa_cons (pe_ix ix_list (pe_lst (pa_cons (pe_tup (pa_cons (pv 5) (pa_cons (pv 6) pa_nil))) (pa_cons (pe_tup (pa_cons (pv 5) (pa_cons (pv 6) pa_nil))) (pa_cons pe_non pa_nil)))) (pe_op op_mod (pe_call (G__law_pick T) (hr.mono (by decide)) (by rfl) T.g__law_pick T.k__law_pick T.B__law_pick .nil pass0 (pa_cons (pv 0) (pa_cons (pe_op op_add (pe_op op_add (pv 1) (pe_op op_mul pe_int (pv 4))) pe_int) pa_nil))) pe_int) (fun _ _ => rfl)) pa_nil)))))))
      (pss_one (ps_ret (pv 3))))), ?_⟩
    refine ⟨Nat.zero_le _, fun u hu => ?_⟩
    refine ⟨_, rfl, _, rfl, by omega, by omega, for_range (n := m.toNat) (fun i σ H' => ∃ (us : List V) (ts : List (Option (Int × Int))) (v4 v5 v6 : Option V), σ = [some (.ref p), some (.int k0), some (.int m), some (.ref u), v4, v5, v6] ∧ Ex H H' ∧ H' u = some (.lst us) ∧ DpAll K H' us (ts.map dTime) ∧ ts.length = i ∧ (∀ b ∈ ts, TimeOk b)) ?_ ?_ ?_⟩
    · exact ⟨[], [], none, none, none, rfl, Ex.new hu, upd_same, .nil, rfl, fun b hb => by cases hb⟩
    · rintro i σ H1 hi ⟨us, ts, v4, v5, v6, rfl, e1, hU, hd, hl, hok⟩
      have N1 := N.ex e1
      have ul : us.length = i := by rw [dps_len hd, List.length_map, hl]
      -- first
      refine ⟨_, rfl, _, rfl, _, rfl, _, _, rfl, rfl, p, ks, _, rfl, N1, by omega, fun x1 _ => ⟨_, _, rfl, rfl, (by show (0 : Int) < 1000; decide), _, _, rfl, rfl, ?_⟩⟩
      refine ⟨_, rfl, _, rfl, _, rfl, _, _, rfl, rfl, p, ks, _, rfl, N1, by omega, fun x2 _ => ⟨_, _, rfl, rfl, (by show (0 : Int) < 30; decide), _, _, rfl, rfl, ?_⟩⟩
      refine ⟨by show 4 ≤ sizeLine; decide, fun l1 hl1 => ?_⟩
      have e2 : Ex H (upd H1 l1 (.lst [.int 1, .int 1000, .int (1 + x1 % 1000), .int (1 + x2 % 30)])) := e1.trans (Ex.new hl1)
      refine ⟨_, rfl, _, rfl, _, rfl, _, _, rfl, rfl, _, _, rfl, rfl, p, ks, _, rfl, N.ex e2, by omega, fun x3 _ => ⟨_, _, rfl, rfl, (by show (0 : Int) < 4; decide), ?_⟩⟩
      have q1 := Int.emod_nonneg x1 (show (1000 : Int) ≠ 0 by decide)
      have q2 := Int.emod_lt_of_pos x1 (show (0 : Int) < 1000 by decide)
      have q3 := Int.emod_nonneg x2 (show (30 : Int) ≠ 0 by decide)
      have q4 := Int.emod_lt_of_pos x2 (show (0 : Int) < 30 by decide)
      obtain ⟨fv, hf, cf⟩ := at4 (x := V.int 1) (y := V.int 1000) (z := V.int (1 + x1 % 1000)) (u := V.int (1 + x2 % 30)) (Int.emod_nonneg x3 (show (4 : Int) ≠ 0 by decide)) (Int.emod_lt_of_pos x3 (show (0 : Int) < 4 by decide))
      obtain ⟨f, rfl, f1, f2⟩ : ∃ f : Int, fv = .int f ∧ 1 ≤ f ∧ f ≤ 1000 := by
        rcases cf with c | c | c | c
        · exact ⟨_, c, by decide, by decide⟩
        · exact ⟨_, c, by decide, by decide⟩
        · exact ⟨_, c, by omega, by omega⟩
        · exact ⟨_, c, by omega, by omega⟩
      refine ⟨l1, _, _, _, rfl, rfl, SqL.of upd_same, hf, ?_⟩
      have hU2 : (upd H1 l1 (.lst [.int 1, .int 1000, .int (1 + x1 % 1000), .int (1 + x2 % 30)])) u = some (.lst us) := Ex.new hl1 _ _ hU
      have hd2 := dps_ex (Ex.new (o := .lst [.int 1, .int 1000, .int (1 + x1 % 1000), .int (1 + x2 % 30)]) hl1) hd
      generalize upd H1 l1 (.lst [.int 1, .int 1000, .int (1 + x1 % 1000), .int (1 + x2 % 30)]) = H2 at e2 hU2 hd2
      -- last
      refine ⟨_, rfl, _, rfl, _, rfl, _, rfl, _, rfl, _, _, rfl, rfl, _, _, rfl, rfl, p, ks, _, rfl, N.ex e2, by omega, fun x4 _ => ⟨_, rfl, _, _, rfl, rfl, _, _, rfl, rfl, by omega, _, _, rfl, rfl, ?_⟩⟩
      refine ⟨by show 3 ≤ sizeLine; decide, fun l2 hl2 => ?_⟩
      have e3 : Ex H (upd H2 l2 (.lst [.int f, .int 1000, .int (f + x4.fmod (1001 - f))])) := e2.trans (Ex.new hl2)
      refine ⟨_, rfl, _, rfl, _, rfl, _, _, rfl, rfl, _, _, rfl, rfl, p, ks, _, rfl, N.ex e3, by omega, fun x5 _ => ⟨_, _, rfl, rfl, (by show (0 : Int) < 3; decide), ?_⟩⟩
      have dpos : 0 < 1001 - f := by omega
      have q5 := Int.fmod_nonneg_of_pos x4 dpos
      have q6 := Int.fmod_lt_of_pos x4 dpos
      obtain ⟨lv, hlv, cl⟩ := at3 (x := V.int f) (y := V.int 1000) (z := V.int (f + x4.fmod (1001 - f))) (Int.emod_nonneg x5 (show (3 : Int) ≠ 0 by decide)) (Int.emod_lt_of_pos x5 (show (0 : Int) < 3 by decide))
      obtain ⟨g, rfl, g1, g2⟩ : ∃ g : Int, lv = .int g ∧ f ≤ g ∧ g ≤ 1000 := by
        rcases cl with c | c | c
        · exact ⟨_, c, by omega, by omega⟩
        · exact ⟨_, c, by omega, by omega⟩
        · exact ⟨_, c, by omega, by omega⟩
      refine ⟨l2, _, _, _, rfl, rfl, SqL.of upd_same, hlv, ?_⟩
      have hU3 : (upd H2 l2 (.lst [.int f, .int 1000, .int (f + x4.fmod (1001 - f))])) u = some (.lst us) := Ex.new hl2 _ _ hU2
      have hd3 := dps_ex (Ex.new (o := .lst [.int f, .int 1000, .int (f + x4.fmod (1001 - f))]) hl2) hd2
      generalize upd H2 l2 (.lst [.int f, .int 1000, .int (f + x4.fmod (1001 - f))]) = H3 at e3 hU3 hd3
      -- times.append(..)
      refine ⟨_, rfl, .inl ⟨rfl, _, SqL.of hU3⟩, _, rfl, _, rfl, by show 2 ≤ sizeLine; decide, fun t1 ht1 => ?_⟩
      refine ⟨_, rfl, _, rfl, by show 2 ≤ sizeLine; decide, fun t2 ht2 => ?_⟩
      refine ⟨by show 3 ≤ sizeLine; decide, fun l3 hl3 => ?_⟩
      have a1 : Ex H3 (upd (upd (upd H3 t1 (.tup [.int f, .int g])) t2 (.tup [.int f, .int g])) l3 (.lst [.ref t1, .ref t2, .non])) := ((Ex.new ht1).trans (Ex.new ht2)).trans (Ex.new hl3)
      have e4 := e3.trans a1
      refine ⟨_, rfl, _, rfl, _, rfl, _, _, rfl, rfl, .inl ⟨by decide, by decide⟩, _, _, rfl, rfl, _, _, rfl, rfl, p, ks, _, rfl, N.ex e4, by omega, fun x6 _ => ⟨_, _, rfl, rfl, (by show (0 : Int) < 3; decide), ?_⟩⟩
      obtain ⟨tv, htv, ct⟩ := at3 (x := V.ref t1) (y := V.ref t2) (z := V.non) (Int.emod_nonneg x6 (show (3 : Int) ≠ 0 by decide)) (Int.emod_lt_of_pos x6 (show (0 : Int) < 3 by decide))
      refine ⟨l3, _, _, _, rfl, rfl, SqL.of upd_same, htv, u, us, _, rfl, rfl, a1 _ _ hU3, sz_lt (by omega), ?_⟩
      have T1 : (upd (upd (upd H3 t1 (.tup [.int f, .int g])) t2 (.tup [.int f, .int g])) l3 (.lst [.ref t1, .ref t2, .non])) t1 = some (.tup [.int f, .int g]) := (Ex.new hl3) _ _ ((Ex.new ht2) _ _ upd_same)
      have T2 : (upd (upd (upd H3 t1 (.tup [.int f, .int g])) t2 (.tup [.int f, .int g])) l3 (.lst [.ref t1, .ref t2, .non])) t2 = some (.tup [.int f, .int g]) := (Ex.new hl3) _ _ upd_same
      have hd4 := dps_ex a1 hd3
      have hU4 := a1 _ _ hU3
      generalize upd (upd (upd H3 t1 (.tup [.int f, .int g])) t2 (.tup [.int f, .int g])) l3 (.lst [.ref t1, .ref t2, .non]) = H4 at a1 e4 T1 T2 hd4 hU4
      obtain ⟨b, hb, bok⟩ : ∃ b, Dp K H4 tv (dTime b) ∧ TimeOk b := by
        rcases ct with c | c | c
        · exact ⟨some (f, g), by rw [c]; exact .tup (st_of T1) (.cons (.int f) (.cons (.int g) .nil)), f1, g1, g2⟩
        · exact ⟨some (f, g), by rw [c]; exact .tup (st_of T2) (.cons (.int f) (.cons (.int g) .nil)), f1, g1, g2⟩
        · exact ⟨none, by rw [c]; exact .non, trivial⟩
      refine ⟨us ++ [tv], ts ++ [b], _, _, _, rfl, e4.mut hu, upd_same, ?_, by rw [List.length_append, hl] <;> rfl, fun b2 hb2 => ?_⟩
      · rw [List.map_append]
        exact dps_app (dps_exT (exT_mut hU4) hd4 (frozen_times _)) (dps_one (dp_exT (exT_mut hU4) hb (frozen_time _)))
      · rcases List.mem_append.mp hb2 with z | z
        · exact hok b2 z
        · rw [List.mem_singleton.mp z]
          exact bok
    · rintro σ H' ⟨us, ts, v4, v5, v6, rfl, e1, hU, hd, hl, hok⟩
      exact ⟨_, rfl, k H' u us ts e1 hu hU hd (by omega) hok⟩
end
end EV

set_option Elab.async false
set_option linter.all false
set_option maxRecDepth 100000
set_option maxHeartbeats 4000000
namespace EV
open PySem PySem.Spec PyProof.Rows L2 EvS Evl
/-! ### names as the law makes them -/
def CH : List Nat := ("abcdefghijklmnopqrstuvwxyz0123456789" : Str).cps.toList
def chAt (i : Int) : Nat := CH.getD i.toNat 0
theorem ch_len : CH.length = 36 := by decide +kernel
theorem ch_slen : ("abcdefghijklmnopqrstuvwxyz0123456789" : Str).length = 36 := by decide +kernel
theorem ch_get {i : Int} (h0 : 0 ≤ i) (h : i < 36) : atI CH i = some (chAt i) := by
  have hl : i.toNat < CH.length := by rw [ch_len]; omega
  have z := atI_nat (xs := CH) (j := i.toNat) (List.getElem?_eq_getElem hl)
  rw [show ((i.toNat : Nat) : Int) = i by omega] at z
  rw [z]
  unfold chAt
  rw [List.getD_eq_getElem?_getD, List.getElem?_eq_getElem hl]
  rfl
theorem ch_all : ∀ i, i < 36 → okSign (CH.getD i 0) = true := by decide +kernel
theorem ch_let : ∀ i, i < 26 → decide (CH.getD i 0 ∈ LETS) = true := by decide +kernel
theorem ch_inj : ∀ i, i < 36 → ∀ j, j < 36 → CH.getD i 0 = CH.getD j 0 → i = j := by decide +kernel
theorem chAt_ok {i : Int} (h0 : 0 ≤ i) (h : i < 36) : okSign (chAt i) = true := ch_all i.toNat (by omega)
theorem chAt_let {i : Int} (h0 : 0 ≤ i) (h : i < 26) : chAt i ∈ LETS := of_decide_eq_true (ch_let i.toNat (by omega))
theorem chAt_inj {i j : Int} (h0 : 0 ≤ i) (h : i < 36) (k0 : 0 ≤ j) (k : j < 36) (e : chAt i = chAt j) : i = j := by
  have := ch_inj i.toNat (by omega) j.toNat (by omega) e
  omega
theorem m36 (x : Int) : 0 ≤ x % 36 ∧ x % 36 < 36 := ⟨Int.emod_nonneg _ (by decide), Int.emod_lt_of_pos _ (by decide)⟩
def bas (ks : List Int) (at_ : Nat) : Nat := if ks.getD 1 0 % 5 = 1 then 2 else at_
def preN (ks : List Int) (b n : Nat) : List Nat := chAt (ks.getD b 0 % 26) :: (List.range n).map fun (k : Nat) => chAt ((ks.getD (b + 2) 0 + (k : Int) * ks.getD (b + 3) 0) % 36)
def pre (ks : List Int) (b : Nat) : List Nat := preN ks b (ks.getD (b + 1) 0 % 10).toNat
def plc (ks : List Int) (b : Nat) : Nat := (1 + (ks.getD (b + 4) 0).fmod (((pre ks b).length : Nat) : Int)).toNat
def tailN (k : Nat) : List Nat := if 36 ≤ k then [113] else []
def codes (ks : List Int) (b k : Nat) : List Nat := (pre ks b).take (plc ks b) ++ ([chAt ((ks.getD (b + 5) 0 + 5 * (k : Int)) % 36)] ++ (tailN k ++ (pre ks b).drop (plc ks b)))
def nameOf (ks : List Int) (at_ k : Nat) : Str := ⟨(codes ks (bas ks at_) k).toArray⟩
def names (ks : List Int) (at_ m : Nat) : List Str := (List.range m).map (nameOf ks at_)
theorem pre_len (ks : List Int) (b : Nat) : 1 ≤ (pre ks b).length ∧ (pre ks b).length ≤ 10 := by
  unfold pre preN
  rw [List.length_cons, List.length_map, List.length_range]
  have := Int.emod_nonneg (ks.getD (b + 1) 0) (show (10 : Int) ≠ 0 by decide)
  have := Int.emod_lt_of_pos (ks.getD (b + 1) 0) (show (0 : Int) < 10 by decide)
  omega
theorem plc_le (ks : List Int) (b : Nat) : 1 ≤ plc ks b ∧ plc ks b ≤ (pre ks b).length := by
  have h := pre_len ks b
  have p : (0 : Int) < (((pre ks b).length : Nat) : Int) := by omega
  have := Int.fmod_nonneg_of_pos (ks.getD (b + 4) 0) p
  have := Int.fmod_lt_of_pos (ks.getD (b + 4) 0) p
  unfold plc
  omega
theorem pre_ok (ks : List Int) (b : Nat) : ∀ c ∈ pre ks b, okSign c = true := by
  intro c hc
  unfold pre preN at hc
  rcases List.mem_cons.mp hc with e | hc
  · rw [e]
    have := Int.emod_lt_of_pos (ks.getD b 0) (show (0 : Int) < 26 by decide)
    exact chAt_ok (Int.emod_nonneg _ (by decide)) (by omega)
  · obtain ⟨k, _, rfl⟩ := List.mem_map.mp hc
    exact chAt_ok (m36 _).1 (m36 _).2
theorem tail_len (k : Nat) : (tailN k).length = if 36 ≤ k then 1 else 0 := by
  unfold tailN
  split <;> rfl
theorem codes_len (ks : List Int) (b k : Nat) : (codes ks b k).length = (pre ks b).length + 1 + if 36 ≤ k then 1 else 0 := by
  have h := plc_le ks b
  unfold codes
  rw [List.length_append, List.length_append, List.length_append, List.length_take, List.length_drop, tail_len, List.length_singleton]
  omega
theorem name_ok (ks : List Int) (at_ k : Nat) : isName (nameOf ks at_ k) = true := by
  have hl := codes_len ks (bas ks at_) k
  have hp := pre_len ks (bas ks at_)
  have hq := plc_le ks (bas ks at_)
  have len : (nameOf ks at_ k).length = (codes ks (bas ks at_) k).length := by
    show (codes ks (bas ks at_) k).toArray.size = _
    rw [List.size_toArray]
  have lst : (nameOf ks at_ k).cps.toList = codes ks (bas ks at_) k := rfl
  unfold isName
  rw [lst, len, Bool.and_eq_true, Bool.and_eq_true]
  refine ⟨⟨decide_eq_true ⟨by omega, by rw [hl]; split <;> omega⟩, ?_⟩, ?_⟩
  · obtain ⟨m, hm⟩ : ∃ m, plc ks (bas ks at_) = m + 1 := ⟨plc ks (bas ks at_) - 1, by omega⟩
    have e : (codes ks (bas ks at_) k).head? = some (chAt (ks.getD (bas ks at_) 0 % 26)) := by
      unfold codes
      rw [hm]
      unfold pre preN
      rfl
    rw [e]
    exact decide_eq_true (chAt_let (Int.emod_nonneg _ (by decide)) (Int.emod_lt_of_pos _ (by decide)))
  · rw [List.all_eq_true]
    intro c hc
    unfold codes at hc
    rcases List.mem_append.mp hc with z | z
    · exact pre_ok _ _ c (List.mem_of_mem_take z)
    rcases List.mem_append.mp z with z | z
    · rw [List.mem_singleton.mp z]
      exact chAt_ok (m36 _).1 (m36 _).2
    rcases List.mem_append.mp z with z | z
    · unfold tailN at z
      split at z
      · rw [List.mem_singleton.mp z]
        decide +kernel
      · cases z
    · exact pre_ok _ _ c (List.mem_of_mem_drop z)
theorem name_inj (ks : List Int) (at_ : Nat) {i j : Nat} (hi : i < 72) (hj : j < 72) (e : nameOf ks at_ i = nameOf ks at_ j) : i = j := by
  have ec : codes ks (bas ks at_) i = codes ks (bas ks at_) j := by
    have z := congrArg (fun s : Str => s.cps.toList) e
    exact z
  have hl := congrArg List.length ec
  rw [codes_len, codes_len] at hl
  have hb : (36 ≤ i) ↔ (36 ≤ j) := by
    constructor
    · intro h
      rw [if_pos h] at hl
      by_cases q : 36 ≤ j
      · exact q
      · rw [if_neg q] at hl
        omega
    · intro h
      rw [if_pos h] at hl
      by_cases q : 36 ≤ i
      · exact q
      · rw [if_neg q] at hl
        omega
  have ht := plc_le ks (bas ks at_)
  have lt : ((pre ks (bas ks at_)).take (plc ks (bas ks at_))).length = plc ks (bas ks at_) := by
    rw [List.length_take]
    omega
  have gi : ∀ k, (codes ks (bas ks at_) k)[plc ks (bas ks at_)]? = some (chAt ((ks.getD (bas ks at_ + 5) 0 + 5 * (k : Int)) % 36)) := fun k => by
    unfold codes
    rw [List.getElem?_append_right (by omega), lt, Nat.sub_self]
    rfl
  have z := gi i
  rw [ec, gi j] at z
  have y := chAt_inj (m36 _).1 (m36 _).2 (m36 _).1 (m36 _).2 (Option.some.inj z)
  omega
theorem names_good (ks : List Int) (at_ : Nat) {m : Nat} (h : m ≤ 72) : Good (names ks at_ m) := by
  refine ⟨fun n hn => ?_, ?_⟩
  · obtain ⟨k, _, rfl⟩ := List.mem_map.mp hn
    exact name_ok ks at_ k
  · unfold names
    refine List.pairwise_map.mpr (List.Pairwise.imp_of_mem (fun ha hb ne e => ?_) (List.nodup_range (n := m)))
    have h1 := List.mem_range.mp ha
    have h2 := List.mem_range.mp hb
    exact ne (name_inj ks at_ (by omega) (by omega) e)
theorem names_len (ks : List Int) (at_ m : Nat) : (names ks at_ m).length = m := by
  unfold names
  rw [List.length_map, List.length_range]
theorem names_more (ks : List Int) (at_ m : Nat) : names ks at_ (m + 1) = names ks at_ m ++ [nameOf ks at_ m] := by
  unfold names
  rw [List.range_succ, List.map_append]
  rfl
/-! texts by their codes -/
abbrev tx (l : List Nat) : Str := ⟨l.toArray⟩
theorem tx_add (l m : List Nat) : tx l ++ tx m = tx (l ++ m) := Str.ext' (by rw [Str.cps_append]; simp)
theorem tx_one (c : Nat) : (⟨#[c]⟩ : Str) = tx [c] := rfl
theorem tx_len (l : List Nat) : (tx l).length = l.length := by
  show l.toArray.size = _
  rw [List.size_toArray]
theorem tx_to (l : List Nat) (n : Nat) : cutS (tx l) none (some (n : Int)) = tx (l.take n) := by
  have e : (tx l).cps.toList = l := rfl
  unfold cutS
  rw [HT.sIx_nat, HT.sIx_none, e, tx_len, List.drop_zero, Nat.sub_zero]
  rcases Nat.le_total n l.length with h | h
  · rw [Nat.min_eq_left h]
  · rw [Nat.min_eq_right h, List.take_length, List.take_of_length_le h]
theorem tx_from (l : List Nat) (n : Nat) : cutS (tx l) (some (n : Int)) none = tx (l.drop n) := by
  have e : (tx l).cps.toList = l := rfl
  unfold cutS
  rw [HT.sIx_nat, HT.sIx_none, e, tx_len]
  rcases Nat.le_total n l.length with h | h
  · rw [Nat.min_eq_left h, List.take_of_length_le (by rw [List.length_drop]; exact Nat.le_refl _)]
  · rw [Nat.min_eq_right h, List.drop_length, List.drop_eq_nil_of_le h, List.take_nil]
theorem one_len (c : Nat) : (⟨#[c]⟩ : Str).length = 1 := rfl
def sp__law_names (K : PySem.W.Frag) : Sp := fun vs H Q _ => ∃ (p : Addr) (ks : List Int) (at_ m : Nat), vs = [.ref p, .int (at_ : Int), .int (m : Int)] ∧ Nums K H p ks ∧ 2 ≤ at_ ∧ at_ ≤ 100 ∧ m ≤ 72 ∧
  ∀ H' q, Ex H H' → H q = none → H' q = some (.lst ((names ks at_ m).map V.str)) → Q (.ref q) H'
section
variable {P : Program} {w : World} {K : PySem.W.Frag} {mg : Str → Option Value} {base : Heap} {a : Ad}
theorem G__law_names (T : Txt K mg a) : FnOk P w K mg base CX0 1 a.f__law_names a.d__law_names ["numbers", "at", "many"] (sp__law_names K) := by
  refine T.F__law_names.ok sc__law_names (fun vs H Q E h => ?_) (fun cdv A outer s H vs Q E hr h => ?_)
  · obtain ⟨p, ks, at_, m, rfl, _⟩ := h
    rfl
  · obtain ⟨p, ks, at_, m, rfl, N, a2, a100, m72, k⟩ := h
    have lo := N.lo
    refine ⟨_, (pss_cut (ps_if (pt_cmpR op_eq (pe_op op_mod (pe_callTy call_int1 (by rfl) T.z_int (by decide +kernel) (pa_cons (pe_ix ix_list (pv 0) pe_int (fun _ _ => rfl)) pa_nil)) pe_int) pe_int (nomark _)) (pss_one (ps_set (i := 1) sc__law_names.nd rfl (Or.inl rfl) pe_int)) pss_nil)
      (pss_cons (ps_set (i := 3) sc__law_names.nd rfl (Or.inl rfl) pe_str)
      (pss_cons (ps_set (i := 4) sc__law_names.nd rfl (Or.inl rfl) (pe_ix ix_str (pv 3) (pe_op op_mod (pe_callTy call_int1 (by rfl) T.z_int (by decide +kernel) (pa_cons (pe_ix ix_list (pv 0) (pv 1) (fun _ _ => rfl)) pa_nil)) pe_int) (fun _ _ => rfl)))
      (pss_cons (ps_for PassesOwn.never rfl (pi_range1 (by rfl) T.z_range (pa_cons (pe_op op_mod (pe_callTy call_int1 (by rfl) T.z_int (by decide +kernel) (pa_cons (pe_ix ix_list (pv 0) (pe_op op_add (pv 1) pe_int) (fun _ _ => rfl)) pa_nil)) pe_int) pa_nil)) (pg_name (i := 5) sc__law_names.nd rfl (Or.inl rfl)) (pss_one (ps_set (i := 4) sc__law_names.nd rfl (Or.inl rfl) (pe_op op_add_str (pv 4) (pe_ix ix_str (pv 3) (pe_op op_mod (pe_callTy call_int1 (by rfl) T.z_int (by decide +kernel) (pa_cons (pe_op op_add (pe_ix ix_list (pv 0) (pe_op op_add (pv 1) pe_int) (fun _ _ => rfl)) (pe_op op_mul (pv 5) (pe_ix ix_list (pv 0) (pe_op op_add (pv 1) pe_int) (fun _ _ => rfl)))) pa_nil)) pe_int) (fun _ _ => rfl))))))
      (pss_cons (ps_set (i := 6) sc__law_names.nd rfl (Or.inl rfl) (pe_op op_add pe_int (pe_op op_modN (pe_callTy call_int1 (by rfl) T.z_int (by decide +kernel) (pa_cons (pe_ix ix_list (pv 0) (pe_op op_add (pv 1) pe_int) (fun _ _ => rfl)) pa_nil)) (pe_callB call_len_str (by rfl) T.z_len PySem.boot_len (pa_cons (pv 4) pa_nil)))))
      (pss_cons (ps_set (i := 7) sc__law_names.nd rfl (Or.inl rfl) (pe_callTy call_int1 (by rfl) T.z_int (by decide +kernel) (pa_cons (pe_ix ix_list (pv 0) (pe_op op_add (pv 1) pe_int) (fun _ _ => rfl)) pa_nil)))
      (pss_cons (ps_set (i := 8) sc__law_names.nd rfl (Or.inl rfl) (pe_lst pa_nil))
      (pss_cons (ps_for PassesOwn.never rfl (pi_range1 (by rfl) T.z_range (pa_cons (pv 2) pa_nil)) (pg_name (i := 5) sc__law_names.nd rfl (Or.inl rfl)) (pss_cons (ps_set (i := 9) sc__law_names.nd rfl (Or.inl rfl) (pe_ix ix_list (pe_lst (pa_cons pe_str (pa_cons pe_str pa_nil))) (pe_callTy call_int1 (by rfl) T.z_int (by decide +kernel) (pa_cons (pe_cmpR op_ge (pv 5) pe_int (nomark _)) pa_nil)) (fun _ _ => rfl)))
        (pss_one (ps_expr (pe_bm PySem.F.plainAttrs_list PySem.F.slot_list_append PySem.F.type_list_append mt_append (pv 8) (pa_cons (pe_op op_add_str (pe_op op_add_str (pe_op op_add_str (pe_slice sl_str (pv 4) po_none (po_some (pv 6))) (pe_ix ix_str (pv 3) (pe_op op_mod (pe_callTy call_int1 (by rfl) T.z_int (by decide +kernel) (pa_cons (pe_op op_add (pv 7) (pe_op op_mul pe_int (pv 5))) pa_nil)) pe_int) (fun _ _ => rfl))) (pv 9)) (pe_slice sl_str (pv 4) (po_some (pv 6)) po_none)) pa_nil))))))
      (pss_one (ps_ret (pv 8))))))))))), ?_⟩
    obtain ⟨n1, _, hn1, en1⟩ := num_in (ks := ks) (i := 1) (by decide) (by omega)
    refine ⟨fun σ H' => σ = [some (.ref p), some (.int ((bas ks at_ : Nat) : Int)), some (.int (m : Int)), none, none, none, none, none, none, none] ∧ H' = H, ?_, ?_⟩
    · refine ⟨_, rfl, p, _, _, _, rfl, rfl, N.at_, hn1, .inl ⟨_, rfl, _, _, rfl, rfl, (by show (0 : Int) < 5; decide), rfl, _, rfl, ?_⟩⟩
      have en : n1 = ks.getD 1 0 := en1
      refine ite2 (fun h => ?_) (fun h => ?_)
      · refine ⟨?_, rfl⟩
        have q : ks.getD 1 0 % 5 = 1 := by
          rw [← en]
          exact V.int.inj (of_decide_eq_true h)
        unfold bas
        rw [if_pos q]
        rfl
      · refine ⟨?_, rfl⟩
        have q : ¬ ks.getD 1 0 % 5 = 1 := fun z => h (decide_eq_true (by rw [en]; exact congrArg V.int z))
        unfold bas
        rw [if_neg q]
        rfl
    rintro σ H' ⟨rfl, hH⟩
    rw [hH]
    clear hH H'
    have bb : 2 ≤ bas ks at_ ∧ bas ks at_ ≤ 100 := by
      unfold bas
      split <;> omega
    generalize hbv : bas ks at_ = b at bb
    have kb : nameOf ks at_ = fun k => tx (codes ks b k) := by
      funext k0
      unfold nameOf
      rw [hbv]
    have get : ∀ j : Nat, j ≤ 5 → atI (ks.map V.int) ((b : Int) + (j : Int)) = some (.int (ks.getD (b + j) 0)) := fun j hj => by
      obtain ⟨n, _, h1, h2⟩ := num_in (ks := ks) (i := (b : Int) + (j : Int)) (by omega) (by omega)
      rw [h1, h2, show ((b : Int) + (j : Int)).toNat = b + j by omega]
    have get0 : atI (ks.map V.int) (b : Int) = some (.int (ks.getD b 0)) := by
      have z := get 0 (by omega)
      simpa using z
    have s36 : ("abcdefghijklmnopqrstuvwxyz0123456789" : Str).length ≤ sizeLine := by decide +kernel
    -- prefix
    have w0 := Int.emod_nonneg (ks.getD b 0) (show (26 : Int) ≠ 0 by decide)
    have w1 := Int.emod_lt_of_pos (ks.getD b 0) (show (0 : Int) < 26 by decide)
    refine ⟨_, rfl, _, rfl, _, rfl, p, _, _, _, rfl, rfl, N.at_, get0, .inl ⟨_, rfl, _, _, rfl, rfl, (by show (0 : Int) < 26; decide), _, _, _, rfl, rfl, s36, ch_get w0 (by omega), ?_⟩⟩
    have u0 := Int.emod_nonneg (ks.getD (b + 1) 0) (show (10 : Int) ≠ 0 by decide)
    have u1 := Int.emod_lt_of_pos (ks.getD (b + 1) 0) (show (0 : Int) < 10 by decide)
    refine ⟨_, rfl, _, rfl, _, _, rfl, rfl, p, _, _, _, rfl, rfl, N.at_, get 1 (by omega), .inl ⟨_, rfl, _, _, rfl, rfl, (by show (0 : Int) < 10; decide), _, rfl, by omega, by omega, ?_⟩⟩
    refine for_range (n := (ks.getD (b + 1) 0 % 10).toNat) (fun i σ H' => ∃ v5, σ = [some (.ref p), some (.int (b : Int)), some (.int (m : Int)), some (.str "abcdefghijklmnopqrstuvwxyz0123456789"), some (.str (tx (preN ks b i))), v5, none, none, none, none] ∧ H' = H) ⟨none, rfl, rfl⟩ ?_ ?_
    · rintro i σ H' hi ⟨v5, rfl, hH⟩
      rw [hH]
      have pl : (preN ks b i).length = i + 1 := by
        unfold preN
        rw [List.length_cons, List.length_map, List.length_range]
      refine ⟨_, rfl, _, rfl, _, rfl, _, rfl, _, _, rfl, rfl, p, _, _, _, rfl, rfl, N.at_, get 2 (by omega), _, rfl, _, rfl, _, rfl, _, _, rfl, rfl, p, _, _, _, rfl, rfl, N.at_, get 3 (by omega), _, _, rfl, rfl, .inl ⟨by omega, by omega⟩, _, _, rfl, rfl, .inl ⟨_, rfl, _, _, rfl, rfl, (by show (0 : Int) < 36; decide), _, _, _, rfl, rfl, s36, ch_get (m36 _).1 (m36 _).2, _, _, rfl, rfl, sz_of ?_, ?_⟩⟩
      · rw [tx_len, pl, one_len]
        omega
      · refine ⟨some (.int (0 + (i : Int))), ?_, rfl⟩
        rw [tx_one, tx_add]
        have st : preN ks b (i + 1) = preN ks b i ++ [chAt ((ks.getD (b + 2) 0 + (0 + (i : Int)) * ks.getD (b + 3) 0) % 36)] := by
          unfold preN
          rw [List.range_succ, List.map_append, Int.zero_add]
          rfl
        rw [st]
        rfl
    rintro σ H' ⟨v5, rfl, hH⟩
    rw [hH]
    clear hH H'
    have pl := pre_len ks b
    have pq := plc_le ks b
    have ple : (pre ks b).length ≤ 100000 := by omega
    -- place, shift, names
    refine ⟨_, rfl, _, rfl, _, _, rfl, rfl, p, _, _, _, rfl, rfl, N.at_, get 4 (by omega), .inl ⟨_, rfl, _, rfl, _, rfl, sz_of (by rw [tx_len]; exact ple), _, _, rfl, rfl, by rw [tx_len]; show (((pre ks b).length : Nat) : Int) ≠ 0; omega, _, _, rfl, rfl, ?_⟩⟩
    refine ⟨_, rfl, _, rfl, _, _, rfl, rfl, p, _, _, _, rfl, rfl, N.at_, get 5 (by omega), .inl ⟨_, rfl, ?_⟩⟩
    refine ⟨Nat.zero_le _, fun q hq => ?_⟩
    have eplc : 1 + (ks.getD (b + 4) 0).fmod (((tx (preN ks b (ks.getD (b + 1) 0 % 10).toNat)).length : Nat) : Int) = ((plc ks b : Nat) : Int) := by
      rw [tx_len]
      have p0 : (0 : Int) < (((pre ks b).length : Nat) : Int) := by omega
      have z1 := Int.fmod_nonneg_of_pos (ks.getD (b + 4) 0) p0
      unfold plc
      show 1 + (ks.getD (b + 4) 0).fmod (((pre ks b).length : Nat) : Int) = _
      omega
    refine ⟨_, rfl, _, rfl, by omega, by omega, for_range (n := (m : Int).toNat) (fun i σ H' => ∃ v5 v9, σ = [some (.ref p), some (.int (b : Int)), some (.int (m : Int)), some (.str "abcdefghijklmnopqrstuvwxyz0123456789"), some (.str (tx (pre ks b))), v5, some (.int ((plc ks b : Nat) : Int)), some (.int (ks.getD (b + 5) 0)), some (.ref q), v9] ∧ Ex H H' ∧ H' q = some (.lst ((names ks at_ i).map V.str))) ?_ ?_ ?_⟩
    · refine ⟨v5, none, ?_, Ex.new hq, upd_same⟩
      exact congrArg (fun x : Int => [some (V.ref p), some (V.int (b : Int)), some (V.int (m : Int)), some (V.str "abcdefghijklmnopqrstuvwxyz0123456789"), some (V.str (tx (pre ks b))), v5, some (V.int x), some (V.int (ks.getD (b + 5) 0)), some (V.ref q), none]) eplc
    · rintro i σ H' hi ⟨v5, v9, rfl, e, hL⟩
      refine ⟨by show 2 ≤ sizeLine; decide, fun l hl => ?_⟩
      have e2 : Ex H (upd H' l (.lst [.str "", .str "q"])) := e.trans (Ex.new hl)
      have hL2 : (upd H' l (.lst [.str "", .str "q"])) q = some (.lst ((names ks at_ i).map V.str)) := Ex.new hl _ _ hL
      have tl : atI [V.str "", V.str "q"] (if decide ((36 : Int) ≤ 0 + (i : Int)) = true then 1 else 0) = some (.str (tx (tailN i))) := by
        unfold tailN
        by_cases h : 36 ≤ i
        · rw [if_pos (decide_eq_true (by omega)), if_pos h]
          exact atI_nat (j := 1) rfl
        · rw [if_neg (fun z => h (by have := of_decide_eq_true z; omega)), if_neg h]
          exact atI_nat (j := 0) rfl
      refine ⟨_, rfl, _, _, rfl, rfl, .inr ⟨_, rfl, l, _, _, _, rfl, rfl, SqL.of upd_same, tl, ?_⟩⟩
      generalize upd H' l (.lst [.str "", .str "q"]) = H2 at e2 hL2
      refine ⟨_, rfl, .inl ⟨rfl, _, SqL.of hL2⟩, ?_⟩
      have ls : (tx (pre ks b)).length ≤ sizeLine := sz_of (by rw [tx_len]; exact ple)
      refine ⟨_, rfl, _, rfl, _, rfl, _, rfl, ls, _, rfl, _, rfl, _, rfl, _, _, rfl, rfl, .inl ⟨by decide, by decide⟩, _, _, rfl, rfl, .inl ⟨_, rfl, _, _, rfl, rfl, (by show (0 : Int) < 36; decide), _, _, _, rfl, rfl, s36, ch_get (m36 _).1 (m36 _).2, _, _, rfl, rfl, sz_of ?_, _, rfl, _, _, rfl, rfl, sz_of ?_, _, rfl, _, rfl, _, rfl, _, rfl, ls, _, _, rfl, rfl, sz_of ?_, q, _, _, rfl, rfl, hL2, sz_lt (by rw [List.length_map, names_len]; omega), ?_⟩⟩
      · rw [tx_to, tx_len, one_len, List.length_take]
        omega
      · rw [tx_to, Str.length_append, one_len, tx_len, tx_len, tail_len, List.length_take]
        split <;> omega
      · rw [tx_to, tx_from, Str.length_append, Str.length_append, one_len, tx_len, tx_len, tx_len, tail_len, List.length_take, List.length_drop]
        split <;> omega
      · refine ⟨_, _, rfl, e2.mut hq, ?_⟩
        rw [upd_same, names_more, List.map_append, tx_to, tx_from, tx_one, tx_add, tx_add, tx_add, kb]
        show some (HO.lst (_ ++ [V.str (tx _)])) = some (HO.lst (_ ++ [V.str (tx (codes ks b i))]))
        unfold codes
        rw [Int.zero_add, List.append_assoc, List.append_assoc]
    · rintro σ H' ⟨v5, v9, rfl, e, hL⟩
      exact ⟨_, rfl, k H' q e hq hL⟩
end
end EV

set_option Elab.async false
set_option linter.all false
set_option maxRecDepth 100000
set_option maxHeartbeats 4000000
namespace EV
open PySem PySem.Spec PyProof.Rows L2 EvS Evl
/-! ### a heap without one place -/
def del (H : Hp) (D : Addr) : Hp := fun a => if a = D then none else H a
theorem del_upd {H : Hp} {D : Addr} {o : HO} : del (upd H D o) D = del H D := by
  funext a
  unfold del
  by_cases h : a = D
  · rw [if_pos h, if_pos h]
  · rw [if_neg h, if_neg h, upd_ne h]
theorem del_ex {H : Hp} {D : Addr} : Ex (del H D) H := fun a o h => by
  unfold del at h
  split at h
  · cases h
  · exact h
theorem ex_del {H H' : Hp} {D : Addr} (e : Ex H H') : Ex (del H D) (del H' D) := fun a o h => by
  unfold del at h ⊢
  split at h
  · cases h
  · rename_i n
    rw [if_neg n]
    exact e _ _ h
theorem ex_to_del {H H' : Hp} {D : Addr} (e : Ex H H') (h : H D = none) : Ex H (del H' D) := fun a o q => by
  unfold del
  rw [if_neg (ne_of_none q h)]
  exact e _ _ q
theorem del_at {H : Hp} {D a : Addr} {o : HO} (n : a ≠ D) (h : H a = some o) : del H D a = some o := by
  unfold del
  rw [if_neg n]
  exact h
theorem dps_drop {K : PySem.W.Frag} {H : Hp} : ∀ {vs : List V} {ds : List PyData} (n : Nat), DpAll K H vs ds → DpAll K H (vs.drop n) (ds.drop n)
  | _, _, 0, h => h
  | _, _, _ + 1, .nil => .nil
  | _, _, n + 1, .cons _ r => dps_drop n r
theorem dps_take {K : PySem.W.Frag} {H : Hp} : ∀ {vs : List V} {ds : List PyData} (n : Nat), DpAll K H vs ds → DpAll K H (vs.take n) (ds.take n)
  | _, _, 0, _ => .nil
  | _, _, _ + 1, .nil => .nil
  | _, _, n + 1, .cons h r => .cons h (dps_take n r)
theorem cut_from (xs : List V) (n : Nat) : cutV xs (some (n : Int)) none = xs.drop n := by
  unfold cutV
  rw [HT.sIx_nat, HT.sIx_none]
  rcases Nat.le_total n xs.length with h | h
  · rw [Nat.min_eq_left h, List.take_of_length_le (by rw [List.length_drop]; exact Nat.le_refl _)]
  · rw [Nat.min_eq_right h, List.drop_length, List.drop_eq_nil_of_le h, List.take_nil]
theorem cut_to (xs : List V) (n : Nat) : cutV xs none (some (n : Int)) = xs.take n := by
  unfold cutV
  rw [HT.sIx_nat, HT.sIx_none, List.drop_zero, Nat.sub_zero]
  rcases Nat.le_total n xs.length with h | h
  · rw [Nat.min_eq_left h]
  · rw [Nat.min_eq_right h, List.take_length, List.take_of_length_le h]
/-! ### pairs of places, by their numbers -/
def dIdx (ps : List Str) (q : Nat × Nat) : PyData := .tuple [.str (ps.getD q.1 ""), .str (ps.getD q.2 "")]
theorem getD_in {ps : List Str} {i : Nat} (h : i < ps.length) : ps.getD i "" ∈ ps ∧ ps[i]? = some (ps.getD i "") := by
  rw [List.getD_eq_getElem?_getD, List.getElem?_eq_getElem h]
  exact ⟨List.getElem_mem h, rfl⟩
theorem getD_inj {ps : List Str} (nd : ps.Nodup) {i j : Nat} (hi : i < ps.length) (hj : j < ps.length) (e : ps.getD i "" = ps.getD j "") : i = j := by
  rw [List.getD_eq_getElem?_getD, List.getElem?_eq_getElem hi, List.getD_eq_getElem?_getD, List.getElem?_eq_getElem hj] at e
  rcases Nat.lt_trichotomy i j with h | h | h
  · exact absurd e (List.pairwise_iff_getElem.mp nd i j hi hj h)
  · exact h
  · exact absurd e.symm (List.pairwise_iff_getElem.mp nd j i hj hi h)
theorem idx_ne {ps : List Str} (nd : ps.Nodup) {q r : Nat × Nat} (hq : q.1 < q.2 ∧ q.2 < ps.length) (hr : r.1 < r.2 ∧ r.2 < ps.length) (ne : q ≠ r) : ¬ [ps.getD q.1 "", ps.getD q.2 ""].Perm [ps.getD r.1 "", ps.getD r.2 ""] := fun p => by
  have inj := fun {i j : Nat} (hi : i < ps.length) (hj : j < ps.length) e => getD_inj nd hi hj e
  have h1 : q.1 = r.1 ∨ q.1 = r.2 := by
    have z := p.mem_iff.mp (List.mem_cons_self : ps.getD q.1 "" ∈ _)
    rcases List.mem_cons.mp z with z | z
    · exact .inl (inj (by omega) (by omega) z)
    · exact .inr (inj (by omega) (by omega) (List.mem_singleton.mp z))
  have h2 : q.2 = r.1 ∨ q.2 = r.2 := by
    have z := p.mem_iff.mp (List.mem_cons_of_mem _ (List.mem_singleton.mpr rfl) : ps.getD q.2 "" ∈ [ps.getD q.1 "", ps.getD q.2 ""])
    rcases List.mem_cons.mp z with z | z
    · exact .inl (inj (by omega) (by omega) z)
    · exact .inr (inj (by omega) (by omega) (List.mem_singleton.mp z))
  refine ne (Prod.ext ?_ ?_) <;> omega
theorem idx_apart {ps : List Str} (nd : ps.Nodup) {I : List (Nat × Nat)} : ∀ {pa : List (Str × Str × Int)}, I.Nodup → (∀ q ∈ I, q.1 < q.2 ∧ q.2 < ps.length) → All2 (fun (x : Str × Str × Int) (q : Nat × Nat) => [x.1, x.2.1].Perm [ps.getD q.1 "", ps.getD q.2 ""] ∧ 1 ≤ x.2.2 ∧ x.2.2 ≤ 1000) pa I → (pa.map fun p => (p.1, p.2.1)).Pairwise Apart ∧ ∀ p ∈ pa, PathOk ps p := by
  induction I with
  | nil =>
    intro pa _ _ h
    cases h
    exact ⟨List.Pairwise.nil, fun p hp => by cases hp⟩
  | cons q I ih =>
    intro pa hn hI h
    cases h with
    | @cons x _ xs _ hx r =>
      rw [List.nodup_cons] at hn
      obtain ⟨h1, h2⟩ := ih hn.2 (fun q hq => hI q (List.mem_cons_of_mem _ hq)) r
      have hq := hI q List.mem_cons_self
      refine ⟨?_, fun p hp => ?_⟩
      · rw [List.map_cons, List.pairwise_cons]
        refine ⟨fun y hy pm => ?_, h1⟩
        obtain ⟨z, hz, rfl⟩ := List.mem_map.mp hy
        obtain ⟨i, hi, ei⟩ := List.getElem_of_mem hz
        obtain ⟨r2, hr2, p2⟩ := r.at i (show xs[i]? = some z by rw [List.getElem?_eq_getElem hi, ei])
        have hm := List.mem_of_getElem? hr2
        exact idx_ne nd hq (hI r2 (List.mem_cons_of_mem _ hm)) (fun e => hn.1 (e ▸ hm)) (hx.1.symm.trans (pm.trans p2.1))
      · rcases List.mem_cons.mp hp with rfl | hp
        · have g1 := (getD_in (ps := ps) (i := q.1) (by omega)).1
          have g2 := (getD_in (ps := ps) (i := q.2) (by omega)).1
          have m1 := hx.1.mem_iff.mp (List.mem_cons_self : p.1 ∈ _)
          have m2 := hx.1.mem_iff.mp (List.mem_cons_of_mem _ (List.mem_singleton.mpr rfl) : p.2.1 ∈ [p.1, p.2.1])
          refine ⟨?_, ?_, fun e => ?_, hx.2.1, hx.2.2⟩
          · rcases List.mem_cons.mp m1 with z | z
            · rw [z]; exact g1
            · rw [List.mem_singleton.mp z]; exact g2
          · rcases List.mem_cons.mp m2 with z | z
            · rw [z]; exact g1
            · rw [List.mem_singleton.mp z]; exact g2
          · have z1 := hx.1.symm.mem_iff.mp (List.mem_cons_self : ps.getD q.1 "" ∈ _)
            have z2 := hx.1.symm.mem_iff.mp (List.mem_cons_of_mem _ (List.mem_singleton.mpr rfl) : ps.getD q.2 "" ∈ [ps.getD q.1 "", ps.getD q.2 ""])
            rw [← e] at z1 z2
            have w1 : ps.getD q.1 "" = p.1 := by simpa using z1
            have w2 : ps.getD q.2 "" = p.1 := by simpa using z2
            have := getD_inj nd (by omega) (by omega) (w1.trans w2.symm)
            omega
        · exact h2 p hp
def sp__law_paths (K : PySem.W.Frag) : Sp := fun vs H Q _ => ∃ (p pl : Addr) (ks : List Int) (ps : List Str) (k m : Int), vs = [.ref p, .int k, .ref pl, .int m] ∧ Nums K H p ks ∧ SqL K H pl (ps.map V.str) ∧ Good ps ∧ ps.length ≤ 24 ∧ 0 ≤ k ∧ 0 ≤ m ∧ m ≤ 60 ∧
  ∀ H' q (pa : List (Str × Str × Int)), Ex H H' → H q = none → Dp K H' (.ref q) (.list (pa.map dPath)) → pa.length ≤ 60 → (∀ p ∈ pa, PathOk ps p) → (pa.map fun p => (p.1, p.2.1)).Pairwise Apart → Q (.ref q) H'
section
variable {P : Program} {w : World} {K : PySem.W.Frag} {mg : Str → Option Value} {base : Heap} {a : Ad}
theorem G__law_paths (T : Txt K mg a) : FnOk P w K mg base CX0 2 a.f__law_paths a.d__law_paths ["numbers", "k", "places", "many"] (sp__law_paths K) := by
  refine T.F__law_paths.ok sc__law_paths (fun vs H Q E h => ?_) (fun cdv A outer s H vs Q E hr h => ?_)
  · obtain ⟨p, pl, ks, ps, k0, m, rfl, _⟩ := h
    rfl
  · obtain ⟨p, pl, ks, ps, k0, m, rfl, N, hP, gd, p24, k1, m0, m60, k⟩ := h
    have lp : (ps.map V.str).length = ps.length := List.length_map ..
    refine ⟨_, (pss_cons (ps_set (i := 4) sc__law_paths.nd rfl (Or.inl rfl) (pe_lst pa_nil))
      (pss_cons (ps_for PassesOwn.never rfl (pi_range1 (by rfl) T.z_range (pa_cons (pe_callB call_len_seq (by rfl) T.z_len PySem.boot_len (pa_cons (pv 2) pa_nil)) pa_nil)) (pg_name (i := 5) sc__law_paths.nd rfl (Or.inl rfl)) (pss_one (ps_for PassesOwn.never rfl (pi_list (pe_slice sl_list (pv 2) (po_some (pe_op op_add (pv 5) pe_int)) po_none)) (pg_name (i := 6) sc__law_paths.nd rfl (Or.inl rfl)) (pss_one (ps_expr (pe_bm PySem.F.plainAttrs_list PySem.F.slot_list_append PySem.F.type_list_append mt_append (pv 4) (pa_cons (pe_tup (pa_cons (pe_ix ix_list (pv 2) (pv 5) (fun _ _ => rfl)) (pa_cons (pv 6) pa_nil))) pa_nil)))))))
      (pss_cons (ps_set (i := 7) sc__law_paths.nd rfl (Or.inl rfl) (pe_op op_modN (pe_call (G__law_pick T) (hr.mono (by decide)) (by rfl) T.g__law_pick T.k__law_pick T.B__law_pick .nil pass0 (pa_cons (pv 0) (pa_cons (pv 1) pa_nil))) (pe_callB (call_max2 rfl) (by rfl) T.z_max (by decide +kernel) (pa_cons pe_int (pa_cons (pe_callB call_len_seq (by rfl) T.z_len PySem.boot_len (pa_cons (pv 4) pa_nil)) pa_nil)))))
      (pss_cons (ps_set (i := 4) sc__law_paths.nd rfl (Or.inl rfl) (pe_slice sl_list (pe_op op_cat (pe_slice sl_list (pv 4) (po_some (pv 7)) po_none) (pe_slice sl_list (pv 4) po_none (po_some (pv 7)))) po_none (po_some (pv 3))))
      (pss_cons (ps_set (i := 8) sc__law_paths.nd rfl (Or.inl rfl) (pe_lst pa_nil))
      (pss_cons (ps_for PassesOwn.never rfl (pi_range1 (by rfl) T.z_range (pa_cons (pe_callB call_len_seq (by rfl) T.z_len PySem.boot_len (pa_cons (pv 4) pa_nil)) pa_nil)) (pg_name (i := 5) sc__law_paths.nd rfl (Or.inl rfl)) (pss_cons (ps_asg (pe_ix ix_list (pv 4) (pv 5) (fun _ _ => rfl)) (pg_tup (by rfl) (pgs_cons (pg_name (i := 9) sc__law_paths.nd rfl (Or.inl rfl)) (pgs_cons (pg_name (i := 6) sc__law_paths.nd rfl (Or.inl rfl)) pgs_nil))))
        (pss_cons (ps_if (pt_cmpR op_eq (pe_op op_mod (pe_call (G__law_pick T) (hr.mono (by decide)) (by rfl) T.g__law_pick T.k__law_pick T.B__law_pick .nil pass0 (pa_cons (pv 0) (pa_cons (pe_op op_add (pe_op op_add (pv 1) pe_int) (pv 5)) pa_nil))) pe_int) pe_int (nomark _)) (pss_one (ps_par (i := 9) (j := 6) (by rfl) sc__law_paths.nd rfl rfl (by decide) rfl rfl (pa_cons (pv 6) (pa_cons (pv 9) pa_nil)) (by rfl))) pss_nil)
        (pss_one (ps_expr (pe_bm PySem.F.plainAttrs_list PySem.F.slot_list_append PySem.F.type_list_append mt_append (pv 8) (pa_cons (pe_tup (pa_cons (pv 9) (pa_cons (pv 6) (pa_cons (pe_ix ix_list (pe_lst (pa_cons pe_int (pa_cons pe_int (pa_cons (pe_op op_add pe_int (pe_op op_mod (pe_call (G__law_pick T) (hr.mono (by decide)) (by rfl) T.g__law_pick T.k__law_pick T.B__law_pick .nil pass0 (pa_cons (pv 0) (pa_cons (pe_op op_add (pe_op op_add (pv 1) pe_int) (pv 5)) pa_nil))) pe_int)) pa_nil)))) (pe_op op_mod (pe_call (G__law_pick T) (hr.mono (by decide)) (by rfl) T.g__law_pick T.k__law_pick T.B__law_pick .nil pass0 (pa_cons (pv 0) (pa_cons (pe_op op_add (pe_op op_add (pv 1) pe_int) (pv 5)) pa_nil))) pe_int) (fun _ _ => rfl)) pa_nil)))) pa_nil)))))))
      (pss_one (ps_ret (pv 8))))))))), ?_⟩
    have pat : ∀ {i : Nat}, i < ps.length → atI (ps.map V.str) (0 + (i : Int)) = some (.str (ps.getD i "")) := fun {i} hi => by
      rw [Int.zero_add]
      exact atI_nat (by rw [List.getElem?_map, (getD_in hi).2] <;> rfl)
    refine ⟨Nat.zero_le _, fun D hD => ?_⟩
    refine ⟨_, rfl, pl, _, rfl, .inl (ex_l (Ex.new hD) hP), _, rfl, by omega, by omega, for_range (n := (((ps.map V.str).length : Nat) : Int).toNat) (fun i σ H' => ∃ (vs : List V) (I : List (Nat × Nat)) (v5 v6 : Option V), σ = [some (.ref p), some (.int k0), some (.ref pl), some (.int m), some (.ref D), v5, v6, none, none, none] ∧ Ex H H' ∧ H' D = some (.lst vs) ∧ DpAll K (del H' D) vs (I.map (dIdx ps)) ∧ I.length ≤ 24 * i ∧ I.Nodup ∧ ∀ q ∈ I, q.1 < i ∧ q.1 < q.2 ∧ q.2 < ps.length) ?_ ?_ ?_⟩
    · exact ⟨[], [], none, none, rfl, Ex.new hD, upd_same, .nil, Nat.zero_le _, List.nodup_nil, fun q h => by cases h⟩
    · rintro i σ H1 hi ⟨vs, I, v5, v6, rfl, e1, hV, hd, hl, nd, hI⟩
      have hi' : i < ps.length := by rw [lp] at hi; omega
      refine ⟨_, rfl, _, rfl, _, _, rfl, rfl, _, rfl, pl, _, rfl, ex_l e1 hP, fun q hq => ?_⟩
      have qD : q ≠ D := fun z => by rw [z, hV] at hq; cases hq
      have ce : cutV (ps.map V.str) (some (0 + (i : Int) + 1)) none = (ps.drop (i + 1)).map V.str := by
        rw [show (0 + (i : Int) + 1) = ((i + 1 : Nat) : Int) by omega, cut_from, List.map_drop]
      rw [ce]
      refine ⟨q, rfl, ⟨_, SqL.of upd_same⟩, for_list (K := K) (a := q) (xs := (ps.drop (i + 1)).map V.str) (fun j σ H' => ∃ (vs : List V) (I : List (Nat × Nat)) (v6 : Option V), σ = [some (.ref p), some (.int k0), some (.ref pl), some (.int m), some (.ref D), some (.int (0 + (i : Int))), v6, none, none, none] ∧ Ex H H' ∧ H' q = some (.lst ((ps.drop (i + 1)).map V.str)) ∧ H' D = some (.lst vs) ∧ DpAll K (del H' D) vs (I.map (dIdx ps)) ∧ I.length ≤ 24 * i + j ∧ I.Nodup ∧ ∀ q ∈ I, (q.1 < i ∨ (q.1 = i ∧ q.2 < i + 1 + j)) ∧ q.1 < q.2 ∧ q.2 < ps.length) ?_ ?_ ?_ ?_⟩
      · refine ⟨vs, I, v6, rfl, e1.trans (Ex.new hq), upd_same, Ex.new hq _ _ hV, dps_ex (ex_del (Ex.new hq)) hd, by omega, nd, fun r hr => ?_⟩
        obtain ⟨z1, z2, z3⟩ := hI r hr
        exact ⟨.inl z1, z2, z3⟩
      · rintro j σ H' _ ⟨vs, I, v6, rfl, e, hq2, _⟩
        exact SqL.of hq2
      · rintro j y σ H2 hy ⟨vs, I, v6, rfl, e2, hq2, hV2, hd2, hl2, nd2, hI2⟩
        have hj : i + 1 + j < ps.length := by
          have := (List.getElem?_eq_some_iff.mp hy).1
          rw [List.length_map, List.length_drop] at this
          omega
        have ey : y = .str (ps.getD (i + 1 + j) "") := by
          rw [List.getElem?_map, List.getElem?_drop, (getD_in hj).2] at hy
          exact (Option.some.inj hy).symm
        subst ey
        have vl : vs.length = I.length := by rw [dps_len hd2, List.length_map]
        refine ⟨_, rfl, .inl ⟨rfl, _, SqL.of hV2⟩, _, rfl, _, rfl, pl, _, _, _, rfl, rfl, ex_l e2 hP, pat hi', _, rfl, by show 2 ≤ sizeLine; decide, fun t ht => ?_⟩
        have tD : t ≠ D := fun z => by rw [z, hV2] at ht; cases ht
        refine ⟨D, vs, _, rfl, rfl, Ex.new ht _ _ hV2, sz_lt (by omega), vs ++ [.ref t], I ++ [(i, i + 1 + j)], _, rfl, (e2.trans (Ex.new ht)).mut hD, ?_, upd_same, ?_, by rw [List.length_append, List.length_singleton]; omega, ?_, fun r hr => ?_⟩
        · rw [upd_ne qD]
          exact Ex.new ht _ _ hq2
        · rw [del_upd, List.map_append]
          exact dps_app (dps_ex (ex_del (Ex.new ht)) hd2) (dps_one (.tup (st_of (del_at tD upd_same)) (.cons (.str _) (.cons (.str _) .nil))))
        · refine List.nodup_append.mpr ⟨nd2, List.nodup_cons.mpr ⟨by simp, List.nodup_nil⟩, fun x hx y hy z => ?_⟩
          rw [List.mem_singleton.mp hy] at z
          obtain ⟨h1, _⟩ := hI2 x hx
          rw [z] at h1
          rcases h1 with h1 | h1
          · exact absurd h1 (Nat.lt_irrefl _)
          · exact absurd h1.2 (Nat.lt_irrefl _)
        · rcases List.mem_append.mp hr with z | z
          · obtain ⟨h1, h2⟩ := hI2 r z
            exact ⟨by omega, h2⟩
          · rw [List.mem_singleton.mp z]
            exact ⟨.inr ⟨rfl, Nat.lt_succ_self _⟩, by show i < i + 1 + j; omega, hj⟩
      · rintro σ H2 ⟨vs, I, v6, rfl, e2, hq2, hV2, hd2, hl2, nd2, hI2⟩
        have : ((ps.drop (i + 1)).map V.str).length ≤ 24 := by rw [List.length_map, List.length_drop]; omega
        refine ⟨vs, I, _, _, rfl, e2, hV2, hd2, by omega, nd2, fun r hr => ?_⟩
        obtain ⟨h1, h2⟩ := hI2 r hr
        exact ⟨by omega, h2⟩
    rintro σ H1 ⟨vs, I, v5, v6, rfl, e1, hV, hd, hl, nd, hI⟩
    have vl : vs.length = I.length := by rw [dps_len hd, List.length_map]
    have il : I.length ≤ 576 := by
      have : (((ps.map V.str).length : Nat) : Int).toNat ≤ 24 := by omega
      omega
    -- turn
    refine ⟨_, rfl, _, rfl, p, ks, _, rfl, N.ex e1, k1, fun x x0 => ⟨_, rfl, D, _, rfl, .inl (SqL.of hV), _, _, rfl, _, _, rfl, rfl, by split <;> omega, ?_⟩⟩
    have t0 : 0 ≤ x.fmod (if ((vs.length : Nat) : Int) > 1 then ((vs.length : Nat) : Int) else 1) := Int.fmod_nonneg_of_pos _ (by split <;> omega)
    obtain ⟨t, et⟩ : ∃ t : Nat, x.fmod (if ((vs.length : Nat) : Int) > 1 then ((vs.length : Nat) : Int) else 1) = (t : Int) := ⟨_, (Int.toNat_of_nonneg t0).symm⟩
    -- pairs
    refine ⟨_, rfl, _, rfl, _, rfl, D, _, rfl, SqL.of hV, fun q1 h1 => ?_⟩
    refine ⟨_, rfl, _, rfl, _, rfl, D, _, rfl, SqL.of (Ex.new h1 _ _ hV), fun q2 h2 => ?_⟩
    have c1 := cutV_length vs (some (x.fmod (if ((vs.length : Nat) : Int) > 1 then ((vs.length : Nat) : Int) else 1))) none
    have c2 := cutV_length vs none (some (x.fmod (if ((vs.length : Nat) : Int) > 1 then ((vs.length : Nat) : Int) else 1)))
    refine ⟨q1, q2, _, _, rfl, rfl, Ex.new h2 _ _ upd_same, upd_same, sz_of (by omega), fun q3 h3 => ?_⟩
    refine ⟨_, rfl, _, rfl, q3, _, rfl, SqL.of upd_same, fun q4 h4 => ?_⟩
    obtain ⟨mn, em⟩ : ∃ mn : Nat, m = (mn : Int) := ⟨_, (Int.toNat_of_nonneg m0).symm⟩
    have cc : cutV (cutV vs (some (x.fmod (if ((vs.length : Nat) : Int) > 1 then ((vs.length : Nat) : Int) else 1))) none ++ cutV vs none (some (x.fmod (if ((vs.length : Nat) : Int) > 1 then ((vs.length : Nat) : Int) else 1)))) none (some m) = (vs.drop t ++ vs.take t).take mn := by
      rw [et, cut_from, cut_to, em, cut_to]
    rw [cc]
    have a1 : Ex H1 (upd (upd (upd (upd H1 q1 (.lst (cutV vs (some (x.fmod (if ((vs.length : Nat) : Int) > 1 then ((vs.length : Nat) : Int) else 1))) none))) q2 (.lst (cutV vs none (some (x.fmod (if ((vs.length : Nat) : Int) > 1 then ((vs.length : Nat) : Int) else 1)))))) q3 (.lst (cutV vs (some (x.fmod (if ((vs.length : Nat) : Int) > 1 then ((vs.length : Nat) : Int) else 1))) none ++ cutV vs none (some (x.fmod (if ((vs.length : Nat) : Int) > 1 then ((vs.length : Nat) : Int) else 1)))))) q4 (.lst ((vs.drop t ++ vs.take t).take mn))) := (((Ex.new h1).trans (Ex.new h2)).trans (Ex.new h3)).trans (Ex.new h4)
    have hq4 : (upd (upd (upd (upd H1 q1 (.lst (cutV vs (some (x.fmod (if ((vs.length : Nat) : Int) > 1 then ((vs.length : Nat) : Int) else 1))) none))) q2 (.lst (cutV vs none (some (x.fmod (if ((vs.length : Nat) : Int) > 1 then ((vs.length : Nat) : Int) else 1)))))) q3 (.lst (cutV vs (some (x.fmod (if ((vs.length : Nat) : Int) > 1 then ((vs.length : Nat) : Int) else 1))) none ++ cutV vs none (some (x.fmod (if ((vs.length : Nat) : Int) > 1 then ((vs.length : Nat) : Int) else 1)))))) q4 (.lst ((vs.drop t ++ vs.take t).take mn))) q4 = some (.lst ((vs.drop t ++ vs.take t).take mn)) := upd_same
    generalize (upd (upd (upd (upd H1 q1 (.lst (cutV vs (some (x.fmod (if ((vs.length : Nat) : Int) > 1 then ((vs.length : Nat) : Int) else 1))) none))) q2 (.lst (cutV vs none (some (x.fmod (if ((vs.length : Nat) : Int) > 1 then ((vs.length : Nat) : Int) else 1)))))) q3 (.lst (cutV vs (some (x.fmod (if ((vs.length : Nat) : Int) > 1 then ((vs.length : Nat) : Int) else 1))) none ++ cutV vs none (some (x.fmod (if ((vs.length : Nat) : Int) > 1 then ((vs.length : Nat) : Int) else 1)))))) q4 (.lst ((vs.drop t ++ vs.take t).take mn))) = H5 at a1 hq4
    have e5 : Ex H H5 := e1.trans a1
    have hd5 : DpAll K H5 ((vs.drop t ++ vs.take t).take mn) (((I.drop t ++ I.take t).take mn).map (dIdx ps)) := by
      have z := dps_ex (del_ex.trans a1) hd
      rw [List.map_take, List.map_append, List.map_drop, List.map_take]
      exact dps_take mn (dps_app (dps_drop t z) (dps_take t z))
    have pm : (I.drop t ++ I.take t).Perm I := by
      have z : (I.take t ++ I.drop t).Perm I := by rw [List.take_append_drop]
      exact List.perm_append_comm.trans z
    have ndJ : ((I.drop t ++ I.take t).take mn).Nodup := (pm.nodup_iff.mpr nd).sublist (List.take_sublist _ _)
    have hJ : ∀ q ∈ (I.drop t ++ I.take t).take mn, q.1 < q.2 ∧ q.2 < ps.length := fun q hq => (hI q (pm.mem_iff.mp (List.mem_of_mem_take hq))).2
    have lJ : ((I.drop t ++ I.take t).take mn).length ≤ 60 := by rw [List.length_take]; omega
    generalize (I.drop t ++ I.take t).take mn = J at hd5 ndJ hJ lJ
    generalize (vs.drop t ++ vs.take t).take mn = ys at hq4 hd5
    have yl : ys.length = J.length := by rw [dps_len hd5, List.length_map]
    -- paths
    refine ⟨Nat.zero_le _, fun R hR => ?_⟩
    have hq4' := Ex.new hR (o := .lst []) _ _ hq4
    have q4R : q4 ≠ R := ne_of_none hq4 hR
    refine ⟨_, rfl, q4, _, rfl, .inl (SqL.of hq4'), _, rfl, by omega, by omega, for_range (n := ((ys.length : Nat) : Int).toNat) (fun i σ H' => ∃ (us : List V) (pa : List (Str × Str × Int)) (v5 v6 v9 : Option V), σ = [some (.ref p), some (.int k0), some (.ref pl), some (.int m), some (.ref q4), v5, v6, some (.int (x.fmod (if ((vs.length : Nat) : Int) > 1 then ((vs.length : Nat) : Int) else 1))), some (.ref R), v9] ∧ Ex H5 H' ∧ H' R = some (.lst us) ∧ DpAll K (del H' R) us (pa.map dPath) ∧ All2 (fun (x : Str × Str × Int) (q : Nat × Nat) => [x.1, x.2.1].Perm [ps.getD q.1 "", ps.getD q.2 ""] ∧ 1 ≤ x.2.2 ∧ x.2.2 ≤ 1000) pa (J.take i)) ?_ ?_ ?_⟩
    · exact ⟨[], [], _, _, _, rfl, Ex.new hR, upd_same, .nil, .nil⟩
    · rintro i σ H1 hi ⟨us, pa, v5, v6, v9, rfl, f1, hU, hdU, hA⟩
      have hi' : i < J.length := by omega
      have eJ : J[i]? = some (J[i]'hi') := List.getElem?_eq_getElem hi'
      have hin := hJ _ (List.getElem_mem hi')
      obtain ⟨y, hy⟩ : ∃ y, ys[i]? = some y := ⟨ys[i]'(by omega), List.getElem?_eq_getElem (by omega)⟩
      obtain ⟨d, hd1, hd2⟩ := dps_at (dps_ex f1 hd5) hy
      rw [List.getElem?_map, eJ] at hd1
      obtain rfl := Option.some.inj hd1
      generalize J[i]'hi' = b at eJ hin hd2
      have ul : us.length = i := by rw [dps_len hdU, List.length_map, hA.len, List.length_take]; omega
      unfold dIdx at hd2
      cases hd2 with
      | @tup u _ _ hs hr =>
        cases hr with
        | cons a1 hr =>
          cases a1
          cases hr with
          | cons a2 hr =>
            cases a2
            cases hr
            have N1 := N.ex (e5.trans f1)
            refine ⟨_, rfl, _, rfl, q4, _, _, _, rfl, rfl, SqL.of (f1 _ _ hq4), by rw [Int.zero_add]; exact atI_nat hy, u, _, rfl, hs, rfl, _, _, rfl, _, _, rfl, rfl, ?_⟩
            refine ⟨_, rfl, _, rfl, _, _, rfl, rfl, _, rfl, _, _, rfl, rfl, p, ks, _, rfl, N1, by omega, fun x1 _ => ⟨_, _, rfl, rfl, (by show (0 : Int) < 2; decide), rfl, _, rfl, ?_⟩⟩
            refine ite2 (fun _ => ⟨_, rfl, _, rfl, _, _, rfl, ?_⟩) (fun _ => ?_)
            all_goals
              refine ⟨_, rfl, .inl ⟨rfl, _, SqL.of hU⟩, _, rfl, _, rfl, _, rfl, _, rfl, _, _, rfl, rfl, _, rfl, _, _, rfl, rfl, p, ks, _, rfl, N1, by omega, fun x2 _ => ⟨_, _, rfl, rfl, (by show (0 : Int) < 1000; decide), _, _, rfl, rfl, by show 3 ≤ sizeLine; decide, fun l hl => ?_⟩⟩
              have lR : l ≠ R := fun z => by rw [z, hU] at hl; cases hl
              have f2 := f1.trans (Ex.new (o := .lst [.int 1, .int 1000, .int (1 + x2 % 1000)]) hl)
              have hU2 := Ex.new (o := .lst [.int 1, .int 1000, .int (1 + x2 % 1000)]) hl _ _ hU
              have hd3 := dps_ex (ex_del (D := R) (Ex.new (o := .lst [.int 1, .int 1000, .int (1 + x2 % 1000)]) hl)) hdU
              refine ⟨_, rfl, _, rfl, _, _, rfl, rfl, _, rfl, _, _, rfl, rfl, p, ks, _, rfl, N.ex (e5.trans f2), by omega, fun x3 _ => ⟨_, _, rfl, rfl, (by show (0 : Int) < 3; decide), ?_⟩⟩
              have q1 := Int.emod_nonneg x2 (show (1000 : Int) ≠ 0 by decide)
              have q2 := Int.emod_lt_of_pos x2 (show (0 : Int) < 1000 by decide)
              obtain ⟨fv, hf, cf⟩ := at3 (x := V.int 1) (y := V.int 1000) (z := V.int (1 + x2 % 1000)) (Int.emod_nonneg x3 (show (3 : Int) ≠ 0 by decide)) (Int.emod_lt_of_pos x3 (show (0 : Int) < 3 by decide))
              obtain ⟨f, rfl, g1, g2⟩ : ∃ f : Int, fv = .int f ∧ 1 ≤ f ∧ f ≤ 1000 := by
                rcases cf with c | c | c
                · exact ⟨_, c, by decide, by decide⟩
                · exact ⟨_, c, by decide, by decide⟩
                · exact ⟨_, c, by omega, by omega⟩
              refine ⟨l, _, _, _, rfl, rfl, SqL.of upd_same, hf, by show 3 ≤ sizeLine; decide, fun z hz => ?_⟩
              generalize upd H1 l (.lst [.int 1, .int 1000, .int (1 + x2 % 1000)]) = H2 at f2 hU2 hd3 hz
              have zR : z ≠ R := fun zz => by rw [zz, hU2] at hz; cases hz
              first
                | exact ⟨R, us, _, rfl, rfl, Ex.new hz _ _ hU2, sz_lt (by omega), us ++ [.ref z], pa ++ [(ps.getD b.2 "", ps.getD b.1 "", f)], _, _, _, rfl, (f2.trans (Ex.new hz)).mut hR, upd_same, by
                    rw [del_upd, List.map_append]
                    exact dps_app (dps_ex (ex_del (Ex.new hz)) hd3) (dps_one (.tup (st_of (del_at zR upd_same)) (.cons (.str _) (.cons (.str _) (.cons (.int _) .nil))))), by
                    rw [take_one eJ]
                    exact hA.app (.cons ⟨List.Perm.swap _ _ _, g1, g2⟩ .nil)⟩
                | exact ⟨R, us, _, rfl, rfl, Ex.new hz _ _ hU2, sz_lt (by omega), us ++ [.ref z], pa ++ [(ps.getD b.1 "", ps.getD b.2 "", f)], _, _, _, rfl, (f2.trans (Ex.new hz)).mut hR, upd_same, by
                    rw [del_upd, List.map_append]
                    exact dps_app (dps_ex (ex_del (Ex.new hz)) hd3) (dps_one (.tup (st_of (del_at zR upd_same)) (.cons (.str _) (.cons (.str _) (.cons (.int _) .nil))))), by
                    rw [take_one eJ]
                    exact hA.app (.cons ⟨List.Perm.refl _, g1, g2⟩ .nil)⟩
    · rintro σ H1 ⟨us, pa, v5, v6, v9, rfl, f1, hU, hdU, hA⟩
      have ee : ((ys.length : Nat) : Int).toNat = J.length := by omega
      rw [ee, List.take_length] at hA
      obtain ⟨z1, z2⟩ := idx_apart gd.2 ndJ hJ hA
      exact ⟨_, rfl, k H1 R pa (e5.trans f1) (fresh_back e5 hR) (.lst (SqL.of hU) (dps_ex del_ex hdU)) (by rw [hA.len]; exact lJ) z2 z1⟩
end
end EV

set_option Elab.async false
set_option linter.all false
set_option maxRecDepth 100000
set_option maxHeartbeats 4000000
namespace EV
open PySem PySem.Spec PyProof.Rows L2 EvS Evl
theorem other_ne {o y L : Int} (o0 : 0 ≤ o) (oL : o < L) (y0 : 0 ≤ y) (yL : y < L - 1) : 0 ≤ (o + 1 + y).fmod L ∧ (o + 1 + y).fmod L < L ∧ (o + 1 + y).fmod L ≠ o := by
  rw [Int.fmod_eq_emod_of_nonneg _ (by omega)]
  rcases Int.lt_or_le (o + 1 + y) L with h | h
  · rw [Int.emod_eq_of_lt (by omega) h]
    omega
  · have e : o + 1 + y = (o + 1 + y - L) + L := by omega
    rw [e, Int.add_emod_right, Int.emod_eq_of_lt (by omega) (by omega)]
    omega
def sp__law_parts (K : PySem.W.Frag) : Sp := fun vs H Q _ => ∃ (p : Addr) (ks : List Int), vs = [.ref p] ∧ Nums K H p ks ∧ ∀ H' q D, Ex H H' → H q = none → Dp K H' (.ref q) (dParts D) → LandOk D → Q (.ref q) H'
section
variable {P : Program} {w : World} {K : PySem.W.Frag} {mg : Str → Option Value} {base : Heap} {a : Ad}
theorem G__law_parts (T : Txt K mg a) : FnOk P w K mg base CX0 3 a.f__law_parts a.d__law_parts ["numbers"] (sp__law_parts K) := by
  refine T.F__law_parts.ok sc__law_parts (fun vs H Q E h => ?_) (fun cdv A outer s H vs Q E hr h => ?_)
  · obtain ⟨p, ks, rfl, _⟩ := h
    rfl
  · obtain ⟨p, ks, rfl, N, k⟩ := h
    have lo := N.lo
    refine ⟨_, (pss_cons (ps_set (i := 1) sc__law_parts.nd rfl (Or.inl rfl) (pe_call (G__law_names T) (hr.mono (by decide)) (by rfl) T.g__law_names T.k__law_names T.B__law_names .nil pass0 (pa_cons (pv 0) (pa_cons pe_int (pa_cons (pe_op op_add pe_int (pe_op op_mod (pe_callTy call_int1 (by rfl) T.z_int (by decide +kernel) (pa_cons (pe_ix ix_list (pv 0) pe_int (fun _ _ => rfl)) pa_nil)) pe_int)) pa_nil)))))
      (pss_cons (ps_set (i := 2) sc__law_parts.nd rfl (Or.inl rfl) (pe_call (G__law_names T) (hr.mono (by decide)) (by rfl) T.g__law_names T.k__law_names T.B__law_names .nil pass0 (pa_cons (pv 0) (pa_cons pe_int (pa_cons (pe_call (G__law_count T) (hr.mono (by decide)) (by rfl) T.g__law_count T.k__law_count T.B__law_count .nil pass0 (pa_cons (pe_ix ix_list (pv 0) pe_int (fun _ _ => rfl)) (pa_cons pe_int (pa_cons pe_int pa_nil)))) pa_nil)))))
      (pss_cons (ps_set (i := 3) sc__law_parts.nd rfl (Or.inl rfl) (pe_call (G__law_names T) (hr.mono (by decide)) (by rfl) T.g__law_names T.k__law_names T.B__law_names .nil pass0 (pa_cons (pv 0) (pa_cons pe_int (pa_cons (pe_op op_mul (pe_call (G__law_count T) (hr.mono (by decide)) (by rfl) T.g__law_count T.k__law_count T.B__law_count .nil pass0 (pa_cons (pe_ix ix_list (pv 0) pe_int (fun _ _ => rfl)) (pa_cons pe_int (pa_cons pe_int pa_nil)))) (pe_callTy call_int1 (by rfl) T.z_int (by decide +kernel) (pa_cons (pe_cmpR op_gt (pe_callB call_len_seq (by rfl) T.z_len PySem.boot_len (pa_cons (pv 2) pa_nil)) pe_int (nomark _)) pa_nil))) pa_nil)))))
      (pss_cons (ps_set (i := 4) sc__law_parts.nd rfl (Or.inl rfl) (pe_lst pa_nil))
      (pss_cons (ps_for PassesOwn.never rfl (pi_range1 (by rfl) T.z_range (pa_cons (pe_callB call_len_seq (by rfl) T.z_len PySem.boot_len (pa_cons (pv 3) pa_nil)) pa_nil)) (pg_name (i := 5) sc__law_parts.nd rfl (Or.inl rfl)) (pss_cons (ps_set (i := 6) sc__law_parts.nd rfl (Or.inl rfl) (pe_op op_add pe_int (pe_op op_mul pe_int (pv 5))))
        (pss_cons (ps_set (i := 7) sc__law_parts.nd rfl (Or.inl rfl) (pe_op op_modN (pe_call (G__law_pick T) (hr.mono (by decide)) (by rfl) T.g__law_pick T.k__law_pick T.B__law_pick .nil pass0 (pa_cons (pv 0) (pa_cons (pv 6) pa_nil))) (pe_callB call_len_seq (by rfl) T.z_len PySem.boot_len (pa_cons (pv 2) pa_nil))))
        (pss_cons (ps_set (i := 8) sc__law_parts.nd rfl (Or.inl rfl) (pe_op op_modN (pe_callTy call_int1 (by rfl) T.z_int (by decide +kernel) (pa_cons (pe_op op_add (pe_op op_add (pv 7) pe_int) (pe_op op_modN (pe_call (G__law_pick T) (hr.mono (by decide)) (by rfl) T.g__law_pick T.k__law_pick T.B__law_pick .nil pass0 (pa_cons (pv 0) (pa_cons (pe_op op_add (pv 6) pe_int) pa_nil))) (pe_op op_sub (pe_callB call_len_seq (by rfl) T.z_len PySem.boot_len (pa_cons (pv 2) pa_nil)) pe_int))) pa_nil)) (pe_callB call_len_seq (by rfl) T.z_len PySem.boot_len (pa_cons (pv 2) pa_nil))))
        (pss_one (ps_expr (pe_bm PySem.F.plainAttrs_list PySem.F.slot_list_append PySem.F.type_list_append mt_append (pv 4) (pa_cons (pe_tup (pa_cons (pe_ix ix_list (pv 3) (pv 5) (fun _ _ => rfl)) (pa_cons (pe_ix ix_list (pv 2) (pv 7) (fun _ _ => rfl)) (pa_cons (pe_ix ix_list (pv 2) (pv 8) (fun _ _ => rfl)) (pa_cons (pe_call (G__law_times T) (hr.mono (by decide)) (by rfl) T.g__law_times T.k__law_times T.B__law_times .nil pass0 (pa_cons (pv 0) (pa_cons (pe_op op_add (pv 6) pe_int) (pa_cons (pe_callB call_len_seq (by rfl) T.z_len PySem.boot_len (pa_cons (pv 1) pa_nil)) pa_nil)))) pa_nil))))) pa_nil))))))))
      (pss_one (ps_ret (pe_lst (pa_cons (pv 1) (pa_cons (pv 2) (pa_cons (pv 4) (pa_cons (pe_call (G__law_paths T) (hr.mono (by decide)) (by rfl) T.g__law_paths T.k__law_paths T.B__law_paths .nil pass0 (pa_cons (pv 0) (pa_cons pe_int (pa_cons (pv 2) (pa_cons (pe_call (G__law_count T) (hr.mono (by decide)) (by rfl) T.g__law_count T.k__law_count T.B__law_count .nil pass0 (pa_cons (pe_ix ix_list (pv 0) pe_int (fun _ _ => rfl)) (pa_cons pe_int (pa_cons pe_int pa_nil)))) pa_nil))))) pa_nil)))))))))))), ?_⟩
    obtain ⟨n14, i14, h14, _⟩ := num_in (ks := ks) (i := 14) (by decide) (by omega)
    obtain ⟨n21, i21, h21, _⟩ := num_in (ks := ks) (i := 21) (by decide) (by omega)
    obtain ⟨n28, i28, h28, _⟩ := num_in (ks := ks) (i := 28) (by decide) (by omega)
    obtain ⟨n29, i29, h29, _⟩ := num_in (ks := ks) (i := 29) (by decide) (by omega)
    have sm := N.sm
    -- winds
    have w0 := Int.emod_nonneg n14 (show (4 : Int) ≠ 0 by decide)
    have w4 := Int.emod_lt_of_pos n14 (show (0 : Int) < 4 by decide)
    obtain ⟨m1, em1⟩ : ∃ m1 : Nat, 1 + n14 % 4 = (m1 : Int) := ⟨_, (Int.toNat_of_nonneg (by omega)).symm⟩
    refine ⟨_, rfl, _, rfl, p, _, _, _, rfl, rfl, N.at_, h14, .inl ⟨_, rfl, _, _, rfl, rfl, (by show (0 : Int) < 4; decide), _, _, rfl, rfl, ?_⟩⟩
    refine ⟨p, ks, 8, m1, congrArg (fun x : Int => [V.ref p, .int 8, .int x]) em1, N, by decide, by decide, by omega, fun H1 q1 e1 f1 h1 => ?_⟩
    -- places
    refine ⟨_, rfl, _, rfl, p, _, _, _, rfl, rfl, (N.ex e1).at_, h21, _, 1, 24, rfl, by decide, fun c c1 c24 => ?_⟩
    obtain ⟨m2, em2⟩ : ∃ m2 : Nat, c = (m2 : Int) := ⟨_, (Int.toNat_of_nonneg (by omega)).symm⟩
    refine ⟨p, ks, 15, m2, congrArg (fun x : Int => [V.ref p, .int 15, .int x]) em2, N.ex e1, by decide, by decide, by omega, fun H2 q2 e2 f2 h2 => ?_⟩
    have g2 := e1.trans e2
    have l2 : ((names ks 15 m2).map V.str).length = m2 := by rw [List.length_map, names_len]
    -- names
    refine ⟨_, rfl, _, rfl, p, _, _, _, rfl, rfl, (N.ex g2).at_, h28, _, 0, 60, rfl, by decide, fun d d0 d60 => ?_⟩
    refine ⟨_, rfl, q2, _, rfl, .inl (SqL.of h2), _, _, rfl, rfl, .inr ⟨_, rfl, _, _, rfl, rfl, ?_⟩⟩
    obtain ⟨m3, em3, b3, b31⟩ : ∃ m3 : Nat, d * (if decide ((((names ks 15 m2).map V.str).length : Nat) > (1 : Int)) = true then 1 else 0) = (m3 : Int) ∧ m3 ≤ 60 ∧ (0 < m3 → 1 < m2) := by
      rw [l2]
      by_cases z : ((m2 : Nat) : Int) > 1
      · rw [if_pos (decide_eq_true z)]
        exact ⟨d.toNat, by omega, by omega, fun _ => by omega⟩
      · rw [if_neg (fun y => z (of_decide_eq_true y))]
        exact ⟨0, by omega, by omega, fun y => absurd y (by decide)⟩
    refine ⟨.inl ⟨by omega, by omega⟩, p, ks, 22, m3, congrArg (fun x : Int => [V.ref p, .int 22, .int x]) em3, N.ex g2, by decide, by decide, by omega, fun H3 q3 e3 f3 h3 => ?_⟩
    have g3 := g2.trans e3
    have h13 := e3 _ _ (e2 _ _ h1)
    have h23 := e3 _ _ h2
    have gw := names_good ks 8 (m := m1) (by omega)
    have gp := names_good ks 15 (m := m2) (by omega)
    have gn := names_good ks 22 (m := m3) (by omega)
    have lw := names_len ks 8 m1
    have lp := names_len ks 15 m2
    have ln := names_len ks 22 m3
    generalize names ks 8 m1 = ws at h1 h13 gw lw
    generalize names ks 15 m2 = ps at h2 h23 gp lp l2
    generalize names ks 22 m3 = ns at h3 gn ln
    have pat : ∀ {xs : List Str} {i : Nat} {j : Int}, i < xs.length → j = (i : Int) → atI (xs.map V.str) j = some (.str (xs.getD i "")) := fun {xs i j} hi ej => by
      rw [ej]
      exact atI_nat (by rw [List.getElem?_map, (getD_in hi).2] <;> rfl)
    have l3 : (ns.map V.str).length = m3 := by rw [List.length_map, ln]
    have l1 : (ws.map V.str).length = m1 := by rw [List.length_map, lw]
    -- links
    refine ⟨Nat.zero_le _, fun D hD => ?_⟩
    have start : Ex H3 (upd H3 D (.lst [])) := Ex.new hD
    refine ⟨_, rfl, q3, _, rfl, .inl (SqL.of (start _ _ h3)), _, rfl, by omega, by omega, for_range (n := (((ns.map V.str).length : Nat) : Int).toNat) (fun i σ H' => ∃ (rows : List V) (ls : List Link) (v5 v6 v7 v8 : Option V), σ = [some (.ref p), some (.ref q1), some (.ref q2), some (.ref q3), some (.ref D), v5, v6, v7, v8] ∧ Ex H3 H' ∧ H' D = some (.lst rows) ∧ DpAll K (del H' D) rows (ls.map dRaw) ∧ ls.map (·.n) = ns.take i ∧ ∀ k ∈ ls, LinkOk ws ps k) ?_ ?_ ?_⟩
    · exact ⟨[], [], none, none, none, none, rfl, start, upd_same, .nil, rfl, fun k hk => by cases hk⟩
    · rintro i σ H4 hi ⟨rows, ls, v5, v6, v7, v8, rfl, e4, hR, hd, hn, hok⟩
      have hi3 : i < ns.length := by omega
      have p2 : 1 < m2 := b31 (by omega)
      have N4 := N.ex (g3.trans e4)
      have sq2 := SqL.of (K := K) (e4 _ _ h23)
      have rl : rows.length = i := by
        have z := congrArg List.length hn
        rw [List.length_map, List.length_take] at z
        rw [dps_len hd, List.length_map, z]
        omega
      refine ⟨_, rfl, _, _, rfl, rfl, .inl ⟨by decide, by decide⟩, _, _, rfl, rfl, ?_⟩
      refine ⟨_, rfl, _, rfl, p, ks, _, rfl, N4, by omega, fun x1 x10 => ⟨_, rfl, q2, _, rfl, .inl sq2, _, _, rfl, rfl, by rw [l2]; omega, ?_⟩⟩
      refine ⟨_, rfl, _, _, rfl, rfl, _, rfl, _, rfl, _, _, rfl, rfl, p, ks, _, rfl, N4, by omega, fun x2 x20 => ⟨_, rfl, q2, _, rfl, .inl sq2, _, _, rfl, rfl, _, _, rfl, rfl, by rw [l2]; omega, _, _, rfl, rfl, .inl ⟨_, rfl, _, rfl, q2, _, rfl, .inl sq2, _, _, rfl, rfl, by rw [l2]; omega, ?_⟩⟩⟩
      have o0 := Int.fmod_nonneg_of_pos x1 (b := (((ps.map V.str).length : Nat) : Int)) (by rw [l2]; omega)
      have o1 := Int.fmod_lt_of_pos x1 (b := (((ps.map V.str).length : Nat) : Int)) (by rw [l2]; omega)
      have y0 := Int.fmod_nonneg_of_pos x2 (b := (((ps.map V.str).length : Nat) : Int) - 1) (by rw [l2]; omega)
      have y1 := Int.fmod_lt_of_pos x2 (b := (((ps.map V.str).length : Nat) : Int) - 1) (by rw [l2]; omega)
      obtain ⟨t0, t1, tn⟩ := other_ne o0 o1 y0 y1
      obtain ⟨ia, ea⟩ : ∃ ia : Nat, x1.fmod (((ps.map V.str).length : Nat) : Int) = (ia : Int) := ⟨_, (Int.toNat_of_nonneg o0).symm⟩
      obtain ⟨ib, eb⟩ : ∃ ib : Nat, (x1.fmod (((ps.map V.str).length : Nat) : Int) + 1 + x2.fmod ((((ps.map V.str).length : Nat) : Int) - 1)).fmod (((ps.map V.str).length : Nat) : Int) = (ib : Int) := ⟨_, (Int.toNat_of_nonneg t0).symm⟩
      have ha : ia < ps.length := by omega
      have hb : ib < ps.length := by omega
      have hab : ia ≠ ib := by omega
      refine ⟨_, rfl, .inl ⟨rfl, _, SqL.of hR⟩, _, rfl, _, rfl, q3, _, _, _, rfl, rfl, SqL.of (e4 _ _ h3), pat hi3 (Int.zero_add _), _, rfl, _, rfl, q2, _, _, _, rfl, rfl, sq2, pat ha ea, _, rfl, _, rfl, q2, _, _, _, rfl, rfl, sq2, pat hb eb, ?_⟩
      refine ⟨_, rfl, _, rfl, _, _, rfl, rfl, _, rfl, q1, _, rfl, .inl (SqL.of (e4 _ _ h13)), p, ks, _, _, rfl, N4, by omega, by omega, by rw [l1]; omega, fun H5 u us ts e5 fu hu hdu hlu hok5 => ?_⟩
      refine ⟨by show 4 ≤ sizeLine; decide, fun t ht => ?_⟩
      have uD : u ≠ D := fun z => by rw [z, hR] at fu; cases fu
      have tD : t ≠ D := fun z => by rw [z, e5 _ _ hR] at ht; cases ht
      have e6 := e5.trans (Ex.new (o := .tup [.str (ns.getD i ""), .str (ps.getD ia ""), .str (ps.getD ib ""), .ref u]) ht)
      refine ⟨D, rows, _, rfl, rfl, e6 _ _ hR, sz_lt (by omega), rows ++ [.ref t], ls ++ [⟨ns.getD i "", ps.getD ia "", ps.getD ib "", ts⟩], _, _, _, _, rfl, (e4.trans e6).mut hD, upd_same, ?_, ?_, fun k0 hk => ?_⟩
      · rw [del_upd, List.map_append]
        have us_del : DpAll K (del (upd H5 t (.tup [.str (ns.getD i ""), .str (ps.getD ia ""), .str (ps.getD ib ""), .ref u])) D) us (ts.map dTime) := by
          have z := dps_exT (exT_mut (ys := []) (e6 _ _ hR)) (dps_ex (Ex.new ht) hdu) (frozen_times _)
          refine dps_exT (fun x ys r => ?_) z (frozen_times _)
          rcases r with r | ⟨o, r⟩
          · refine .inl ?_
            have nx : x ≠ D := fun q => by rw [q, upd_same] at r; cases r
            rw [upd_ne nx] at r
            exact del_at nx r
          · refine .inr ⟨o, ?_⟩
            have nx : x ≠ D := fun q => by rw [q, upd_same] at r; cases r
            rw [upd_ne nx] at r
            exact del_at nx r
        refine dps_app (dps_ex (ex_del e6) hd) (dps_one (.tup (st_of (del_at tD upd_same)) (.cons (.str _) (.cons (.str _) (.cons (.str _) (.cons (.lst (SqL.of (del_at uD (Ex.new ht _ _ hu))) us_del) .nil))))))
      · rw [List.map_append, hn, take_one (getD_in hi3).2]
        rfl
      · rcases List.mem_append.mp hk with z | z
        · exact hok k0 z
        · rw [List.mem_singleton.mp z]
          refine ⟨(getD_in ha).1, (getD_in hb).1, fun q => hab (getD_inj gp.2 ha hb q), ?_, hok5⟩
          rw [l1] at hlu
          show ts.length = ws.length
          omega
    · rintro σ H4 ⟨rows, ls, v5, v6, v7, v8, rfl, e4, hR, hd, hn, hok⟩
      have en : (((ns.map V.str).length : Nat) : Int).toNat = ns.length := by omega
      rw [en, List.take_length] at hn
      have ll : ls.length = m3 := by
        have z := congrArg List.length hn
        rw [List.length_map] at z
        omega
      have g4 := g3.trans e4
      refine ⟨_, rfl, _, rfl, _, rfl, _, rfl, _, rfl, _, rfl, p, _, _, _, rfl, rfl, (N.ex g4).at_, h29, _, 0, 60, rfl, by decide, fun c' c0 c60 => ?_⟩
      refine ⟨p, q2, ks, ps, 30, c', rfl, N.ex g4, SqL.of (e4 _ _ h23), gp, by omega, by decide, c0, c60, fun H5 y pa e5 fy hy ly z1 z2 => ?_⟩
      refine ⟨by show 4 ≤ sizeLine; decide, fun r hr => ?_⟩
      have e6 := e5.trans (Ex.new (o := .lst [.ref q1, .ref q2, .ref D, .ref y]) hr)
      refine k _ r ⟨ws, ps, ls, pa⟩ (g4.trans e6) (fresh_back (g4.trans e5) hr) (.lst (SqL.of upd_same) (.cons (.lst (SqL.of (e6 _ _ (e4 _ _ h13))) (dps_str ws)) (.cons (.lst (SqL.of (e6 _ _ (e4 _ _ h23))) (dps_str ps)) (.cons (.lst (SqL.of (e6 _ _ hR)) (dps_ex (del_ex.trans e6) hd)) (.cons (dp_ex (Ex.new hr) hy) .nil))))) ?_
      exact ⟨by show 1 ≤ ws.length; omega, by show ws.length ≤ 4; omega, by show 1 ≤ ps.length; omega, by show ps.length ≤ 24; omega, by show ls.length ≤ 60; omega, ly, gw, gp, by show Good (ls.map (·.n)); rw [hn]; exact gn, hok, z1, z2⟩
end
end EV

set_option Elab.async false
set_option linter.all false
set_option maxRecDepth 100000
set_option maxHeartbeats 4000000
namespace EV
open PySem PySem.Spec PyProof.Rows L2 EvS Evl
/-! ### data that may be compared -/
theorem sign_small : ∀ c ∈ LETS ++ DIGS, c < 1114112 := by decide +kernel
theorem name_strOk {z : Str} (h : isName z = true) : PyData.strOk z = true := by
  unfold isName at h
  rw [Bool.and_eq_true] at h
  unfold PyData.strOk
  rw [Array.all_eq_true_iff_forall_mem]
  intro c hc
  have q := List.all_eq_true.mp h.2 c (Array.mem_toList_iff.mpr hc)
  unfold okSign at q
  rw [Bool.or_eq_true] at q
  refine decide_eq_true (sign_small c ?_)
  rcases q with q | q
  · exact List.mem_append_left _ (of_decide_eq_true q)
  · exact List.mem_append_right _ (of_decide_eq_true q)
theorem lay_of : ∀ {ds : List PyData}, (∀ d ∈ ds, PyData.canLay0 d = true) → PyData.canLayAll0 ds = true
  | [], _ => by simp [PyData.canLayAll0]
  | d :: ds, h => by
    rw [PyData.canLayAll0, h d List.mem_cons_self, lay_of fun x hx => h x (List.mem_cons_of_mem _ hx)]
    rfl
theorem deep_of {n : Nat} : ∀ {ds : List PyData}, (∀ d ∈ ds, PyData.depth d ≤ n) → PyData.depthAll ds ≤ n
  | [], _ => by simp [PyData.depthAll]
  | d :: ds, h => by
    have h1 := h d List.mem_cons_self
    have h2 := deep_of (n := n) (ds := ds) fun x hx => h x (List.mem_cons_of_mem _ hx)
    simp only [PyData.depthAll]
    omega
/-- small data: fit to be laid, and not deep -/
def Sh (n : Nat) (d : PyData) : Prop := PyData.canLay0 d = true ∧ PyData.depth d ≤ n
theorem sh_str {z : Str} {n : Nat} (h : isName z = true) : Sh (n + 1) (.str z) := ⟨by simp only [PyData.canLay0]; exact name_strOk h, by simp only [PyData.depth]; omega⟩
theorem sh_tup {n : Nat} {ds : List PyData} (h : ∀ d ∈ ds, Sh n d) : Sh (n + 1) (.tuple ds) := by
  have := deep_of (n := n) fun d hd => (h d hd).2
  exact ⟨by simp only [PyData.canLay0]; exact lay_of fun d hd => (h d hd).1, by simp only [PyData.depth]; omega⟩
theorem sh_lst {n : Nat} {ds : List PyData} (h : ∀ d ∈ ds, Sh n d) : Sh (n + 1) (.list ds) := by
  have := deep_of (n := n) fun d hd => (h d hd).2
  exact ⟨by simp only [PyData.canLay0]; exact lay_of fun d hd => (h d hd).1, by simp only [PyData.depth]; omega⟩
theorem sh_int (i : Int) (n : Nat) : Sh (n + 1) (.int i) := ⟨by simp only [PyData.canLay0], by simp only [PyData.depth]; omega⟩
theorem sh_up {n m : Nat} {d : PyData} (h : n ≤ m) (q : Sh n d) : Sh m d := ⟨q.1, Nat.le_trans q.2 h⟩
theorem sh_shaped {n : Nat} {d : PyData} (h : Sh n d) (hn : n ≤ 64) : SeqAt.shaped d = true := by
  show (PyData.canLay0 d && decide (PyData.depth d ≤ 64)) = true
  rw [Bool.and_eq_true]
  exact ⟨h.1, decide_eq_true (Nat.le_trans h.2 hn)⟩
theorem sh_time (b : Option (Int × Int)) : Sh 3 (dTime b) := by
  cases b with
  | none => exact ⟨by simp [dTime, PyData.canLay0], by simp [dTime, PyData.depth]⟩
  | some b =>
    refine sh_tup (n := 2) fun d hd => ?_
    rcases List.mem_cons.mp hd with rfl | hd
    · exact sh_int _ _
    · rw [List.mem_singleton.mp hd]
      exact sh_int _ _
theorem sh_strs {ns : List Str} (h : ∀ n ∈ ns, isName n = true) : Sh 6 (.tuple (ns.map .str)) := sh_tup (n := 5) fun d hd => by
  obtain ⟨n, hn, rfl⟩ := List.mem_map.mp hd
  exact sh_str (h n hn)
theorem mem4 {α : Type} {x a b c d : α} (h : x ∈ [a, b, c, d]) : x = a ∨ x = b ∨ x = c ∨ x = d := by simpa using h
theorem sh_link {D : LandD} (ok : LandOk D) {k : Link} (hk : k ∈ D.ls) : Sh 5 (dLink k) := by
  have l := ok.lk k hk
  refine sh_tup (n := 4) fun d hd => ?_
  rcases mem4 hd with rfl | rfl | rfl | rfl
  · exact sh_str (ok.gl.1 _ (List.mem_map.mpr ⟨k, hk, rfl⟩))
  · exact sh_str (ok.gp.1 _ l.o)
  · exact sh_str (ok.gp.1 _ l.t)
  · refine sh_tup (n := 3) fun d hd => ?_
    obtain ⟨b, _, rfl⟩ := List.mem_map.mp hd
    exact sh_time b
theorem sh_path {D : LandD} (ok : LandOk D) {p : Str × Str × Int} (hp : p ∈ D.pa) : Sh 5 (dPath p) := by
  have l := ok.pt p hp
  refine sh_tup (n := 4) fun d hd => ?_
  have q : d = .str p.1 ∨ d = .str p.2.1 ∨ d = .int p.2.2 := by simpa using hd
  rcases q with rfl | rfl | rfl
  · exact sh_str (ok.gp.1 _ l.o)
  · exact sh_str (ok.gp.1 _ l.t)
  · exact sh_int _ _
theorem sh_land {D : LandD} (ok : LandOk D) : Sh 7 (dLand D) := by
  refine sh_tup (n := 6) fun d hd => ?_
  rcases mem4 hd with rfl | rfl | rfl | rfl
  · exact sh_strs ok.gw.1
  · exact sh_strs ok.gp.1
  · refine sh_tup (n := 5) fun d hd => ?_
    obtain ⟨b, hb, rfl⟩ := List.mem_map.mp hd
    exact sh_link ok hb
  · refine sh_tup (n := 5) fun d hd => ?_
    obtain ⟨b, hb, rfl⟩ := List.mem_map.mp hd
    exact sh_path ok hb
theorem shaped_land {D : LandD} (ok : LandOk D) : SeqAt.shaped (dLand D) = true := sh_shaped (sh_land ok) (by decide)
theorem eqv_self {d : PyData} (h : SeqAt.shaped d = true) : PyData.eqv d d = true := SeqAt.eqv_refl _ (SeqAt.canLay_of_shaped h)
/-! ### the parts of a list of parts -/
structure PartsAt (K : PySem.W.Frag) (H : Hp) (p : Addr) (D : LandD) (wi pl li pa : Addr) (rows prs : List V) : Prop where
  ob : SqL K H p [.ref wi, .ref pl, .ref li, .ref pa]
  wi : SqL K H wi (D.ws.map V.str)
  pl : SqL K H pl (D.ps.map V.str)
  li : SqL K H li rows
  ls : DpAll K H rows (D.ls.map dRaw)
  pa : SqL K H pa prs
  ps : DpAll K H prs (D.pa.map dPath)
theorem PartsAt.ex {K : PySem.W.Frag} {H H' : Hp} {p : Addr} {D : LandD} {wi pl li pa : Addr} {rows prs : List V} (e : Ex H H') (h : PartsAt K H p D wi pl li pa rows prs) : PartsAt K H' p D wi pl li pa rows prs :=
  ⟨ex_l e h.ob, ex_l e h.wi, ex_l e h.pl, ex_l e h.li, dps_ex e h.ls, ex_l e h.pa, dps_ex e h.ps⟩
theorem parts_in {K : PySem.W.Frag} {H : Hp} {p : Addr} {D : LandD} (h : Dp K H (.ref p) (dParts D)) : ∃ wi pl li pa rows prs, PartsAt K H p D wi pl li pa rows prs := by
  unfold dParts at h
  cases h with
  | lst hs hr =>
    cases hr with
    | cons a1 hr =>
      cases a1 with
      | lst s1 d1 =>
        cases hr with
        | cons a2 hr =>
          cases a2 with
          | lst s2 d2 =>
            cases hr with
            | cons a3 hr =>
              cases a3 with
              | lst s3 d3 =>
                cases hr with
                | cons a4 hr =>
                  cases a4 with
                  | lst s4 d4 =>
                    cases hr
                    rw [dps_strs d1] at s1
                    rw [dps_strs d2] at s2
                    exact ⟨_, _, _, _, _, _, hs, s1, s2, s3, d3, s4, d4⟩
def sp__law_made (K : PySem.W.Frag) (C : Addr) : Sp := fun vs H Q _ => ∃ (p : Addr) (D : LandD), vs = [.ref p] ∧ Dp K H (.ref p) (dParts D) ∧ LandOk D ∧ ∀ H' x, Ex H H' → H x = none → IsLand K C H' x D → Q (.ref x) H'
def sp__law_frozen (K : PySem.W.Frag) : Sp := fun vs H Q _ => ∃ (p : Addr) (D : LandD), vs = [.ref p] ∧ Dp K H (.ref p) (dParts D) ∧ LandOk D ∧ ∀ H' q, Ex H H' → H q = none → Dp K H' (.ref q) (dLand D) → Q (.ref q) H'
def sp__law_same (K : PySem.W.Frag) (C : Addr) : Sp := fun vs H Q _ => ∃ (x d : Addr) (D : LandD), vs = [.ref x, .ref d] ∧ IsLand K C H x D ∧ Dp K H (.ref d) (dLand D) ∧ LandOk D ∧ ∀ H', Ex H H' → Q (.bl true) H'
section
variable {P : Program} {w : World} {K : PySem.W.Frag} {mg : Str → Option Value} {base : Heap} {a : Ad}
theorem G__law_made (T : Txt K mg a) : FnOk P w K mg base CX0 5 a.f__law_made a.d__law_made ["parts"] (sp__law_made K a.C) := by
  obtain ⟨mv, kb_Land_wplp⟩ := kb_wplp T
  refine T.F__law_made.ok sc__law_made (fun vs H Q E h => ?_) (fun cdv A outer s H vs Q E hr h => ?_)
  · obtain ⟨p, D, rfl, _⟩ := h
    rfl
  · obtain ⟨p, D, rfl, hp, ok, k⟩ := h
    obtain ⟨wi, pl, li, pa, rows, prs, S⟩ := parts_in hp
    refine ⟨_, (pss_one (ps_ret (pe_makeK0 T.mk_Land (G_init T) (hr.mono (by decide)) (by rfl) T.g_Land kb_Land_wplp pass0 (pk_cons (pe_callTy call_lstK (by rfl) T.z_list (by decide +kernel) (pa_cons (pe_ix ix_list (pv 0) pe_int (fun _ _ => rfl)) pa_nil)) (pk_cons (pe_callTy call_lstK (by rfl) T.z_list (by decide +kernel) (pa_cons (pe_ix ix_list (pv 0) pe_int (fun _ _ => rfl)) pa_nil)) (pk_cons (pe_callTy call_lstK (by rfl) T.z_list (by decide +kernel) (pa_cons (pe_ix ix_list (pv 0) pe_int (fun _ _ => rfl)) pa_nil)) (pk_cons (pe_callTy call_lstK (by rfl) T.z_list (by decide +kernel) (pa_cons (pe_ix ix_list (pv 0) pe_int (fun _ _ => rfl)) pa_nil)) pk_nil))))))), ?_⟩
    refine ⟨_, rfl, p, _, _, _, rfl, rfl, S.ob, atI_nat (j := 0) rfl, wi, _, rfl, .inl S.wi, fun l1 h1 => ?_⟩
    have S1 := S.ex (Ex.new (o := .lst (D.ws.map V.str)) h1)
    refine ⟨_, rfl, p, _, _, _, rfl, rfl, S1.ob, atI_nat (j := 1) rfl, pl, _, rfl, .inl S1.pl, fun l2 h2 => ?_⟩
    have S2 := S1.ex (Ex.new (o := .lst (D.ps.map V.str)) h2)
    refine ⟨_, rfl, p, _, _, _, rfl, rfl, S2.ob, atI_nat (j := 2) rfl, li, _, rfl, .inl S2.li, fun l3 h3 => ?_⟩
    have S3 := S2.ex (Ex.new (o := .lst rows) h3)
    refine ⟨_, rfl, p, _, _, _, rfl, rfl, S3.ob, atI_nat (j := 3) rfl, pa, _, rfl, .inl S3.pa, fun l4 h4 => ?_⟩
    have S4 := S3.ex (Ex.new (o := .lst prs) h4)
    have b1 := upd_same (H := H) (a := l1) (o := .lst (D.ws.map V.str))
    have b2 := upd_same (H := upd H l1 (.lst (D.ws.map V.str))) (a := l2) (o := .lst (D.ps.map V.str))
    have b3 := upd_same (H := upd (upd H l1 (.lst (D.ws.map V.str))) l2 (.lst (D.ps.map V.str))) (a := l3) (o := .lst rows)
    have e0 : Ex H (upd (upd (upd (upd H l1 (.lst (D.ws.map V.str))) l2 (.lst (D.ps.map V.str))) l3 (.lst rows)) l4 (.lst prs)) := (((Ex.new h1).trans (Ex.new h2)).trans (Ex.new h3)).trans (Ex.new h4)
    have c1 := Ex.new h4 (o := .lst prs) _ _ (Ex.new h3 (o := .lst rows) _ _ (Ex.new h2 (o := .lst (D.ps.map V.str)) _ _ b1))
    have c2 := Ex.new h4 (o := .lst prs) _ _ (Ex.new h3 (o := .lst rows) _ _ b2)
    have c3 := Ex.new h4 (o := .lst prs) _ _ b3
    have c4 : (upd (upd (upd (upd H l1 (.lst (D.ws.map V.str))) l2 (.lst (D.ps.map V.str))) l3 (.lst rows)) l4 (.lst prs)) l4 = some (.lst prs) := upd_same
    refine ⟨rfl, rfl, fun x dx nx ndx ne => ?_⟩
    exact ⟨_, x, dx, l1, l2, l3, l4, D, rows, prs, rfl, (Ex.new ndx).mut nx, nx, upd_same, .inl (SqL.of c1), .inl (SqL.of c2), .inl (SqL.of c3), all2_dps (f := dRaw) (R := LinkIn K _) (fun v b h => raw_in h) S4.ls, .inl (SqL.of c4), S4.ps, ok, fun H' e hl => ⟨rfl, k H' x (e0.trans e) (fresh_back e0 nx) hl⟩⟩
theorem G__law_frozen (T : Txt K mg a) : FnOk P w K mg base CX0 1 a.f__law_frozen a.d__law_frozen ["parts"] (sp__law_frozen K) := by
  refine T.F__law_frozen.ok sc__law_frozen (fun vs H Q E h => ?_) (fun cdv A outer s H vs Q E hr h => ?_)
  · obtain ⟨p, D, rfl, _⟩ := h
    rfl
  · obtain ⟨p, D, rfl, hp, ok, k⟩ := h
    obtain ⟨wi, pl, li, pa, rows, prs, S⟩ := parts_in hp
    have l60 := ok.l60
    have a60 := ok.a60
    have rl : rows.length = D.ls.length := by rw [dps_len S.ls, List.length_map]
    have al : prs.length = D.pa.length := by rw [dps_len S.ps, List.length_map]
    refine ⟨_, (pss_cons (ps_set (i := 1) sc__law_frozen.nd rfl (Or.inl rfl) (pe_lst pa_nil))
      (pss_cons (ps_for PassesOwn.never rfl (pi_list (pe_ix ix_list (pv 0) pe_int (fun _ _ => rfl))) (pg_tup (by rfl) (pgs_cons (pg_name (i := 2) sc__law_frozen.nd rfl (Or.inl rfl)) (pgs_cons (pg_name (i := 3) sc__law_frozen.nd rfl (Or.inl rfl)) (pgs_cons (pg_name (i := 4) sc__law_frozen.nd rfl (Or.inl rfl)) (pgs_cons (pg_name (i := 5) sc__law_frozen.nd rfl (Or.inl rfl)) pgs_nil))))) (pss_cons (ps_set (i := 6) sc__law_frozen.nd rfl (Or.inl rfl) (pe_lst pa_nil))
        (pss_cons (ps_for PassesOwn.never rfl (pi_list (pv 5)) (pg_name (i := 7) sc__law_frozen.nd rfl (Or.inl rfl)) (pss_cons (ps_if (pt_cmpR op_notN (pv 7) pe_non (nomark _)) (pss_one (ps_set (i := 7) sc__law_frozen.nd rfl (Or.inl rfl) (pe_callTy call_tupK (by rfl) T.z_tuple (by decide +kernel) (pa_cons (pv 7) pa_nil)))) pss_nil)
          (pss_one (ps_expr (pe_bm PySem.F.plainAttrs_list PySem.F.slot_list_append PySem.F.type_list_append mt_append (pv 6) (pa_cons (pv 7) pa_nil))))))
        (pss_one (ps_expr (pe_bm PySem.F.plainAttrs_list PySem.F.slot_list_append PySem.F.type_list_append mt_append (pv 1) (pa_cons (pe_tup (pa_cons (pv 2) (pa_cons (pv 3) (pa_cons (pv 4) (pa_cons (pe_callTy call_tupK (by rfl) T.z_tuple (by decide +kernel) (pa_cons (pv 6) pa_nil)) pa_nil))))) pa_nil)))))))
      (pss_one (ps_ret (pe_tup (pa_cons (pe_callTy call_tupK (by rfl) T.z_tuple (by decide +kernel) (pa_cons (pe_ix ix_list (pv 0) pe_int (fun _ _ => rfl)) pa_nil)) (pa_cons (pe_callTy call_tupK (by rfl) T.z_tuple (by decide +kernel) (pa_cons (pe_ix ix_list (pv 0) pe_int (fun _ _ => rfl)) pa_nil)) (pa_cons (pe_callTy call_tupK (by rfl) T.z_tuple (by decide +kernel) (pa_cons (pv 1) pa_nil)) (pa_cons (pe_callTy call_tupK (by rfl) T.z_tuple (by decide +kernel) (pa_cons (pe_lc (own := [("path", 8)]) (g := gName 8) (tt := tYes) rfl sc__law_frozen.nd (pi_list (pe_ix ix_list (pv 0) pe_int (fun _ _ => rfl))) (blkOk_by (N := ["parts", "links", "name", "one", "other", "times", "found", "pair", "path"]) (sc := defScope s__law_frozen) (by decide +kernel)) (fun _ _ _ _ _ => pg_name (i := 8) sc__law_frozen.nd rfl (Or.inl rfl)) (fun _ _ _ _ _ => pts_nil) (fun _ _ _ _ _ => (pe_callTy (show CallR _ _ (rTupK K) from call_tupK) (by rfl) T.z_tuple (by decide +kernel) (pa_cons (pv 8) pa_nil)))) pa_nil)) pa_nil))))))))), ?_⟩
    refine ⟨Nat.zero_le _, fun L hL => ?_⟩
    have st0 : Ex H (upd H L (.lst [])) := Ex.new hL
    refine ⟨_, rfl, p, _, _, _, rfl, rfl, (S.ex st0).ob, atI_nat (j := 2) rfl, li, rfl, ⟨_, (S.ex st0).li⟩, for_list (K := K) (a := li) (xs := rows) (fun i σ H' => ∃ (made : List V) (v2 v3 v4 v5 v6 v7 : Option V), σ = [some (.ref p), some (.ref L), v2, v3, v4, v5, v6, v7, none] ∧ Ex H H' ∧ H' L = some (.lst made) ∧ made.length = i ∧ DpAll K H' made ((D.ls.take i).map dLink)) ?_ ?_ ?_ ?_⟩
    · exact ⟨[], none, none, none, none, none, none, rfl, st0, upd_same, rfl, .nil⟩
    · rintro i σ H' _ ⟨made, v2, v3, v4, v5, v6, v7, rfl, e, _⟩
      exact (S.ex e).li
    · rintro i y σ H1 hy ⟨made, v2, v3, v4, v5, v6, v7, rfl, e1, hm, hl, hd⟩
      have hil : i < rows.length := (List.getElem?_eq_some_iff.mp hy).1
      have eL : D.ls[i]? = some (D.ls[i]'(by omega)) := List.getElem?_eq_getElem (by omega)
      have hk := List.getElem_mem (l := D.ls) (n := i) (by omega)
      obtain ⟨d, hd1, hd2⟩ := dps_at (S.ex e1).ls hy
      rw [List.getElem?_map, eL] at hd1
      obtain rfl := Option.some.inj hd1
      generalize D.ls[i]'(by omega) = q at eL hk hd2
      have lk := ok.lk q hk
      unfold dRaw at hd2
      cases hd2 with
      | @tup t _ _ hs hr =>
        cases hr with
        | cons a1 hr =>
          cases a1
          cases hr with
          | cons a2 hr =>
            cases a2
            cases hr with
            | cons a3 hr =>
              cases a3
              cases hr with
              | cons a4 hr =>
                cases hr
                cases a4 with
                | @lst u us _ hu hus =>
                  have ul : us.length = q.ts.length := by rw [dps_len hus, List.length_map]
                  have w4 := ok.w4
                  have tl := lk.len
                  refine ⟨t, _, rfl, hs, rfl, _, _, rfl, _, _, rfl, _, _, rfl, _, _, rfl, rfl, ?_⟩
                  refine ⟨Nat.zero_le _, fun F hF => ?_⟩
                  have FL : F ≠ L := fun z => by rw [z, hm] at hF; cases hF
                  refine ⟨_, rfl, u, rfl, ⟨_, ex_l (Ex.new hF) hu⟩, for_list (K := K) (a := u) (xs := us) (fun j σ H' => ∃ (got : List V) (v7 : Option V), σ = [some (.ref p), some (.ref L), some (.str q.n), some (.str q.o), some (.str q.t), some (.ref u), some (.ref F), v7, none] ∧ Ex H1 H' ∧ H' F = some (.lst got) ∧ got.length = j ∧ DpAll K H' got ((q.ts.take j).map dTime)) ?_ ?_ ?_ ?_⟩
                  · exact ⟨[], v7, rfl, Ex.new hF, upd_same, rfl, .nil⟩
                  · rintro j σ H' _ ⟨got, v7, rfl, e, _⟩
                    exact ex_l e hu
                  · rintro j y σ H2 hy ⟨got, v7, rfl, e2, hg, gl, hgd⟩
                    have hju : j < us.length := (List.getElem?_eq_some_iff.mp hy).1
                    have eT : q.ts[j]? = some (q.ts[j]'(by omega)) := List.getElem?_eq_getElem (by omega)
                    obtain ⟨d, hd1, hd2⟩ := dps_at (dps_ex e2 hus) hy
                    rw [List.getElem?_map, eT] at hd1
                    obtain rfl := Option.some.inj hd1
                    generalize q.ts[j]'(by omega) = b at eT hd2
                    have fin : ∃ got', (upd H2 F (.lst (got ++ [y]))) F = some (.lst got') ∧ got'.length = j + 1 ∧ DpAll K (upd H2 F (.lst (got ++ [y]))) got' ((q.ts.take (j + 1)).map dTime) ∧ Ex H1 (upd H2 F (.lst (got ++ [y]))) := by
                      refine ⟨got ++ [y], upd_same, by rw [List.length_append, gl] <;> rfl, ?_, e2.mut hF⟩
                      rw [take_one eT, List.map_append]
                      exact dps_app (dps_exT (exT_mut hg) hgd (frozen_times _)) (dps_one (dp_exT (exT_mut hg) hd2 (frozen_time _)))
                    obtain ⟨got', f1, f2, f3, f4⟩ := fin
                    cases b with
                    | none =>
                      cases hd2
                      refine ⟨_, rfl, rfl, _, rfl, iteNS rfl ?_⟩
                      exact ⟨_, rfl, .inl ⟨rfl, _, SqL.of hg⟩, _, rfl, F, _, _, rfl, rfl, hg, sz_lt (by omega), got', _, rfl, f4, f1, f2, f3⟩
                    | some b =>
                      cases hd2 with
                      | @tup z zs _ hz _ =>
                        refine ⟨_, rfl, rfl, _, rfl, iteT ?_⟩
                        refine ⟨_, rfl, z, _, rfl, .inr ⟨hz, ?_⟩⟩
                        exact ⟨_, rfl, .inl ⟨rfl, _, SqL.of hg⟩, _, rfl, F, _, _, rfl, rfl, hg, sz_lt (by omega), got', _, rfl, f4, f1, f2, f3⟩
                  · rintro σ H2 ⟨got, v7, rfl, e2, hg, gl, hgd⟩
                    rw [ul, List.take_length] at hgd
                    have hm2 := e2 _ _ hm
                    refine ⟨_, rfl, .inl ⟨rfl, _, SqL.of hm2⟩, _, rfl, _, rfl, _, rfl, _, rfl, F, _, rfl, .inl ⟨SqL.of hg, fun z hz => ?_⟩⟩
                    refine ⟨by show 4 ≤ sizeLine; decide, fun y hy2 => ?_⟩
                    have e3 := (Ex.new (o := .tup got) hz).trans (Ex.new (o := .tup [.str q.n, .str q.o, .str q.t, .ref z]) hy2)
                    have hm3 := e3 _ _ hm2
                    refine ⟨L, made, _, rfl, rfl, hm3, sz_lt (by omega), made ++ [.ref y], _, _, _, _, _, _, rfl, (e1.trans (e2.trans e3)).mut hL, upd_same, by rw [List.length_append, hl] <;> rfl, ?_⟩
                    rw [take_one eL, List.map_append]
                    refine dps_exT (exT_mut hm3) (dps_app (dps_ex (e2.trans e3) hd) (dps_one (.tup (st_of upd_same) (.cons (.str _) (.cons (.str _) (.cons (.str _) (.cons (.tup (st_of (Ex.new hy2 _ _ upd_same)) (dps_ex e3 hgd)) .nil))))))) ?_
                    exact frozenAll_of fun d hd => by
                      rcases List.mem_append.mp hd with hd | hd
                      · obtain ⟨b, _, rfl⟩ := List.mem_map.mp hd
                        exact frozen_link b
                      · obtain ⟨b, _, rfl⟩ := List.mem_map.mp hd
                        exact frozen_link b
    · rintro σ H1 ⟨made, v2, v3, v4, v5, v6, v7, rfl, e1, hm, hl, hd⟩
      rw [rl, List.take_length] at hd
      have S1 := S.ex e1
      refine ⟨_, rfl, p, _, _, _, rfl, rfl, S1.ob, atI_nat (j := 0) rfl, wi, _, rfl, .inl ⟨S1.wi, fun t1 h1 => ?_⟩⟩
      have a1 : Ex H1 (upd H1 t1 (.tup (D.ws.map V.str))) := Ex.new h1
      refine ⟨_, rfl, p, _, _, _, rfl, rfl, (S1.ex a1).ob, atI_nat (j := 1) rfl, pl, _, rfl, .inl ⟨(S1.ex a1).pl, fun t2 h2 => ?_⟩⟩
      have b1 : (upd (upd H1 t1 (.tup (D.ws.map V.str))) t2 (.tup (D.ps.map V.str))) t1 = some (.tup (D.ws.map V.str)) := Ex.new h2 _ _ upd_same
      have b2 : (upd (upd H1 t1 (.tup (D.ws.map V.str))) t2 (.tup (D.ps.map V.str))) t2 = some (.tup (D.ps.map V.str)) := upd_same
      have a2 := a1.trans (Ex.new (o := .tup (D.ps.map V.str)) h2)
      generalize upd (upd H1 t1 (.tup (D.ws.map V.str))) t2 (.tup (D.ps.map V.str)) = H2 at a2 b1 b2
      refine ⟨_, rfl, L, _, rfl, .inl ⟨SqL.of (a2 _ _ hm), fun t3 h3 => ?_⟩⟩
      have a3 := a2.trans (Ex.new (o := .tup made) h3)
      have b31 := Ex.new h3 (o := .tup made) _ _ b1
      have b32 := Ex.new h3 (o := .tup made) _ _ b2
      have b33 : (upd H2 t3 (.tup made)) t3 = some (.tup made) := upd_same
      generalize upd H2 t3 (.tup made) = H3 at a3 b31 b32 b33
      have S3 := S1.ex a3
      refine ⟨_, rfl, p, _, _, _, rfl, rfl, S3.ob, atI_nat (j := 3) rfl, pa, rfl, ⟨_, S3.pa⟩, fun D0 hD => lcY_list (K := K) (a := pa) (xs := prs) (fun i H' => Ex H3 H' ∧ ∃ got, H' D0 = some (.lst got) ∧ got.length = i ∧ DpAll K H' got ((D.pa.take i).map dPath)) ?_ ?_ ?_ ?_⟩
      · exact ⟨Ex.new hD, [], upd_same, rfl, .nil⟩
      · rintro i H' _ ⟨e, _⟩
        exact ex_l e S3.pa
      · rintro i y H' hy ⟨e, got, hg, gl, hgd⟩
        have hil : i < prs.length := (List.getElem?_eq_some_iff.mp hy).1
        have eP : D.pa[i]? = some (D.pa[i]'(by omega)) := List.getElem?_eq_getElem (by omega)
        obtain ⟨d, hd1, hd2⟩ := dps_at (dps_ex e S3.ps) hy
        rw [List.getElem?_map, eP] at hd1
        obtain rfl := Option.some.inj hd1
        generalize D.pa[i]'(by omega) = b at eP hd2
        obtain ⟨t, rfl, ht⟩ := path_in hd2
        refine ⟨rfl, _, rfl, t, _, rfl, .inr ⟨ht, got, hg, sz_lt (by omega), e.mut hD, _, upd_same, by rw [List.length_append, gl] <;> rfl, ?_⟩⟩
        rw [take_one eP, List.map_append]
        exact dps_app (dps_exT (exT_mut hg) hgd (frozen_paths _)) (dps_one (dp_exT (exT_mut hg) hd2 (frozen_path _)))
      · rintro H4 ⟨e, got, hg, gl, hgd⟩
        rw [al, List.take_length] at hgd
        refine ⟨D0, got, rfl, .inl ⟨SqL.of hg, fun t4 h4 => ?_⟩⟩
        refine ⟨by show 4 ≤ sizeLine; decide, fun r hr => ?_⟩
        have e4 := e.trans ((Ex.new (o := .tup got) h4).trans (Ex.new (o := .tup [.ref t1, .ref t2, .ref t3, .ref t4]) hr))
        have e5 := (Ex.new (o := .tup got) h4).trans (Ex.new (o := .tup [.ref t1, .ref t2, .ref t3, .ref t4]) hr)
        refine k _ r (e1.trans (a3.trans e4)) (fresh_back (e1.trans (a3.trans (e.trans (Ex.new h4)))) hr) ?_
        exact .tup (st_of upd_same) (.cons (.tup (st_of (e4 _ _ b31)) (dps_str _)) (.cons (.tup (st_of (e4 _ _ b32)) (dps_str _)) (.cons (.tup (st_of (e4 _ _ b33)) (dps_ex (a3.trans e4) hd)) (.cons (.tup (st_of (Ex.new hr _ _ upd_same)) (dps_ex e5 hgd)) .nil))))
theorem G__law_same (T : Txt K mg a) : FnOk P w K mg base CX0 1 a.f__law_same a.d__law_same ["land", "due"] (sp__law_same K a.C) := by
  refine T.F__law_same.ok sc__law_same (fun vs H Q E h => ?_) (fun cdv A outer s H vs Q E hr h => ?_)
  · obtain ⟨x, d, D, rfl, _⟩ := h
    rfl
  · obtain ⟨x, d, D, rfl, hx, hd, ok, k⟩ := h
    obtain ⟨dx, wi, pl, li, pa, rows, prs, L⟩ := hx
    refine ⟨_, (pss_one (ps_ret (pe_cmpR (op_eqD hr.units) (pe_tup (pa_cons (pe_fld (pv 0) rfl) (pa_cons (pe_fld (pv 0) rfl) (pa_cons (pe_fld (pv 0) rfl) (pa_cons (pe_fld (pv 0) rfl) pa_nil))))) (pv 1) (nomark _)))), ?_⟩
    refine ⟨_, rfl, x, a.C, dx, _, _, rfl, L.ob, T.cl, T.nW, fs_winds .., _, rfl, x, a.C, dx, _, _, rfl, L.ob, T.cl, T.nP, fs_places .., _, rfl, x, a.C, dx, _, _, rfl, L.ob, T.cl, T.nL, fs_links .., _, rfl, x, a.C, dx, _, _, rfl, L.ob, T.cl, T.nA, fs_paths .., ?_⟩
    refine ⟨by show 4 ≤ sizeLine; decide, fun t ht => ?_⟩
    have e1 : Ex H (upd H t (.tup [.ref wi, .ref pl, .ref li, .ref pa])) := Ex.new ht
    have dl : Dp K (upd H t (.tup [.ref wi, .ref pl, .ref li, .ref pa])) (.ref t) (dLand D) := .tup (st_of upd_same) (.cons (.tup (ex_t e1 L.wi) (dps_str _)) (.cons (.tup (ex_t e1 L.pl) (dps_str _)) (.cons (.tup (ex_t e1 L.li) (dps_ex e1 L.ls)) (.cons (.tup (ex_t e1 L.pa) (dps_ex e1 L.ps)) .nil))))
    refine ⟨_, rfl, dLand D, dLand D, dl, dp_ex e1 hd, shaped_land ok, shaped_land ok, ?_⟩
    rw [eqv_self (shaped_land ok)]
    exact k _ e1
end
end EV

set_option Elab.async false
set_option linter.all false
set_option maxRecDepth 100000
set_option maxHeartbeats 4000000
namespace EV
open PySem PySem.Spec PyProof.Rows L2 EvS Evl
theorem iteNT {A B : Prop} (h : B) : if (!true) = true then A else B := by
  rw [Bool.not_true, if_neg Bool.false_ne_true]
  exact h
def spLaw (K : PySem.W.Frag) : Sp := fun vs H Q _ => ∃ (p : Addr) (ns : List Int), vs = [.ref p] ∧ SqL K H p (ns.map V.int) ∧ ∀ H', Q (.bl true) H'
/-! ### the parts of what is due -/
structure DueAt (K : PySem.W.Frag) (H : Hp) (p : Addr) (D : LandD) (wi pl li pa : Addr) (rows prs : List V) : Prop where
  ob : SqT K H p [.ref wi, .ref pl, .ref li, .ref pa]
  wi : SqT K H wi (D.ws.map V.str)
  pl : SqT K H pl (D.ps.map V.str)
  li : SqT K H li rows
  ls : DpAll K H rows (D.ls.map dLink)
  pa : SqT K H pa prs
  ps : DpAll K H prs (D.pa.map dPath)
theorem DueAt.ex {K : PySem.W.Frag} {H H' : Hp} {p : Addr} {D : LandD} {wi pl li pa : Addr} {rows prs : List V} (e : Ex H H') (h : DueAt K H p D wi pl li pa rows prs) : DueAt K H' p D wi pl li pa rows prs :=
  ⟨ex_t e h.ob, ex_t e h.wi, ex_t e h.pl, ex_t e h.li, dps_ex e h.ls, ex_t e h.pa, dps_ex e h.ps⟩
theorem due_in {K : PySem.W.Frag} {H : Hp} {p : Addr} {D : LandD} (h : Dp K H (.ref p) (dLand D)) : ∃ wi pl li pa rows prs, DueAt K H p D wi pl li pa rows prs := by
  unfold dLand at h
  cases h with
  | tup hs hr =>
    cases hr with
    | cons a1 hr =>
      cases a1 with
      | tup s1 d1 =>
        cases hr with
        | cons a2 hr =>
          cases a2 with
          | tup s2 d2 =>
            cases hr with
            | cons a3 hr =>
              cases a3 with
              | tup s3 d3 =>
                cases hr with
                | cons a4 hr =>
                  cases a4 with
                  | tup s4 d4 =>
                    cases hr
                    rw [dps_strs d1] at s1
                    rw [dps_strs d2] at s2
                    exact ⟨_, _, _, _, _, _, hs, s1, s2, s3, d3, s4, d4⟩
theorem DueAt.dp {K : PySem.W.Frag} {H : Hp} {p : Addr} {D : LandD} {wi pl li pa : Addr} {rows prs : List V} (h : DueAt K H p D wi pl li pa rows prs) : Dp K H (.ref p) (dLand D) :=
  .tup h.ob (.cons (.tup h.wi (dps_str _)) (.cons (.tup h.pl (dps_str _)) (.cons (.tup h.li h.ls) (.cons (.tup h.pa h.ps) .nil))))
theorem PartsAt.dp {K : PySem.W.Frag} {H : Hp} {p : Addr} {D : LandD} {wi pl li pa : Addr} {rows prs : List V} (h : PartsAt K H p D wi pl li pa rows prs) : Dp K H (.ref p) (dParts D) :=
  .lst h.ob (.cons (.lst h.wi (dps_str _)) (.cons (.lst h.pl (dps_str _)) (.cons (.lst h.li h.ls) (.cons (.lst h.pa h.ps) .nil))))
/-- a land stands while lists change -/
theorem land_mut {K : PySem.W.Frag} {C : Addr} {H : Hp} {x l : Addr} {D : LandD} {xs ys : List V} (h : H l = some (.lst xs)) (q : IsLand K C H x D) : IsLand K C (upd H l (.lst ys)) x D := by
  obtain ⟨dx, wi, pl, li, pa, rows, prs, L⟩ := q
  have e : ExT H (upd H l (.lst ys)) := exT_mut h
  exact ⟨dx, wi, pl, li, pa, rows, prs, by rw [upd_ne (ne_of L.ob h (by intro z; cases z))]; exact L.ob, exT_t e L.wi, exT_t e L.pl, exT_t e L.li, dps_exT e L.ls (frozen_links _), exT_t e L.pa, dps_exT e L.ps (frozen_paths _)⟩
/-- the land without its links and paths -/
def bare (D : LandD) : LandD := ⟨D.ws, D.ps, [], []⟩
theorem bare_ok {D : LandD} (ok : LandOk D) : LandOk (bare D) :=
  ⟨ok.w1, ok.w4, ok.p1, ok.p24, Nat.zero_le _, Nat.zero_le _, ok.gw, ok.gp, ⟨(fun n h => by cases h), List.nodup_nil⟩, (fun k h => by cases h), (fun p h => by cases h), List.Pairwise.nil⟩
/-! ### rows with lists of their own -/
def RowsF (K : PySem.W.Frag) (H0 H : Hp) (made : List V) : Prop := ∀ v ∈ made, ∃ (t u : Addr) (n o s : V) (xs : List V), v = .ref t ∧ SqT K H t [n, o, s, .ref u] ∧ H u = some (.lst xs) ∧ xs.length ≤ 4 ∧ H0 u = none
theorem RowsF.ex {K : PySem.W.Frag} {H0 H H' : Hp} {made : List V} (e : Ex H H') (h : RowsF K H0 H made) : RowsF K H0 H' made := fun v hv => by
  obtain ⟨t, u, n, o, s, xs, h1, h2, h3, h4, h5⟩ := h v hv
  exact ⟨t, u, n, o, s, xs, h1, ex_t e h2, e _ _ h3, h4, h5⟩
/-- what stands while the lists that were handed in are spoilt -/
structure Mut (K : PySem.W.Frag) (C : Addr) (H0 : Hp) (x TT g : Addr) (gs : List Addr) (tv : List V) (D : LandD) (n : Nat) (H : Hp) : Prop where
  e : Ex H0 H
  hl : IsLand K C H x D
  ht : H TT = some (.lst tv)
  hg : H g = some (.lst (gs.map V.ref))
  hgs : ∀ j ∈ gs, (∃ xs, H j = some (.lst xs)) ∧ H0 j = none ∧ j ≠ TT ∧ j ≠ g
  hr : ∀ v ∈ tv, ∃ (u : Addr) (xs : List V), v = .ref u ∧ H u = some (.lst xs) ∧ xs.length ≤ n ∧ H0 u = none ∧ u ≠ TT ∧ u ≠ g
theorem Mut.ex {K : PySem.W.Frag} {C : Addr} {H0 : Hp} {x TT g : Addr} {gs : List Addr} {tv : List V} {D : LandD} {n : Nat} {H H' : Hp} (e : Ex H H') (h : Mut K C H0 x TT g gs tv D n H) : Mut K C H0 x TT g gs tv D n H' := by
  refine ⟨h.e.trans e, h.hl.ex e, e _ _ h.ht, e _ _ h.hg, fun j hj => ?_, fun v hv => ?_⟩
  · obtain ⟨⟨xs, h1⟩, h2⟩ := h.hgs j hj
    exact ⟨⟨xs, e _ _ h1⟩, h2⟩
  · obtain ⟨u, xs, h1, h2, h3⟩ := h.hr v hv
    exact ⟨u, xs, h1, e _ _ h2, h3⟩
theorem Mut.set {K : PySem.W.Frag} {C : Addr} {H0 : Hp} {x TT g u : Addr} {gs : List Addr} {tv xs ys : List V} {D : LandD} {n m : Nat} {H : Hp} (h : Mut K C H0 x TT g gs tv D n H) (hu : H u = some (.lst xs)) (h0 : H0 u = none) (n1 : u ≠ TT) (n2 : u ≠ g) (nm : n ≤ m) (hy : ys.length ≤ m) : Mut K C H0 x TT g gs tv D m (upd H u (.lst ys)) := by
  refine ⟨h.e.mut h0, land_mut hu h.hl, by rw [upd_ne n1.symm]; exact h.ht, by rw [upd_ne n2.symm]; exact h.hg, fun j hj => ?_, fun v hv => ?_⟩
  · obtain ⟨⟨zs, h1⟩, h2⟩ := h.hgs j hj
    refine ⟨?_, h2⟩
    by_cases z : j = u
    · rw [z]
      exact ⟨ys, upd_same⟩
    · exact ⟨zs, by rw [upd_ne z]; exact h1⟩
  · obtain ⟨u2, zs, h1, h2, h3, h4⟩ := h.hr v hv
    by_cases z : u2 = u
    · refine ⟨u2, ys, h1, ?_, hy, h4⟩
      rw [z]
      exact upd_same
    · exact ⟨u2, zs, h1, by rw [upd_ne z]; exact h2, by omega, h4⟩
end EV

set_option Elab.async false
set_option linter.all false
set_option maxRecDepth 100000
set_option maxHeartbeats 4000000
namespace EV
open PySem PySem.Spec PyProof.Rows L2 EvS Evl
/-! ### the text of a land -/
def numS (i : Int) : Str := Str.ofString (toString i)
def wordT : Option (Int × Int) → Str
  | none => "-"
  | some b => numS b.1 ++ "-" ++ numS b.2
def baseL (k : Link) : List Str := ["link", k.n, k.o, k.t]
def lineL (k : Link) : Str := Txt.join " " (baseL k ++ k.ts.map wordT)
def lineP (p : Str × Str × Int) : Str := "path " ++ p.1 ++ " " ++ p.2.1 ++ " " ++ numS p.2.2
def linesOf (D : LandD) : List Str := Txt.join " " ("winds" :: D.ws) :: Txt.join " " ("places" :: D.ps) :: (D.ls.map lineL ++ D.pa.map lineP)
def textOf (D : LandD) : Str := Txt.join "\n" (linesOf D)
theorem lenLe {s : Str} {n : Nat} (h : s.length ≤ n) {m : Nat} (q : n ≤ m) : s.length ≤ m := Nat.le_trans h q
theorem one_le {s : Str} {n : Nat} (h : s.length = n) : s.length ≤ n := Nat.le_of_eq h
theorem log_ok {i : Int} (h1 : 1 ≤ i) (h2 : i ≤ 1000) : i.natAbs.log2 < 1920 := by
  have : i.natAbs < 2 ^ 10 := by omega
  have z := (Nat.log2_lt (n := i.natAbs) (k := 10) (by omega)).mpr this
  omega
theorem numS_len {i : Int} (h1 : 1 ≤ i) (h2 : i ≤ 1000) : (numS i).length ≤ 4 := toString_length_le (by omega) (by decide) (by omega)
theorem len_dash : ("-" : Str).length = 1 := by decide +kernel
theorem len_sp : (" " : Str).length = 1 := by decide +kernel
theorem len_nl : ("\n" : Str).length = 1 := by decide +kernel
theorem len_link : ("link" : Str).length = 4 := by decide +kernel
theorem len_path : ("path " : Str).length = 5 := by decide +kernel
theorem len_winds : ("winds" : Str).length = 5 := by decide +kernel
theorem len_places : ("places" : Str).length = 6 := by decide +kernel
theorem word_len {b : Option (Int × Int)} (h : TimeOk b) : (wordT b).length ≤ 9 := by
  cases b with
  | none => exact Nat.le_trans (one_le len_dash) (by decide)
  | some b =>
    obtain ⟨h1, h2, h3⟩ := h
    have a := numS_len (i := b.1) h1 (by omega)
    have c := numS_len (i := b.2) (by omega) h3
    show (numS b.1 ++ "-" ++ numS b.2).length ≤ 9
    rw [Str.length_append, Str.length_append, len_dash]
    omega
theorem sum_le {B : Nat} : ∀ {ys : List Str}, (∀ y ∈ ys, y.length ≤ B) → (ys.map (·.length)).sum ≤ B * ys.length
  | [], _ => Nat.zero_le _
  | y :: r, h => by
    have h1 := h y List.mem_cons_self
    have h2 := sum_le (B := B) (ys := r) fun x hx => h x (List.mem_cons_of_mem _ hx)
    rw [List.map_cons, List.sum_cons, List.length_cons, Nat.mul_succ]
    omega
theorem tj (sep : Str) (l : List Str) : Txt.join sep l = Str.join sep l := StrLaws.glued_eq_join sep l
theorem sjoin_len {sep : Str} {B : Nat} : ∀ {ys : List Str}, (∀ y ∈ ys, y.length ≤ B) → (Str.join sep ys).length ≤ (B + sep.length) * ys.length
  | [], _ => by
    show (0 : Nat) ≤ _
    exact Nat.zero_le _
  | [y], h => by
    have h1 := h y List.mem_cons_self
    show y.length ≤ (B + sep.length) * 1
    omega
  | y :: z :: r, h => by
    have h1 := h y List.mem_cons_self
    have h2 := sjoin_len (sep := sep) (B := B) (ys := z :: r) fun x hx => h x (List.mem_cons_of_mem _ hx)
    show (y ++ sep ++ Str.join sep (z :: r)).length ≤ (B + sep.length) * ((z :: r).length + 1)
    rw [Str.length_append, Str.length_append, Nat.mul_succ]
    omega
theorem join_len {sep : Str} {B : Nat} {ys : List Str} (h : ∀ y ∈ ys, y.length ≤ B) : (Txt.join sep ys).length ≤ (B + sep.length) * ys.length := by
  rw [tj]
  exact sjoin_len h
/-- what a join of lines asks for -/
theorem join_fits {sep : Str} {B n : Nat} {ys : List Str} (h : ∀ y ∈ ys, y.length ≤ B) (hl : ys.length ≤ n) (hs : sep.length = 1) (q : (B + 1) * n ≤ 16777216) : (ys.map (·.length)).sum + ys.length * sep.length ≤ 16777216 := by
  have z := sum_le h
  have y : (B + 1) * ys.length ≤ (B + 1) * n := Nat.mul_le_mul_left _ hl
  have e : (B + 1) * ys.length = B * ys.length + ys.length := by rw [Nat.add_mul, Nat.one_mul]
  rw [hs, Nat.mul_one]
  omega
theorem join_two (sep a b : Str) (r : List Str) : Txt.join sep (a :: b :: r) = a ++ sep ++ Txt.join sep (b :: r) := by
  rw [tj, tj]
  rfl
theorem join_one (sep a : Str) : Txt.join sep [a] = a := by
  rw [tj]
  rfl
theorem sjoin_add (sep : Str) : ∀ {l : List Str}, l ≠ [] → ∀ a : Str, Str.join sep (l ++ [a]) = Str.join sep l ++ sep ++ a
  | [], h, _ => absurd rfl h
  | [x], _, a => rfl
  | x :: y :: r, _, a => by
    have z := sjoin_add sep (l := y :: r) (by simp) a
    show x ++ sep ++ Str.join sep ((y :: r) ++ [a]) = x ++ sep ++ Str.join sep (y :: r) ++ sep ++ a
    rw [z]
    simp only [Str.append_assoc]
theorem join_add (sep : Str) {l : List Str} (h : l ≠ []) (a : Str) : Txt.join sep (l ++ [a]) = Txt.join sep l ++ sep ++ a := by
  rw [tj, tj]
  exact sjoin_add sep h a
theorem spLink : ("link " : Str) = "link" ++ " " := by decide +kernel
theorem spWinds : ("winds " : Str) = "winds" ++ " " := by decide +kernel
theorem spPlaces : ("places " : Str) = "places" ++ " " := by decide +kernel
theorem spDash : (" -" : Str) = " " ++ "-" := by decide +kernel
theorem first_line {f g : Str} (e : g = f ++ " ") : ∀ {ns : List Str}, 1 ≤ ns.length → g ++ Txt.join " " ns = Txt.join " " (f :: ns)
  | [], h => absurd h (by decide)
  | a :: r, _ => by rw [join_two, e]
theorem base_line (k : Link) : "link " ++ k.n ++ " " ++ k.o ++ " " ++ k.t = Txt.join " " (baseL k) := by
  unfold baseL
  rw [join_two, join_two, join_two, join_one, spLink]
  simp only [Str.append_assoc]
/-- the line of a link, as far as its first j times -/
def upTo (k : Link) (j : Nat) : Str := Txt.join " " (baseL k ++ (k.ts.take j).map wordT)
theorem upTo_zero (k : Link) : upTo k 0 = Txt.join " " (baseL k) := by
  unfold upTo
  rw [List.take_zero, List.map_nil, List.append_nil]
theorem upTo_next {k : Link} {j : Nat} {b : Option (Int × Int)} (h : k.ts[j]? = some b) : upTo k (j + 1) = upTo k j ++ " " ++ wordT b := by
  unfold upTo
  rw [take_one h, List.map_append, ← List.append_assoc]
  exact join_add " " (by simp [baseL]) (wordT b)
theorem upTo_all (k : Link) {j : Nat} (h : j = k.ts.length) : upTo k j = lineL k := by
  unfold upTo lineL
  rw [h, List.take_length]
section
variable {D : LandD}
theorem nlen (ok : LandOk D) : (∀ n ∈ D.ws, n.length ≤ 12) ∧ (∀ n ∈ D.ps, n.length ≤ 12) := ⟨fun n hn => (name_len (ok.gw.1 n hn)).2, fun n hn => (name_len (ok.gp.1 n hn)).2⟩
theorem base_len (ok : LandOk D) {k : Link} (hk : k ∈ D.ls) : ∀ y ∈ baseL k, y.length ≤ 12 := fun y hy => by
  have l := ok.lk k hk
  rcases mem4 hy with rfl | rfl | rfl | rfl
  · exact Nat.le_trans (one_le len_link) (by decide)
  · exact (name_len (ok.gl.1 _ (List.mem_map.mpr ⟨k, hk, rfl⟩))).2
  · exact (nlen ok).2 _ l.o
  · exact (nlen ok).2 _ l.t
theorem part_len (ok : LandOk D) {k : Link} (hk : k ∈ D.ls) : ∀ y ∈ baseL k ++ k.ts.map wordT, y.length ≤ 12 := fun y hy => by
  rcases List.mem_append.mp hy with z | z
  · exact base_len ok hk y z
  · obtain ⟨b, hb, rfl⟩ := List.mem_map.mp z
    exact Nat.le_trans (word_len ((ok.lk k hk).ok b hb)) (by decide)
theorem upTo_len (ok : LandOk D) {k : Link} (hk : k ∈ D.ls) (j : Nat) : (upTo k j).length ≤ 400 := by
  have z := join_len (sep := " ") (B := 12) (ys := baseL k ++ (k.ts.take j).map wordT) fun y hy => by
    refine part_len ok hk y ?_
    rcases List.mem_append.mp hy with q | q
    · exact List.mem_append_left _ q
    · obtain ⟨b, hb, rfl⟩ := List.mem_map.mp q
      exact List.mem_append_right _ (List.mem_map.mpr ⟨b, List.mem_of_mem_take hb, rfl⟩)
  rw [len_sp] at z
  have l1 := (ok.lk k hk).len
  have l2 := ok.w4
  have l3 : (baseL k ++ (k.ts.take j).map wordT).length ≤ 8 := by
    rw [List.length_append, List.length_map, List.length_take]
    show 4 + _ ≤ 8
    omega
  unfold upTo
  have : (12 + 1) * (baseL k ++ (k.ts.take j).map wordT).length ≤ (12 + 1) * 8 := Nat.mul_le_mul_left _ l3
  omega
theorem lineL_len (ok : LandOk D) {k : Link} (hk : k ∈ D.ls) : (lineL k).length ≤ 400 := by
  rw [← upTo_all k rfl]
  exact upTo_len ok hk _
theorem lineP_len (ok : LandOk D) {p : Str × Str × Int} (hp : p ∈ D.pa) : (lineP p).length ≤ 400 := by
  have l := ok.pt p hp
  have h1 := (nlen ok).2 _ l.o
  have h2 := (nlen ok).2 _ l.t
  have h3 := numS_len l.lo l.hi
  unfold lineP
  rw [Str.length_append, Str.length_append, Str.length_append, Str.length_append, Str.length_append, len_sp, len_path]
  omega
theorem lines_len (ok : LandOk D) : ∀ y ∈ linesOf D, y.length ≤ 400 := fun y hy => by
  rcases List.mem_cons.mp hy with rfl | hy
  · have z := join_len (sep := " ") (B := 12) (ys := "winds" :: D.ws) fun y hy => by
      rcases List.mem_cons.mp hy with rfl | hy
      · exact Nat.le_trans (one_le len_winds) (by decide)
      · exact (nlen ok).1 y hy
    have := ok.w4
    rw [len_sp, List.length_cons] at z
    omega
  rcases List.mem_cons.mp hy with rfl | hy
  · have z := join_len (sep := " ") (B := 12) (ys := "places" :: D.ps) fun y hy => by
      rcases List.mem_cons.mp hy with rfl | hy
      · exact Nat.le_trans (one_le len_places) (by decide)
      · exact (nlen ok).2 y hy
    have := ok.p24
    rw [len_sp, List.length_cons] at z
    omega
  rcases List.mem_append.mp hy with hy | hy
  · obtain ⟨k, hk, rfl⟩ := List.mem_map.mp hy
    exact lineL_len ok hk
  · obtain ⟨p, hp, rfl⟩ := List.mem_map.mp hy
    exact lineP_len ok hp
theorem lines_num (ok : LandOk D) : (linesOf D).length ≤ 122 := by
  have := ok.l60
  have := ok.a60
  unfold linesOf
  rw [List.length_cons, List.length_cons, List.length_append, List.length_map, List.length_map]
  omega
theorem text_fits (ok : LandOk D) : ((linesOf D).map (·.length)).sum + (linesOf D).length * ("\n" : Str).length ≤ 16777216 := join_fits (lines_len ok) (lines_num ok) len_nl (by decide)
theorem first_fits {f : Str} {ns : List Str} (hf : f.length ≤ 12) (h : ∀ n ∈ ns, n.length ≤ 12) (l : ns.length ≤ 24) : ((f :: ns).map (·.length)).sum + (f :: ns).length * (" " : Str).length ≤ 16777216 :=
  join_fits (B := 12) (n := 25) (fun y hy => by
    rcases List.mem_cons.mp hy with rfl | hy
    · exact hf
    · exact h y hy) (by rw [List.length_cons]; omega) len_sp (by decide)
theorem link_fits (ok : LandOk D) {k : Link} (hk : k ∈ D.ls) : ((baseL k ++ k.ts.map wordT).map (·.length)).sum + (baseL k ++ k.ts.map wordT).length * (" " : Str).length ≤ 16777216 :=
  join_fits (n := 8) (part_len ok hk) (by
    have l1 := (ok.lk k hk).len
    have l2 := ok.w4
    rw [List.length_append, List.length_map]
    show 4 + _ ≤ 8
    omega) len_sp (by decide)
/-- a land with some of its links -/
def some_ls (D : LandD) (ls : List Link) : LandD := ⟨D.ws, D.ps, ls, D.pa⟩
theorem some_ok (ok : LandOk D) {ls : List Link} (h : ls.Sublist D.ls) : LandOk (some_ls D ls) :=
  ⟨ok.w1, ok.w4, ok.p1, ok.p24, Nat.le_trans h.length_le ok.l60, ok.a60, ok.gw, ok.gp, ⟨fun n hn => ok.gl.1 n ((h.map _).subset hn), ok.gl.2.sublist (h.map _)⟩, fun k hk => ok.lk k (h.subset hk), ok.pt, ok.ap⟩
end
end EV

set_option Elab.async false
set_option linter.all false
set_option maxRecDepth 100000
set_option maxHeartbeats 4000000
namespace EV
open PySem PySem.Spec PyProof.Rows L2 EvS Evl StX
theorem iteNF {A B : Prop} (h : A) : if (!false) = true then A else B := by
  rw [Bool.not_false, if_pos rfl]
  exact h
theorem link_uniq {ls : List Link} (nd : (ls.map (·.n)).Nodup) {b k : Link} (hb : b ∈ ls) (hk : k ∈ ls) (e : b.n = k.n) : b = k := by
  obtain ⟨i, hi, ei⟩ := List.getElem_of_mem hb
  obtain ⟨j, hj, ej⟩ := List.getElem_of_mem hk
  have li : i < (ls.map (·.n)).length := by rw [List.length_map]; exact hi
  have lj : j < (ls.map (·.n)).length := by rw [List.length_map]; exact hj
  have z : (ls.map (·.n))[i] = (ls.map (·.n))[j] := by rw [List.getElem_map, List.getElem_map, ei, ej]; exact e
  rcases Nat.lt_trichotomy i j with h | h | h
  · exact absurd z (List.pairwise_iff_getElem.mp nd i j li lj h)
  · subst h
    exact ei.symm.trans ej
  · exact absurd z.symm (List.pairwise_iff_getElem.mp nd j i lj li h)
theorem eqv_ne {b k : Link} (h : b.n ≠ k.n) : PyData.eqv (dLink b) (dLink k) = false := by
  have z : (b.n == k.n) = false := by
    cases q : (b.n == k.n) with
    | false => rfl
    | true => exact absurd (eq_of_beq q) h
  simp [dLink, PyData.eqv, PyData.eqvAll, z]
theorem fs_link (wi pl li pa : Addr) : (landFs wi pl li pa).lookup ("link" : Str) = none := by
  unfold landFs
  rw [lookup_putF, if_neg (by decide +kernel), lookup_putF, if_neg (by decide +kernel), lookup_putF, if_neg (by decide +kernel), lookup_putF, if_neg (by decide +kernel)]
  rfl
theorem fs_without_link (wi pl li pa : Addr) : (landFs wi pl li pa).lookup ("without_link" : Str) = none := by
  unfold landFs
  rw [lookup_putF, if_neg (by decide +kernel), lookup_putF, if_neg (by decide +kernel), lookup_putF, if_neg (by decide +kernel), lookup_putF, if_neg (by decide +kernel)]
  rfl
def but (k : Link) (ls : List Link) : List Link := ls.filter fun b => !decide (b.n = k.n)
theorem but_sub (k : Link) (ls : List Link) : (but k ls).Sublist ls := List.filter_sublist
def sp_link (K : PySem.W.Frag) (C : Addr) : Sp := fun vs H Q _ => ∃ (x : Addr) (z : Str) (D : LandD) (k : Link), vs = [.ref x, .str z] ∧ IsLand K C H x D ∧ LandOk D ∧ k ∈ D.ls ∧ z = k.n ∧ ∀ t, Dp K H (.ref t) (dLink k) → Q (.ref t) H
def sp_without_link (K : PySem.W.Frag) (C : Addr) : Sp := fun vs H Q _ => ∃ (x : Addr) (z : Str) (D : LandD) (k : Link), vs = [.ref x, .str z] ∧ IsLand K C H x D ∧ LandOk D ∧ k ∈ D.ls ∧ z = k.n ∧ ∀ H' y, Ex H H' → H y = none → IsLand K C H' y (some_ls D (but k D.ls)) → Q (.ref y) H'
def sp__time_word (K : PySem.W.Frag) : Sp := fun vs H Q _ => ∃ (v : V) (b : Option (Int × Int)), vs = [v] ∧ Dp K H v (dTime b) ∧ TimeOk b ∧ Q (.str (wordT b)) H
def sp_format_land (K : PySem.W.Frag) (C : Addr) : Sp := fun vs H Q _ => ∃ (x : Addr) (D : LandD), vs = [.ref x] ∧ IsLand K C H x D ∧ LandOk D ∧ ∀ H', Ex H H' → Q (.str (textOf D)) H'
section
variable {P : Program} {w : World} {K : PySem.W.Frag} {mg : Str → Option Value} {base : Heap} {a : Ad}
theorem G_link (T : Txt K mg a) : FnOk P w K mg base CX0 1 a.f_link a.d_link ["self", "name"] (sp_link K a.C) := by
  refine T.F_link.ok sc_link (fun vs H Q E h => ?_) (fun cdv A outer s H vs Q E hr h => ?_)
  · obtain ⟨x, z, D, k0, rfl, _⟩ := h
    rfl
  · obtain ⟨x, z, D, k0, rfl, hx, ok, hk, rfl, k⟩ := h
    obtain ⟨dx, wi, pl, li, pa, rows, prs, L⟩ := hx
    have rl : rows.length = D.ls.length := by rw [dps_len L.ls, List.length_map]
    obtain ⟨j, hj, ej⟩ := List.getElem_of_mem hk
    refine ⟨_, (pss_cons (ps_for PassesOwn.never rfl (pi_tup (pe_fld (pv 0) rfl)) (pg_name (i := 2) sc_link.nd rfl (Or.inl rfl)) (pss_one (ps_if (pt_cmpR op_eq (pe_ix ix_seq (pv 2) pe_int (fun _ _ => rfl)) (pv 1) (nomark _)) (pss_one (ps_ret (pv 2))) pss_nil)))
      (pss_one ps_any)), ?_⟩
    refine ⟨_, rfl, x, a.C, dx, _, _, rfl, L.ob, T.cl, T.nL, fs_links .., li, rfl, ⟨_, L.li⟩, for_tup (K := K) (a := li) (xs := rows) (fun i σ H' => ∃ v, σ = [some (.ref x), some (.str k0.n), v] ∧ H' = H ∧ i ≤ j) ⟨none, rfl, rfl, Nat.zero_le _⟩ ?_ ?_ ?_⟩
    · rintro i σ H' _ ⟨v, rfl, hH, _⟩
      rw [hH]
      exact L.li
    · rintro i y σ H' hy ⟨v, rfl, hH, hij⟩
      rw [hH]
      have hil : i < rows.length := (List.getElem?_eq_some_iff.mp hy).1
      have eL : D.ls[i]? = some (D.ls[i]'(by omega)) := List.getElem?_eq_getElem (by omega)
      have hm := List.getElem_mem (l := D.ls) (n := i) (by omega)
      obtain ⟨d, hd1, hd2⟩ := dps_at L.ls hy
      rw [List.getElem?_map, eL] at hd1
      obtain rfl := Option.some.inj hd1
      have ne : D.ls[i]'(by omega) ≠ k0 → i < j := fun h => by
        rcases Nat.lt_or_eq_of_le hij with q | q
        · exact q
        · subst q
          exact absurd ej h
      generalize D.ls[i]'(by omega) = b at eL hm hd2 ne
      obtain ⟨t, u, vs, rfl, hT, _, _⟩ := made_in hd2
      refine ⟨_, rfl, .inr (.inl ⟨t, _, _, _, rfl, rfl, hT, atI_nat (j := 0) rfl, _, rfl, rfl, _, rfl, ?_⟩)⟩
      refine ite2 (fun h => ?_) (fun h => ?_)
      · have e : b = k0 := link_uniq ok.gl.2 hm hk (V.str.inj (of_decide_eq_true h))
        rw [e] at hd2
        exact ⟨_, rfl, k t hd2⟩
      · exact ⟨_, rfl, rfl, ne fun e => h (decide_eq_true (by rw [e]))⟩
    · rintro σ H' ⟨v, rfl, hH, hij⟩
      exact absurd hij (by omega)
theorem G__time_word (T : Txt K mg a) : FnOk P w K mg base CX0 1 a.f__time_word a.d__time_word ["bounds"] (sp__time_word K) := by
  refine T.F__time_word.ok sc__time_word (fun vs H Q E h => ?_) (fun cdv A outer s H vs Q E hr h => ?_)
  · obtain ⟨v, b, rfl, _⟩ := h
    rfl
  · obtain ⟨v, b, rfl, hv, hb, k⟩ := h
    refine ⟨_, (pss_cons (ps_if (pt_cmpR op_isN (pv 0) pe_non (nomark _)) (pss_one (ps_ret (pe_gS rfl T.c_SHUT))) pss_nil)
      (pss_cons (ps_asg (pv 0) (pg_tup (by rfl) (pgs_cons (pg_name (i := 1) sc__time_word.nd rfl (Or.inl rfl)) (pgs_cons (pg_name (i := 2) sc__time_word.nd rfl (Or.inl rfl)) pgs_nil))))
      (pss_one (ps_ret (pe_joined (PJ.cons (pe_fmt (pv 1)) (PJ.cons pe_str (PJ.cons (pe_fmt (pv 2)) PJ.nil)))))))), ?_⟩
    cases b with
    | none =>
      cases hv
      exact ⟨_, rfl, rfl, _, rfl, iteT k⟩
    | some b =>
      obtain ⟨lo, hi⟩ := b
      obtain ⟨h1, h2, h3⟩ := hb
      have n1 := numS_len (i := lo) h1 (by omega)
      have n2 := numS_len (i := hi) (by omega) h3
      cases hv with
      | tup hs hr =>
        cases hr with
        | cons a1 hr =>
          cases a1
          cases hr with
          | cons a2 hr =>
            cases a2
            cases hr
            rename_i p
            refine ⟨_, rfl, rfl, _, rfl, iteF ?_⟩
            refine ⟨_, rfl, p, _, rfl, hs, rfl, _, _, rfl, _, _, rfl, rfl, ?_⟩
            have s0 : (Str.empty ++ numS lo) = numS lo := Str.empty_append _
            refine ⟨_, rfl, .inr ⟨lo, rfl, log_ok h1 (by omega), numS lo, rfl, sz_of ?_, ?_⟩⟩
            · rw [s0]
              omega
            rw [s0]
            refine ⟨_, rfl, sz_of ?_, ?_⟩
            · rw [Str.length_append, len_dash]
              omega
            refine ⟨_, rfl, .inr ⟨hi, rfl, log_ok (by omega) h3, numS hi, rfl, sz_of ?_, ?_⟩⟩
            · rw [Str.length_append, Str.length_append, len_dash]
              omega
            · exact k
theorem G_format_land (T : Txt K mg a) : FnOk P w K mg base CX0 2 a.f_format_land a.d_format_land ["land"] (sp_format_land K a.C) := by
  refine T.F_format_land.ok sc_format_land (fun vs H Q E h => ?_) (fun cdv A outer s H vs Q E hr h => ?_)
  · obtain ⟨x, D, rfl, _⟩ := h
    rfl
  · obtain ⟨x, D, rfl, hx, ok, k⟩ := h
    obtain ⟨dx, wi, pl, li, pa, rows, prs, L⟩ := hx
    have rl : rows.length = D.ls.length := by rw [dps_len L.ls, List.length_map]
    have al : prs.length = D.pa.length := by rw [dps_len L.ps, List.length_map]
    have l60 := ok.l60
    have a60 := ok.a60
    have w4 := ok.w4
    have p24 := ok.p24
    have nl := nlen ok
    have ap : ∀ (z : Str) (ns : List Str), (V.str z :: (ns.map V.str ++ [])) = (z :: ns).map V.str := fun z ns => by
      rw [List.append_nil]
      rfl
    have apl : ∀ (z : Str) (ns : List Str), (V.str z :: (ns.map V.str ++ [])).length = ns.length + 1 := fun z ns => by rw [ap, List.length_map, List.length_cons]
    refine ⟨_, (pss_cons (ps_set (i := 1) sc_format_land.nd rfl (Or.inl rfl) (pe_lst (pa_cons (pe_join pe_str (pe_lst (pa_cons pe_str (pa_star (pe_fld (pv 0) rfl) pa_nil)))) (pa_cons (pe_join pe_str (pe_lst (pa_cons pe_str (pa_star (pe_fld (pv 0) rfl) pa_nil)))) pa_nil))))
      (pss_cons (ps_for PassesOwn.never rfl (pi_tup (pe_fld (pv 0) rfl)) (pg_tup (by rfl) (pgs_cons (pg_name (i := 2) sc_format_land.nd rfl (Or.inl rfl)) (pgs_cons (pg_name (i := 3) sc_format_land.nd rfl (Or.inl rfl)) (pgs_cons (pg_name (i := 4) sc_format_land.nd rfl (Or.inl rfl)) (pgs_cons (pg_name (i := 5) sc_format_land.nd rfl (Or.inl rfl)) pgs_nil))))) (pss_cons (ps_set (i := 6) sc_format_land.nd rfl (Or.inl rfl) (pe_op op_cat (pe_lst (pa_cons pe_str (pa_cons (pv 2) (pa_cons (pv 3) (pa_cons (pv 4) pa_nil))))) (pe_lc (own := [("bounds", 8)]) (g := gName 8) (tt := tYes) rfl sc_format_land.nd (pi_tup (pv 5)) (blkOk_by (N := ["land", "lines", "name", "one", "other", "times", "words", "minutes", "bounds"]) (sc := defScope s_format_land) (by decide +kernel)) (fun _ _ _ _ _ => pg_name (i := 8) sc_format_land.nd rfl (Or.inl rfl)) (fun _ _ _ _ _ => pts_nil) (fun _ _ _ _ _ => (pe_call (G__time_word T) (hr.mono (by decide)) (by rfl) T.g__time_word T.k__time_word T.B__time_word .nil pass0 (pa_cons (pv 8) pa_nil))))))
        (pss_one (ps_expr (pe_bm PySem.F.plainAttrs_list PySem.F.slot_list_append PySem.F.type_list_append mt_append (pv 1) (pa_cons (pe_join pe_str (pv 6)) pa_nil))))))
      (pss_cons (ps_for PassesOwn.never rfl (pi_tup (pe_fld (pv 0) rfl)) (pg_tup (by rfl) (pgs_cons (pg_name (i := 3) sc_format_land.nd rfl (Or.inl rfl)) (pgs_cons (pg_name (i := 4) sc_format_land.nd rfl (Or.inl rfl)) (pgs_cons (pg_name (i := 7) sc_format_land.nd rfl (Or.inl rfl)) pgs_nil)))) (pss_one (ps_expr (pe_bm PySem.F.plainAttrs_list PySem.F.slot_list_append PySem.F.type_list_append mt_append (pv 1) (pa_cons (pe_joined (PJ.cons pe_str (PJ.cons (pe_fmt (pv 3)) (PJ.cons pe_str (PJ.cons (pe_fmt (pv 4)) (PJ.cons pe_str (PJ.cons (pe_fmt (pv 7)) PJ.nil))))))) pa_nil)))))
      (pss_one (ps_ret (pe_join pe_str (pv 1))))))), ?_⟩
    refine ⟨⟨_, rfl⟩, _, rfl, x, a.C, dx, _, _, rfl, L.ob, T.cl, T.nW, fs_winds .., wi, _, rfl, .inl L.wi, sz_of (by rw [apl]; omega), fun l1 h1 => ?_⟩
    have a1 : Ex H (upd H l1 (.lst (V.str "winds" :: (D.ws.map V.str ++ [])))) := Ex.new h1
    refine ⟨" ", l1, "winds" :: D.ws, rfl, rfl, .inl (by rw [← ap]; exact SqL.of upd_same), first_fits (by rw [len_winds]; decide) nl.1 (by omega), ?_⟩
    refine ⟨⟨_, rfl⟩, _, rfl, x, a.C, dx, _, _, rfl, a1 _ _ L.ob, T.cl, T.nP, fs_places .., pl, _, rfl, .inl (ex_t a1 L.pl), sz_of (by rw [apl]; omega), fun l2 h2 => ?_⟩
    have a2 := a1.trans (Ex.new (o := .lst (V.str "places" :: (D.ps.map V.str ++ []))) h2)
    refine ⟨" ", l2, "places" :: D.ps, rfl, rfl, .inl (by rw [← ap]; exact SqL.of upd_same), first_fits (by rw [len_places]; decide) nl.2 (by omega), ?_⟩
    refine ⟨by show 2 ≤ sizeLine; decide, fun l hl => ?_⟩
    have a3 := a2.trans (Ex.new (o := .lst [.str (Txt.join " " ("winds" :: D.ws)), .str (Txt.join " " ("places" :: D.ps))]) hl)
    have hl0 := fresh_back a2 hl
    have m3 : (upd (upd (upd H l1 (.lst (V.str "winds" :: (D.ws.map V.str ++ [])))) l2 (.lst (V.str "places" :: (D.ps.map V.str ++ [])))) l (.lst [.str (Txt.join " " ("winds" :: D.ws)), .str (Txt.join " " ("places" :: D.ps))])) l = some (.lst ([Txt.join " " ("winds" :: D.ws), Txt.join " " ("places" :: D.ps)].map V.str)) := upd_same
    generalize upd (upd (upd H l1 (.lst (V.str "winds" :: (D.ws.map V.str ++ [])))) l2 (.lst (V.str "places" :: (D.ps.map V.str ++ [])))) l (.lst [.str (Txt.join " " ("winds" :: D.ws)), .str (Txt.join " " ("places" :: D.ps))]) = H3 at a3 m3
    -- the links
    refine ⟨_, rfl, x, a.C, dx, _, _, rfl, a3 _ _ L.ob, T.cl, T.nL, fs_links .., li, rfl, ⟨_, ex_t a3 L.li⟩, for_tup (K := K) (a := li) (xs := rows) (fun i σ H' => ∃ (v2 v3 v4 v5 v6 v7 : Option V), σ = [some (.ref x), some (.ref l), v2, v3, v4, v5, v6, v7, none] ∧ Ex H H' ∧ H' l = some (.lst ((Txt.join " " ("winds" :: D.ws) :: Txt.join " " ("places" :: D.ps) :: (D.ls.take i).map lineL).map V.str))) ?_ ?_ ?_ ?_⟩
    · exact ⟨none, none, none, none, none, none, rfl, a3, m3⟩
    · rintro i σ H' _ ⟨v2, v3, v4, v5, v6, v7, rfl, e, _⟩
      exact ex_t e L.li
    · rintro i y σ H1 hy ⟨v2, v3, v4, v5, v6, v7, rfl, e1, hm⟩
      have hil : i < rows.length := (List.getElem?_eq_some_iff.mp hy).1
      have eL : D.ls[i]? = some (D.ls[i]'(by omega)) := List.getElem?_eq_getElem (by omega)
      have hk := List.getElem_mem (l := D.ls) (n := i) (by omega)
      obtain ⟨d, hd1, hd2⟩ := dps_at (dps_ex e1 L.ls) hy
      rw [List.getElem?_map, eL] at hd1
      obtain rfl := Option.some.inj hd1
      generalize D.ls[i]'(by omega) = q at eL hk hd2
      have lk := ok.lk q hk
      unfold dLink at hd2
      cases hd2 with
      | @tup t _ _ hs hr =>
        cases hr with
        | cons a1 hr =>
          cases a1
          cases hr with
          | cons a2 hr =>
            cases a2
            cases hr with
            | cons a3 hr =>
              cases a3
              cases hr with
              | cons a4 hr =>
                cases hr
                cases a4 with
                | @tup u us _ hu hus =>
                  have ul : us.length = q.ts.length := by rw [dps_len hus, List.length_map]
                  have tl := lk.len
                  refine ⟨t, _, rfl, hs, rfl, _, _, rfl, _, _, rfl, _, _, rfl, _, _, rfl, rfl, ?_⟩
                  refine ⟨_, rfl, _, rfl, _, rfl, by show 4 ≤ sizeLine; decide, fun w1 hw1 => ?_⟩
                  have b1 := Ex.new (o := .lst [.str "link", .str q.n, .str q.o, .str q.t]) hw1
                  have mw1 : (upd H1 w1 (.lst [.str "link", .str q.n, .str q.o, .str q.t])) w1 = some (.lst ((baseL q).map V.str)) := upd_same
                  generalize upd H1 w1 (.lst [.str "link", .str q.n, .str q.o, .str q.t]) = H2 at b1 mw1
                  refine ⟨_, rfl, u, rfl, ⟨_, ex_t b1 hu⟩, fun D0 hD => lcY_tup (K := K) (a := u) (xs := us) (fun j H' => Ex H2 H' ∧ H' D0 = some (.lst (((q.ts.take j).map wordT).map V.str))) ?_ ?_ ?_ ?_⟩
                  · exact ⟨Ex.new hD, upd_same⟩
                  · rintro j H' _ ⟨e, _⟩
                    exact ex_t (b1.trans e) hu
                  · rintro j y H' hy ⟨e, hg⟩
                    have hju : j < us.length := (List.getElem?_eq_some_iff.mp hy).1
                    have eT : q.ts[j]? = some (q.ts[j]'(by omega)) := List.getElem?_eq_getElem (by omega)
                    have hb := List.getElem_mem (l := q.ts) (n := j) (by omega)
                    obtain ⟨d, hd1, hd2⟩ := dps_at (dps_ex (b1.trans e) hus) hy
                    rw [List.getElem?_map, eT] at hd1
                    obtain rfl := Option.some.inj hd1
                    generalize q.ts[j]'(by omega) = b at eT hb hd2
                    refine ⟨rfl, _, rfl, y, b, rfl, hd2, lk.ok b hb, _, hg, sz_lt (by rw [List.length_map, List.length_map, List.length_take]; omega), e.mut hD, ?_⟩
                    rw [upd_same, take_one eT, List.map_append, List.map_append]
                    rfl
                  · rintro H4 ⟨e, hg⟩
                    rw [ul, List.take_length] at hg
                    have e14 := b1.trans e
                    refine ⟨w1, D0, _, _, rfl, rfl, e _ _ mw1, hg, sz_of (by rw [List.length_map, List.length_map, List.length_map]; show 4 + _ ≤ _; omega), fun w hw => ?_⟩
                    rw [← List.map_append]
                    have e15 := e14.trans (Ex.new (o := .lst ((baseL q ++ q.ts.map wordT).map V.str)) hw)
                    have hm5 := e15 _ _ hm
                    refine ⟨_, rfl, .inl ⟨rfl, _, SqL.of hm5⟩, ⟨_, rfl⟩, _, rfl, " ", w, baseL q ++ q.ts.map wordT, rfl, rfl, .inl (SqL.of upd_same), link_fits ok hk, l, _, _, rfl, rfl, hm5, sz_lt (by rw [List.length_map, List.length_cons, List.length_cons, List.length_map, List.length_take]; omega), _, _, _, _, _, _, rfl, (e1.trans e15).mut hl0, ?_⟩
                    rw [upd_same, take_one eL, List.map_append]
                    show some (HO.lst (_ ++ _)) = some (HO.lst (V.str _ :: V.str _ :: _))
                    rw [List.map_append]
                    rfl
    rintro σ H4 ⟨v2, v3, v4, v5, v6, v7, rfl, e4, hm⟩
    rw [rl, List.take_length] at hm
    -- the paths
    refine ⟨_, rfl, x, a.C, dx, _, _, rfl, e4 _ _ L.ob, T.cl, T.nA, fs_paths .., pa, rfl, ⟨_, ex_t e4 L.pa⟩, for_tup (K := K) (a := pa) (xs := prs) (fun i σ H' => ∃ (v2 v3 v4 v5 v6 v7 : Option V), σ = [some (.ref x), some (.ref l), v2, v3, v4, v5, v6, v7, none] ∧ Ex H H' ∧ H' l = some (.lst ((Txt.join " " ("winds" :: D.ws) :: Txt.join " " ("places" :: D.ps) :: (D.ls.map lineL ++ (D.pa.take i).map lineP)).map V.str))) ?_ ?_ ?_ ?_⟩
    · refine ⟨v2, v3, v4, v5, v6, v7, rfl, e4, ?_⟩
      rw [hm, List.take_zero, List.map_nil, List.append_nil]
    · rintro i σ H' _ ⟨v2, v3, v4, v5, v6, v7, rfl, e, _⟩
      exact ex_t e L.pa
    · rintro i y σ H1 hy ⟨v2, v3, v4, v5, v6, v7, rfl, e1, hm⟩
      have hil : i < prs.length := (List.getElem?_eq_some_iff.mp hy).1
      have eP : D.pa[i]? = some (D.pa[i]'(by omega)) := List.getElem?_eq_getElem (by omega)
      have hk := List.getElem_mem (l := D.pa) (n := i) (by omega)
      obtain ⟨d, hd1, hd2⟩ := dps_at (dps_ex e1 L.ps) hy
      rw [List.getElem?_map, eP] at hd1
      obtain rfl := Option.some.inj hd1
      generalize D.pa[i]'(by omega) = b at eP hk hd2
      obtain ⟨t, rfl, ht⟩ := path_in hd2
      have lb := ok.pt b hk
      have c1 := nl.2 _ lb.o
      have c2 := nl.2 _ lb.t
      have c3 := numS_len lb.lo lb.hi
      have s0 : (Str.empty ++ "path ") = "path " := Str.empty_append _
      refine ⟨t, _, rfl, ht, rfl, _, _, rfl, _, _, rfl, _, _, rfl, rfl, ?_⟩
      refine ⟨_, rfl, .inl ⟨rfl, _, SqL.of hm⟩, ?_⟩
      refine ⟨_, rfl, sz_of (by rw [s0, len_path]; omega), ?_⟩
      rw [s0]
      refine ⟨_, rfl, .inl ⟨b.1, rfl, sz_of (by omega), _, rfl, sz_of (by rw [Str.length_append, len_path]; omega), ?_⟩⟩
      refine ⟨_, rfl, sz_of (by rw [Str.length_append, Str.length_append, len_path, len_sp]; omega), ?_⟩
      refine ⟨_, rfl, .inl ⟨b.2.1, rfl, sz_of (by omega), _, rfl, sz_of (by rw [Str.length_append, Str.length_append, Str.length_append, len_path, len_sp]; omega), ?_⟩⟩
      refine ⟨_, rfl, sz_of (by rw [Str.length_append, Str.length_append, Str.length_append, Str.length_append, len_path, len_sp]; omega), ?_⟩
      refine ⟨_, rfl, .inr ⟨b.2.2, rfl, log_ok lb.lo lb.hi, numS b.2.2, rfl, sz_of (by rw [Str.length_append, Str.length_append, Str.length_append, Str.length_append, Str.length_append, len_path, len_sp]; omega), ?_⟩⟩
      refine ⟨l, _, _, rfl, rfl, hm, sz_lt (by rw [List.length_map, List.length_cons, List.length_cons, List.length_append, List.length_map, List.length_map, List.length_take]; omega), _, _, _, _, _, _, rfl, e1.mut hl0, ?_⟩
      rw [upd_same, take_one eP]
      show some (HO.lst (_ ++ _)) = some (HO.lst (V.str _ :: V.str _ :: _))
      simp only [List.map_append, List.map_cons, List.cons_append, List.append_assoc, List.map_nil]
      rfl
    · rintro σ H1 ⟨v2, v3, v4, v5, v6, v7, rfl, e1, hm⟩
      rw [al, List.take_length] at hm
      exact ⟨⟨_, rfl⟩, _, rfl, "\n", l, linesOf D, rfl, rfl, .inl (SqL.of hm), text_fits ok, k H1 e1⟩
end
end EV

set_option Elab.async false
set_option linter.all false
set_option maxRecDepth 100000
set_option maxHeartbeats 4000000
namespace EV
open PySem PySem.Spec PyProof.Rows L2 EvS Evl StX
def sp__law_lines (K : PySem.W.Frag) : Sp := fun vs H Q _ => ∃ (p : Addr) (D : LandD), vs = [.ref p] ∧ Dp K H (.ref p) (dParts D) ∧ LandOk D ∧ ∀ H' q, Ex H H' → H q = none → H' q = some (.lst ((linesOf D).map V.str)) → Q (.ref q) H'
theorem names_fits {ns : List Str} (h : ∀ n ∈ ns, n.length ≤ 12) (l : ns.length ≤ 24) : (ns.map (·.length)).sum + ns.length * (" " : Str).length ≤ 16777216 := join_fits (B := 12) (n := 24) h l len_sp (by decide)
theorem names_join {ns : List Str} (h : ∀ n ∈ ns, n.length ≤ 12) (l : ns.length ≤ 24) : (Txt.join " " ns).length ≤ 400 := by
  have z := join_len (sep := " ") h
  rw [len_sp] at z
  omega
theorem len_winds' : ("winds " : Str).length = 6 := by decide +kernel
theorem len_places' : ("places " : Str).length = 7 := by decide +kernel
theorem len_link' : ("link " : Str).length = 5 := by decide +kernel
theorem len_dash' : (" -" : Str).length = 2 := by decide +kernel
section
variable {P : Program} {w : World} {K : PySem.W.Frag} {mg : Str → Option Value} {base : Heap} {a : Ad}
theorem G__law_lines (T : Txt K mg a) : FnOk P w K mg base CX0 1 a.f__law_lines a.d__law_lines ["parts"] (sp__law_lines K) := by
  refine T.F__law_lines.ok sc__law_lines (fun vs H Q E h => ?_) (fun cdv A outer s H vs Q E hr h => ?_)
  · obtain ⟨p, D, rfl, _⟩ := h
    rfl
  · obtain ⟨p, D, rfl, hp, ok, k⟩ := h
    obtain ⟨wi, pl, li, pa, rows, prs, S⟩ := parts_in hp
    have rl : rows.length = D.ls.length := by rw [dps_len S.ls, List.length_map]
    have al : prs.length = D.pa.length := by rw [dps_len S.ps, List.length_map]
    have l60 := ok.l60
    have a60 := ok.a60
    have w4 := ok.w4
    have p24 := ok.p24
    have w1 := ok.w1
    have p1 := ok.p1
    have nl := nlen ok
    have j1 := names_join nl.1 (by omega)
    have j2 := names_join nl.2 (by omega)
    refine ⟨_, (pss_cons (ps_set (i := 1) sc__law_lines.nd rfl (Or.inl rfl) (pe_lst (pa_cons (pe_op op_add_str pe_str (pe_join pe_str (pe_ix ix_list (pv 0) pe_int (fun _ _ => rfl)))) (pa_cons (pe_op op_add_str pe_str (pe_join pe_str (pe_ix ix_list (pv 0) pe_int (fun _ _ => rfl)))) pa_nil))))
      (pss_cons (ps_if (pt_cmpR op_eq (pe_callB call_len_seq (by rfl) T.z_len PySem.boot_len (pa_cons (pe_ix ix_list (pv 0) pe_int (fun _ _ => rfl)) pa_nil)) pe_int (nomark _)) (pss_one (ps_asg pe_str (pg_sub (pv 1) pe_int set_list))) pss_nil)
      (pss_cons (ps_if (pt_cmpR op_eq (pe_callB call_len_seq (by rfl) T.z_len PySem.boot_len (pa_cons (pe_ix ix_list (pv 0) pe_int (fun _ _ => rfl)) pa_nil)) pe_int (nomark _)) (pss_one (ps_asg pe_str (pg_sub (pv 1) pe_int set_list))) pss_nil)
      (pss_cons (ps_for PassesOwn.never rfl (pi_list (pe_ix ix_list (pv 0) pe_int (fun _ _ => rfl))) (pg_tup (by rfl) (pgs_cons (pg_name (i := 2) sc__law_lines.nd rfl (Or.inl rfl)) (pgs_cons (pg_name (i := 3) sc__law_lines.nd rfl (Or.inl rfl)) (pgs_cons (pg_name (i := 4) sc__law_lines.nd rfl (Or.inl rfl)) (pgs_cons (pg_name (i := 5) sc__law_lines.nd rfl (Or.inl rfl)) pgs_nil))))) (pss_cons (ps_set (i := 6) sc__law_lines.nd rfl (Or.inl rfl) (pe_op op_add_str (pe_op op_add_str (pe_op op_add_str (pe_op op_add_str (pe_op op_add_str pe_str (pv 2)) pe_str) (pv 3)) pe_str) (pv 4)))
        (pss_cons (ps_for PassesOwn.never rfl (pi_list (pv 5)) (pg_name (i := 7) sc__law_lines.nd rfl (Or.inl rfl)) (pss_one (ps_if (pt_cmpR op_isN (pv 7) pe_non (nomark _)) (pss_one (ps_set (i := 6) sc__law_lines.nd rfl (Or.inl rfl) (pe_op op_add_str (pv 6) pe_str))) (pss_one (ps_set (i := 6) sc__law_lines.nd rfl (Or.inl rfl) (pe_op op_add_str (pe_op op_add_str (pe_op op_add_str (pe_op op_add_str (pv 6) pe_str) (pe_callTy call_str_int (by rfl) T.z_str (by decide +kernel) (pa_cons (pe_ix ix_tup (pv 7) pe_int (fun _ _ => rfl)) pa_nil))) pe_str) (pe_callTy call_str_int (by rfl) T.z_str (by decide +kernel) (pa_cons (pe_ix ix_tup (pv 7) pe_int (fun _ _ => rfl)) pa_nil))))))))
        (pss_one (ps_expr (pe_bm PySem.F.plainAttrs_list PySem.F.slot_list_append PySem.F.type_list_append mt_append (pv 1) (pa_cons (pv 6) pa_nil)))))))
      (pss_cons (ps_for PassesOwn.never rfl (pi_list (pe_ix ix_list (pv 0) pe_int (fun _ _ => rfl))) (pg_tup (by rfl) (pgs_cons (pg_name (i := 3) sc__law_lines.nd rfl (Or.inl rfl)) (pgs_cons (pg_name (i := 4) sc__law_lines.nd rfl (Or.inl rfl)) (pgs_cons (pg_name (i := 8) sc__law_lines.nd rfl (Or.inl rfl)) pgs_nil)))) (pss_one (ps_expr (pe_bm PySem.F.plainAttrs_list PySem.F.slot_list_append PySem.F.type_list_append mt_append (pv 1) (pa_cons (pe_op op_add_str (pe_op op_add_str (pe_op op_add_str (pe_op op_add_str (pe_op op_add_str pe_str (pv 3)) pe_str) (pv 4)) pe_str) (pe_callTy call_str_int (by rfl) T.z_str (by decide +kernel) (pa_cons (pv 8) pa_nil))) pa_nil)))))
      (pss_one (ps_ret (pv 1)))))))), ?_⟩
    refine ⟨⟨_, rfl⟩, _, rfl, p, _, _, _, rfl, rfl, S.ob, atI_nat (j := 0) rfl, " ", wi, D.ws, rfl, rfl, .inl S.wi, names_fits nl.1 (by omega), _, _, rfl, rfl, sz_of (by rw [len_winds']; omega), ?_⟩
    refine ⟨⟨_, rfl⟩, _, rfl, p, _, _, _, rfl, rfl, S.ob, atI_nat (j := 1) rfl, " ", pl, D.ps, rfl, rfl, .inl S.pl, names_fits nl.2 (by omega), _, _, rfl, rfl, sz_of (by rw [len_places']; omega), ?_⟩
    refine ⟨by show 2 ≤ sizeLine; decide, fun l hl => ?_⟩
    have e3 : Ex H (upd H l (.lst [.str ("winds " ++ Txt.join " " D.ws), .str ("places " ++ Txt.join " " D.ps)])) := Ex.new hl
    have m3 : (upd H l (.lst [.str ("winds " ++ Txt.join " " D.ws), .str ("places " ++ Txt.join " " D.ps)])) l = some (.lst ([Txt.join " " ("winds" :: D.ws), Txt.join " " ("places" :: D.ps)].map V.str)) := by
      rw [upd_same, first_line spWinds w1, first_line spPlaces p1]
      rfl
    generalize upd H l (.lst [.str ("winds " ++ Txt.join " " D.ws), .str ("places " ++ Txt.join " " D.ps)]) = H3 at e3 m3
    have S3 := S.ex e3
    refine ⟨_, rfl, p, _, _, _, rfl, rfl, S3.ob, atI_nat (j := 0) rfl, wi, _, rfl, .inl S3.wi, rfl, _, rfl, ?_⟩
    rw [decide_eq_false (fun q => by
      have z := V.int.inj q
      rw [List.length_map] at z
      omega)]
    refine iteF ?_
    refine ⟨_, rfl, p, _, _, _, rfl, rfl, S3.ob, atI_nat (j := 1) rfl, pl, _, rfl, .inl S3.pl, rfl, _, rfl, ?_⟩
    rw [decide_eq_false (fun q => by
      have z := V.int.inj q
      rw [List.length_map] at z
      omega)]
    refine iteF ?_
    -- links
    refine ⟨_, rfl, p, _, _, _, rfl, rfl, S3.ob, atI_nat (j := 2) rfl, li, rfl, ⟨_, S3.li⟩, for_list (K := K) (a := li) (xs := rows) (fun i σ H' => ∃ (v2 v3 v4 v5 v6 v7 : Option V), σ = [some (.ref p), some (.ref l), v2, v3, v4, v5, v6, v7, none] ∧ Ex H H' ∧ H' l = some (.lst ((Txt.join " " ("winds" :: D.ws) :: Txt.join " " ("places" :: D.ps) :: (D.ls.take i).map lineL).map V.str))) ?_ ?_ ?_ ?_⟩
    · exact ⟨none, none, none, none, none, none, rfl, e3, m3⟩
    · rintro i σ H' _ ⟨v2, v3, v4, v5, v6, v7, rfl, e, _⟩
      exact (S.ex e).li
    · rintro i y σ H1 hy ⟨v2, v3, v4, v5, v6, v7, rfl, e1, hm⟩
      have hil : i < rows.length := (List.getElem?_eq_some_iff.mp hy).1
      have eL : D.ls[i]? = some (D.ls[i]'(by omega)) := List.getElem?_eq_getElem (by omega)
      have hk := List.getElem_mem (l := D.ls) (n := i) (by omega)
      obtain ⟨d, hd1, hd2⟩ := dps_at (S.ex e1).ls hy
      rw [List.getElem?_map, eL] at hd1
      obtain rfl := Option.some.inj hd1
      generalize D.ls[i]'(by omega) = q at eL hk hd2
      have lk := ok.lk q hk
      have c1 := (name_len (ok.gl.1 _ (List.mem_map.mpr ⟨q, hk, rfl⟩))).2
      have c2 := nl.2 _ lk.o
      have c3 := nl.2 _ lk.t
      unfold dRaw at hd2
      cases hd2 with
      | @tup t _ _ hs hr =>
        cases hr with
        | cons a1 hr =>
          cases a1
          cases hr with
          | cons a2 hr =>
            cases a2
            cases hr with
            | cons a3 hr =>
              cases a3
              cases hr with
              | cons a4 hr =>
                cases hr
                cases a4 with
                | @lst u us _ hu hus =>
                  have ul : us.length = q.ts.length := by rw [dps_len hus, List.length_map]
                  have tl := lk.len
                  refine ⟨t, _, rfl, hs, rfl, _, _, rfl, _, _, rfl, _, _, rfl, _, _, rfl, rfl, ?_⟩
                  refine ⟨_, rfl, _, _, rfl, rfl, sz_of (by rw [len_link']; omega), _, _, rfl, rfl, sz_of (by rw [Str.length_append, len_link', len_sp]; omega), _, rfl, _, _, rfl, rfl, sz_of (by rw [Str.length_append, Str.length_append, len_link', len_sp]; omega), _, _, rfl, rfl, sz_of (by rw [Str.length_append, Str.length_append, Str.length_append, len_link', len_sp]; omega), _, rfl, _, _, rfl, rfl, sz_of (by rw [Str.length_append, Str.length_append, Str.length_append, Str.length_append, len_link', len_sp]; omega), ?_⟩
                  refine ⟨_, rfl, u, rfl, ⟨_, hu⟩, for_list (K := K) (a := u) (xs := us) (fun j σ H' => ∃ v7, σ = [some (.ref p), some (.ref l), some (.str q.n), some (.str q.o), some (.str q.t), some (.ref u), some (.str (upTo q j)), v7, none] ∧ H' = H1) ?_ ?_ ?_ ?_⟩
                  · refine ⟨v7, ?_, rfl⟩
                    rw [upTo_zero, ← base_line]
                    rfl
                  · rintro j σ H' _ ⟨v7, rfl, hH⟩
                    rw [hH]
                    exact hu
                  · rintro j y σ H' hy ⟨v7, rfl, hH⟩
                    rw [hH]
                    have hju : j < us.length := (List.getElem?_eq_some_iff.mp hy).1
                    have eT : q.ts[j]? = some (q.ts[j]'(by omega)) := List.getElem?_eq_getElem (by omega)
                    have hb := lk.ok _ (List.getElem_mem (l := q.ts) (n := j) (by omega))
                    obtain ⟨d, hd1, hd2⟩ := dps_at hus hy
                    rw [List.getElem?_map, eT] at hd1
                    obtain rfl := Option.some.inj hd1
                    generalize q.ts[j]'(by omega) = b at eT hb hd2
                    have ub := upTo_len ok hk j
                    have nx := upTo_next eT
                    cases b with
                    | none =>
                      cases hd2
                      refine ⟨_, rfl, rfl, _, rfl, iteT ⟨_, rfl, _, _, rfl, rfl, sz_of (by rw [len_dash']; omega), some V.non, ?_, rfl⟩⟩
                      rw [nx, spDash, ← Str.append_assoc]
                      rfl
                    | some b =>
                      obtain ⟨lo, hi⟩ := b
                      obtain ⟨h1, h2, h3⟩ := hb
                      have n1 := numS_len (i := lo) h1 (by omega)
                      have n2 := numS_len (i := hi) (by omega) h3
                      cases hd2 with
                      | @tup z zs _ hz hr =>
                        cases hr with
                        | cons a1 hr =>
                          cases a1
                          cases hr with
                          | cons a2 hr =>
                            cases a2
                            cases hr
                            refine ⟨_, rfl, rfl, _, rfl, iteF ?_⟩
                            refine ⟨_, rfl, _, _, rfl, rfl, sz_of (by rw [len_sp]; omega), _, rfl, z, _, _, _, rfl, rfl, hz, atI_nat (j := 0) rfl, lo, rfl, log_ok h1 (by omega), _, numS lo, rfl, rfl, sz_of (by rw [Str.length_append, len_sp]; omega), ?_⟩
                            refine ⟨_, _, rfl, rfl, sz_of (by rw [Str.length_append, Str.length_append, len_sp, len_dash]; omega), _, rfl, z, _, _, _, rfl, rfl, hz, atI_nat (j := 1) rfl, hi, rfl, log_ok (by omega) h3, _, numS hi, rfl, rfl, sz_of (by rw [Str.length_append, Str.length_append, Str.length_append, len_sp, len_dash]; omega), some (.ref z), ?_, rfl⟩
                            rw [nx]
                            show _ = [_, _, _, _, _, _, some (V.str (upTo q j ++ " " ++ (numS lo ++ "-" ++ numS hi))), _, _]
                            rw [← Str.append_assoc, ← Str.append_assoc]
                            rfl
                  · rintro σ H' ⟨v7, rfl, hH⟩
                    rw [hH]
                    have eu := upTo_all q ul
                    refine ⟨_, rfl, .inl ⟨rfl, _, SqL.of hm⟩, _, rfl, l, _, _, rfl, rfl, hm, sz_lt (by rw [List.length_map, List.length_cons, List.length_cons, List.length_map, List.length_take]; omega), _, _, _, _, _, _, rfl, e1.mut hl, ?_⟩
                    rw [upd_same, take_one eL, List.map_append, eu]
                    show some (HO.lst (_ ++ _)) = some (HO.lst (V.str _ :: V.str _ :: _))
                    rw [List.map_append]
                    rfl
    rintro σ H4 ⟨v2, v3, v4, v5, v6, v7, rfl, e4, hm⟩
    rw [rl, List.take_length] at hm
    have S4 := S.ex e4
    -- paths
    refine ⟨_, rfl, p, _, _, _, rfl, rfl, S4.ob, atI_nat (j := 3) rfl, pa, rfl, ⟨_, S4.pa⟩, for_list (K := K) (a := pa) (xs := prs) (fun i σ H' => ∃ (v2 v3 v4 v5 v6 v7 v8 : Option V), σ = [some (.ref p), some (.ref l), v2, v3, v4, v5, v6, v7, v8] ∧ Ex H H' ∧ H' l = some (.lst ((Txt.join " " ("winds" :: D.ws) :: Txt.join " " ("places" :: D.ps) :: (D.ls.map lineL ++ (D.pa.take i).map lineP)).map V.str))) ?_ ?_ ?_ ?_⟩
    · refine ⟨v2, v3, v4, v5, v6, v7, none, rfl, e4, ?_⟩
      rw [hm, List.take_zero, List.map_nil, List.append_nil]
    · rintro i σ H' _ ⟨v2, v3, v4, v5, v6, v7, v8, rfl, e, _⟩
      exact (S.ex e).pa
    · rintro i y σ H1 hy ⟨v2, v3, v4, v5, v6, v7, v8, rfl, e1, hm⟩
      have hil : i < prs.length := (List.getElem?_eq_some_iff.mp hy).1
      have eP : D.pa[i]? = some (D.pa[i]'(by omega)) := List.getElem?_eq_getElem (by omega)
      have hk := List.getElem_mem (l := D.pa) (n := i) (by omega)
      obtain ⟨d, hd1, hd2⟩ := dps_at (S.ex e1).ps hy
      rw [List.getElem?_map, eP] at hd1
      obtain rfl := Option.some.inj hd1
      generalize D.pa[i]'(by omega) = b at eP hk hd2
      obtain ⟨t, rfl, ht⟩ := path_in hd2
      have lb := ok.pt b hk
      have c1 := nl.2 _ lb.o
      have c2 := nl.2 _ lb.t
      have c3 := numS_len lb.lo lb.hi
      refine ⟨t, _, rfl, ht, rfl, _, _, rfl, _, _, rfl, _, _, rfl, rfl, ?_⟩
      refine ⟨_, rfl, .inl ⟨rfl, _, SqL.of hm⟩, ?_⟩
      refine ⟨_, rfl, _, _, rfl, rfl, sz_of (by rw [len_path]; omega), _, _, rfl, rfl, sz_of (by rw [Str.length_append, len_path, len_sp]; omega), _, rfl, _, _, rfl, rfl, sz_of (by rw [Str.length_append, Str.length_append, len_path, len_sp]; omega), _, _, rfl, rfl, sz_of (by rw [Str.length_append, Str.length_append, Str.length_append, len_path, len_sp]; omega), _, rfl, b.2.2, rfl, log_ok lb.lo lb.hi, _, numS b.2.2, rfl, rfl, sz_of (by rw [Str.length_append, Str.length_append, Str.length_append, Str.length_append, len_path, len_sp]; omega), ?_⟩
      refine ⟨l, _, _, rfl, rfl, hm, sz_lt (by rw [List.length_map, List.length_cons, List.length_cons, List.length_append, List.length_map, List.length_map, List.length_take]; omega), _, _, _, _, _, _, _, rfl, e1.mut hl, ?_⟩
      rw [upd_same, take_one eP]
      show some (HO.lst (_ ++ _)) = some (HO.lst (V.str _ :: V.str _ :: _))
      simp only [List.map_append, List.map_cons, List.cons_append, List.append_assoc, List.map_nil]
      rfl
    · rintro σ H1 ⟨v2, v3, v4, v5, v6, v7, v8, rfl, e1, hm⟩
      rw [al, List.take_length] at hm
      exact ⟨_, rfl, k H1 l e1 hl hm⟩
end
end EV

set_option Elab.async false
set_option linter.all false
set_option maxRecDepth 100000
set_option maxHeartbeats 4000000
namespace EV
open PySem PySem.Spec PyProof.Rows L2 EvS Evl StX TL
/-! ### numbers as texts -/
def GoodNum (z : Str) : Prop := 1 ≤ z.length ∧ z.length ≤ 6 ∧ (∃ c, z.cps.toList.head? = some c ∧ c ≠ 48) ∧ ∀ c ∈ z.cps.toList, c ∈ DIGS
theorem digs_of : ∀ c, c < 58 → 48 ≤ c → decide (c ∈ DIGS) = true := by decide +kernel
theorem num_head (n : Nat) (h : 1 ≤ n) : ∃ c, (numL n).head? = some c ∧ c ≠ 48 := by
  induction n using Nat.strongRecOn with
  | _ n ih =>
    by_cases q : n < 10
    · rw [numL_lt q]
      exact ⟨48 + n, rfl, by omega⟩
    · rw [numL_step (by omega)]
      obtain ⟨c, hc, hn⟩ := ih (n / 10) (by omega) (by omega)
      refine ⟨c, ?_, hn⟩
      rw [List.head?_append, hc]
      rfl
theorem num_tl {i : Int} (h : 0 ≤ i) : (numS i).cps.toList = numL i.toNat := by
  have z := tl_num i.toNat
  rw [Int.toNat_of_nonneg h] at z
  exact z
theorem num_dig {i : Int} (h : 0 ≤ i) : ∀ c ∈ (numS i).cps.toList, 48 ≤ c ∧ c ≤ 57 := by
  rw [num_tl h]
  exact fun c hc => numL_digits _ c hc
theorem num_good {i : Int} (h1 : 1 ≤ i) (h2 : i ≤ 1000) : GoodNum (numS i) := by
  have l := numS_len h1 h2
  refine ⟨?_, by omega, ?_, fun c hc => ?_⟩
  · have z := numL_ne i.toNat
    rw [← num_tl (i := i) (by omega)] at z
    show 1 ≤ (numS i).cps.size
    rw [← Array.length_toList]
    rcases Nat.eq_zero_or_pos (numS i).cps.toList.length with q | q
    · exact absurd (List.length_eq_zero_iff.mp q) z
    · exact q
  · rw [num_tl (by omega)]
    exact num_head _ (by omega)
  · have := num_dig (i := i) (by omega) c hc
    exact of_decide_eq_true (digs_of c (by omega) (by omega))
/-! ### words without separators -/
def Clean (z : Str) : Prop := 10 ∉ z.cps.toList ∧ 32 ∉ z.cps.toList
theorem clean_of {z : Str} (h : ∀ c ∈ z.cps.toList, c ≠ 10 ∧ c ≠ 32) : Clean z := ⟨fun q => (h _ q).1 rfl, fun q => (h _ q).2 rfl⟩
theorem sign_clean : ∀ c ∈ LETS ++ DIGS, c ≠ 10 ∧ c ≠ 32 := by decide +kernel
theorem name_clean {z : Str} (h : isName z = true) : Clean z := clean_of fun c hc => by
  unfold isName at h
  rw [Bool.and_eq_true] at h
  have q := List.all_eq_true.mp h.2 c hc
  unfold okSign at q
  rw [Bool.or_eq_true] at q
  refine sign_clean c ?_
  rcases q with q | q
  · exact List.mem_append_left _ (of_decide_eq_true q)
  · exact List.mem_append_right _ (of_decide_eq_true q)
theorem num_clean {i : Int} (h : 0 ≤ i) : Clean (numS i) := clean_of fun c hc => by
  have := num_dig h c hc
  omega
theorem app_list (a b : Str) : (a ++ b).cps.toList = a.cps.toList ++ b.cps.toList := by
  rw [Str.cps_append, Array.toList_append]
theorem clean_app {a b : Str} (ha : Clean a) (hb : Clean b) : Clean (a ++ b) := by
  unfold Clean
  rw [app_list]
  exact ⟨fun q => (List.mem_append.mp q).elim ha.1 hb.1, fun q => (List.mem_append.mp q).elim ha.2 hb.2⟩
theorem cl_dash : Clean "-" := ⟨by decide +kernel, by decide +kernel⟩
theorem cl_link : Clean "link" := ⟨by decide +kernel, by decide +kernel⟩
theorem cl_path : Clean "path" := ⟨by decide +kernel, by decide +kernel⟩
theorem cl_winds : Clean "winds" := ⟨by decide +kernel, by decide +kernel⟩
theorem cl_places : Clean "places" := ⟨by decide +kernel, by decide +kernel⟩
theorem word_clean {b : Option (Int × Int)} (h : TimeOk b) : Clean (wordT b) := by
  cases b with
  | none => exact cl_dash
  | some b =>
    obtain ⟨h1, h2, h3⟩ := h
    exact clean_app (clean_app (num_clean (by omega)) cl_dash) (num_clean (by omega))
theorem join_mem (sep : Str) (c : Nat) : ∀ {ys : List Str}, c ∈ (Txt.join sep ys).cps.toList → c ∈ sep.cps.toList ∨ ∃ y ∈ ys, c ∈ y.cps.toList
  | [], h => by
    rw [tj] at h
    cases h
  | [y], h => by
    rw [join_one] at h
    exact .inr ⟨y, List.mem_cons_self, h⟩
  | y :: z :: r, h => by
    rw [join_two, app_list, app_list] at h
    rcases List.mem_append.mp h with h | h
    · rcases List.mem_append.mp h with h | h
      · exact .inr ⟨y, List.mem_cons_self, h⟩
      · exact .inl h
    · rcases join_mem sep c h with h | ⟨x, hx, h⟩
      · exact .inl h
      · exact .inr ⟨x, List.mem_cons_of_mem _ hx, h⟩
theorem line_split {ys : List Str} (hne : ys ≠ []) (h : ∀ y ∈ ys, Clean y) : Txt.split (Txt.join " " ys) " " = ys := split_join (s := 32) (S := []) (by decide +kernel) (by decide +kernel) hne fun p hp => (h p hp).2
theorem line_nl {ys : List Str} (h : ∀ y ∈ ys, Clean y) : 10 ∉ (Txt.join " " ys).cps.toList := fun q => by
  rcases join_mem " " 10 q with q | ⟨y, hy, q⟩
  · exact absurd q (by decide +kernel)
  · exact (h y hy).1 q
/-! ### the words of the lines -/
def pathW (p : Str × Str × Int) : List Str := ["path", p.1, p.2.1, numS p.2.2]
theorem spPath : ("path " : Str) = "path" ++ " " := by decide +kernel
theorem lineP_join (p : Str × Str × Int) : lineP p = Txt.join " " (pathW p) := by
  unfold lineP pathW
  rw [join_two, join_two, join_two, join_one, spPath]
  simp only [Str.append_assoc]
def linkW (k : Link) : List Str := baseL k ++ k.ts.map wordT
def wordsOf (D : LandD) : List (List Str) := ("winds" :: D.ws) :: ("places" :: D.ps) :: (D.ls.map linkW ++ D.pa.map pathW)
theorem lines_words (D : LandD) : linesOf D = (wordsOf D).map (Txt.join " ") := by
  unfold linesOf wordsOf
  rw [List.map_cons, List.map_cons, List.map_append, List.map_map, List.map_map]
  have e : D.pa.map lineP = D.pa.map (Txt.join " " ∘ pathW) := List.map_congr_left fun p _ => lineP_join p
  rw [e]
  rfl
section
variable {D : LandD}
theorem words_clean (ok : LandOk D) : ∀ ys ∈ wordsOf D, ys ≠ [] ∧ ∀ y ∈ ys, Clean y := fun ys h => by
  have gw := fun n hn => name_clean (ok.gw.1 n hn)
  have gp := fun n hn => name_clean (ok.gp.1 n hn)
  rcases List.mem_cons.mp h with rfl | h
  · refine ⟨by simp, fun y hy => ?_⟩
    rcases List.mem_cons.mp hy with rfl | hy
    · exact cl_winds
    · exact gw y hy
  rcases List.mem_cons.mp h with rfl | h
  · refine ⟨by simp, fun y hy => ?_⟩
    rcases List.mem_cons.mp hy with rfl | hy
    · exact cl_places
    · exact gp y hy
  rcases List.mem_append.mp h with h | h
  · obtain ⟨k, hk, rfl⟩ := List.mem_map.mp h
    have lk := ok.lk k hk
    refine ⟨by simp [linkW, baseL], fun y hy => ?_⟩
    rcases List.mem_append.mp hy with hy | hy
    · rcases mem4 hy with rfl | rfl | rfl | rfl
      · exact cl_link
      · exact name_clean (ok.gl.1 _ (List.mem_map.mpr ⟨k, hk, rfl⟩))
      · exact gp _ lk.o
      · exact gp _ lk.t
    · obtain ⟨b, hb, rfl⟩ := List.mem_map.mp hy
      exact word_clean (lk.ok b hb)
  · obtain ⟨p, hp, rfl⟩ := List.mem_map.mp h
    have lp := ok.pt p hp
    refine ⟨by simp [pathW], fun y hy => ?_⟩
    rcases mem4 hy with rfl | rfl | rfl | rfl
    · exact cl_path
    · exact gp _ lp.o
    · exact gp _ lp.t
    · have := lp.lo
      exact num_clean (by omega)
theorem text_split (ok : LandOk D) : Txt.split (textOf D) "\n" = linesOf D := by
  refine split_join (s := 10) (S := []) (by decide +kernel) (by decide +kernel) (by simp [linesOf]) fun p hp => ?_
  rw [lines_words] at hp
  obtain ⟨ys, hy, rfl⟩ := List.mem_map.mp hp
  exact line_nl (words_clean ok ys hy).2
theorem lines_split (ok : LandOk D) {i : Nat} {z : Str} (h : (linesOf D)[i]? = some z) : ∃ ys, (wordsOf D)[i]? = some ys ∧ Txt.split z " " = ys ∧ z = Txt.join " " ys := by
  rw [lines_words, List.getElem?_map] at h
  cases q : (wordsOf D)[i]? with
  | none =>
    rw [q] at h
    cases h
  | some ys =>
    rw [q] at h
    obtain rfl := Option.some.inj h
    obtain ⟨h1, h2⟩ := words_clean ok ys (List.mem_of_getElem? q)
    exact ⟨ys, rfl, line_split h1 h2, rfl⟩
end
theorem time_split {a b : Int} (ha : 0 ≤ a) (hb : 0 ≤ b) : Txt.split (numS a ++ "-" ++ numS b) "-" = [numS a, numS b] := by
  have e : numS a ++ "-" ++ numS b = Txt.join "-" [numS a, numS b] := by rw [join_two, join_one]
  rw [e]
  refine split_join (s := 45) (S := []) (by decide +kernel) (by decide +kernel) (by simp) fun p hp q => ?_
  rcases List.mem_cons.mp hp with rfl | hp
  · have := num_dig ha 45 q
    omega
  · rw [List.mem_singleton.mp hp] at q
    have := num_dig hb 45 q
    omega
theorem num_int {i : Int} (h1 : 1 ≤ i) (h2 : i ≤ 1000) : PySem.intText? (numS i) = some i := by
  have z := int_num (n := i.toNat) (by
    have l := numS_len h1 h2
    rw [← num_tl (i := i) (by omega), Array.length_toList]
    show (numS i).length ≤ 4300
    omega)
  rw [Int.toNat_of_nonneg (by omega)] at z
  exact z
end EV

set_option Elab.async false
set_option linter.all false
set_option maxRecDepth 100000
set_option maxHeartbeats 4000000
namespace EV
open PySem PySem.Spec PyProof.Rows L2 EvS Evl StX
theorem cut_mid (xs : List V) (m n : Nat) : cutV xs (some (m : Int)) (some ((m + n : Nat) : Int)) = (xs.drop m).take n := by
  unfold cutV
  rw [HT.sIx_nat, HT.sIx_nat]
  rcases Nat.le_total m xs.length with h | h
  · rw [Nat.min_eq_left h]
    rcases Nat.le_total (m + n) xs.length with q | q
    · rw [Nat.min_eq_left q, Nat.add_sub_cancel_left]
    · rw [Nat.min_eq_right q, List.take_of_length_le (by rw [List.length_drop]; exact Nat.le_refl _), List.take_of_length_le (by rw [List.length_drop]; omega)]
  · rw [Nat.min_eq_right h, Nat.min_eq_right (Nat.le_trans h (Nat.le_add_right m n)), List.drop_length, List.drop_eq_nil_of_le h, List.take_nil, List.take_nil]
/-- a list of so many Trues -/
def yes (n : Nat) : List V := (List.replicate n true).map V.bl
theorem yes_next (n : Nat) : yes (n + 1) = yes n ++ [V.bl true] := by
  unfold yes
  rw [List.replicate_succ', List.map_append]
  rfl
theorem yes_len (n : Nat) : (yes n).length = n := by
  unfold yes
  rw [List.length_map, List.length_replicate]
theorem yes_all (n : Nat) : (List.replicate n true).all id = true := by
  rw [List.all_eq_true]
  intro b hb
  exact (List.mem_replicate.mp hb).2
def sp_is_number : Sp := fun vs H Q _ => ∃ z : Str, vs = [.str z] ∧ GoodNum z ∧ ∀ H', Ex H H' → Q (.bl true) H'
def sp__is_names (K : PySem.W.Frag) : Sp := fun vs H Q _ => ∃ (f : Str) (r : Addr) (ns : List Str), vs = [.str f, .ref r] ∧ SqL K H r ((f :: ns).map V.str) ∧ (∀ n ∈ ns, isName n = true) ∧ ns.length ≤ 1000 ∧ ∀ H', Ex H H' → Q (.bl true) H'
def sp__is_time : Sp := fun vs H Q _ => ∃ b : Option (Int × Int), vs = [.str (wordT b)] ∧ TimeOk b ∧ ∀ H', Ex H H' → Q (.bl true) H'
def sp__read_time (K : PySem.W.Frag) : Sp := fun vs H Q _ => ∃ b : Option (Int × Int), vs = [.str (wordT b)] ∧ TimeOk b ∧ ∀ v H', Ex H H' → Dp K H' v (dTime b) → Q v H'
/-- the words of a link that is well named -/
structure WordsOk (k : Link) : Prop where
  n : isName k.n = true
  o : isName k.o = true
  t : isName k.t = true
  ts : ∀ b ∈ k.ts, TimeOk b
  l : k.ts.length ≤ 100
def sp__is_link (K : PySem.W.Frag) : Sp := fun vs H Q _ => ∃ r : Addr, vs = [.ref r] ∧ ((∃ k, SqL K H r ((linkW k).map V.str) ∧ WordsOk k ∧ ∀ H', Ex H H' → Q (.bl true) H') ∨ ∃ p, SqL K H r ((pathW p).map V.str) ∧ ∀ H', Ex H H' → Q (.bl false) H')
def sp__is_path (K : PySem.W.Frag) : Sp := fun vs H Q _ => ∃ (r : Addr) (p : Str × Str × Int), vs = [.ref r] ∧ SqL K H r ((pathW p).map V.str) ∧ isName p.1 = true ∧ isName p.2.1 = true ∧ 1 ≤ p.2.2 ∧ p.2.2 ≤ 1000 ∧ ∀ H', Ex H H' → Q (.bl true) H'
def sp__read_link (K : PySem.W.Frag) : Sp := fun vs H Q _ => ∃ (r : Addr) (k : Link), vs = [.ref r] ∧ SqL K H r ((linkW k).map V.str) ∧ WordsOk k ∧ ∀ H' t, Ex H H' → H t = none → (∀ A B xs ys, H A = some (.lst xs) → H B = some (.lst ys) → Dp K (del (del H' A) B) (.ref t) (dRaw k)) → Q (.ref t) H'
theorem word_ne {b : Int × Int} (h : TimeOk (some b)) : wordT (some b) ≠ "-" := fun e => by
  obtain ⟨h1, h2, h3⟩ := h
  have g1 := (num_good (i := b.1) h1 (by omega)).1
  have g2 := (num_good (i := b.2) (by omega) h3).1
  have z := congrArg Str.length e
  change (numS b.1 ++ "-" ++ numS b.2).length = _ at z
  rw [Str.length_append, Str.length_append, len_dash] at z
  omega
theorem exT_del {H : Hp} {A : Addr} {xs : List V} (h : H A = some (.lst xs)) : ExT H (del H A) := fun x zs r => by
  have nx : x ≠ A := fun q => by
    rcases r with r | ⟨o, r⟩
    · rw [q, h] at r; cases r
    · rw [q, h] at r; cases r
  rcases r with r | ⟨o, r⟩
  · exact .inl (del_at nx r)
  · exact .inr ⟨o, del_at nx r⟩
section
variable {P : Program} {w : World} {K : PySem.W.Frag} {mg : Str → Option Value} {base : Heap} {a : Ad}
theorem G_is_number (T : Txt K mg a) : FnOk P w K mg base CX0 1 a.f_is_number a.d_is_number ["word"] sp_is_number := by
  refine T.F_is_number.ok sc_is_number (fun vs H Q E h => ?_) (fun cdv A outer s H vs Q E hr h => ?_)
  · obtain ⟨z, rfl, _⟩ := h
    rfl
  · obtain ⟨z, rfl, ⟨h1, h2, ⟨c0, hc0, hne⟩, hall⟩, k⟩ := h
    have hzs : z.length ≤ sizeLine := sz_of (by omega)
    refine ⟨_, (pss_cons (ps_if (pt_not (pt_chain op_le op_le pe_int (pe_callB call_len_str (by rfl) T.z_len PySem.boot_len (pa_cons (pv 0) pa_nil)) (pe_gI rfl T.c_MOST_DIGITS))) (pss_one (ps_ret pe_bl)) pss_nil)
      (pss_cons (ps_if (pt_cmpR op_eq (pe_ix ix_str (pv 0) pe_int (fun _ _ => rfl)) pe_str (nomark _)) (pss_one (ps_ret (pe_cmpR op_eq (pv 0) pe_str (nomark _)))) pss_nil)
      (pss_one (ps_ret (pe_callB (cr_all rfl) (by rfl) T.z_all (by decide +kernel) (pa_cons (pe_lc (own := [("sign", 1)]) (g := gName 1) (tt := tYes) rfl sc_is_number.nd (pi_str (pv 0)) (blkOk_by (N := ["word", "sign"]) (sc := defScope s_is_number) (by decide +kernel)) (fun _ _ _ _ _ => pg_name (i := 1) sc_is_number.nd rfl (Or.inl rfl)) (fun _ _ _ _ _ => pts_nil) (fun _ _ _ _ _ => (pe_cmpR op_in_sign (pv 1) (pe_gS rfl T.c_DIGITS) rfl))) pa_nil)))))), ?_⟩
    refine ⟨_, rfl, _, rfl, hzs, _, _, rfl, rfl, _, rfl, ?_⟩
    refine ite2 (fun _ => ?_) (fun q => absurd (decide_eq_true (show (1 : Int) ≤ (z.length : Int) by omega)) q)
    refine ⟨_, _, rfl, rfl, _, rfl, ?_⟩
    refine ite2 (fun q => ?_) (fun _ => ?_)
    · simp at q
      omega
    have hl0 : z.cps.toList[0]? = some c0 := by rw [← List.head?_eq_getElem?]; exact hc0
    refine ⟨_, rfl, z, 0, c0, rfl, rfl, hzs, ?_, ?_⟩
    · have := atI_nat (j := 0) hl0
      simpa using this
    refine ⟨rfl, _, rfl, ?_⟩
    refine ite2 (fun q => ?_) (fun _ => ?_)
    · have e := V.str.inj (of_decide_eq_true q)
      have e2 := congrArg (fun s : Str => s.cps.toList) e
      have e3 : [c0] = [48] := e2.trans (by decide +kernel)
      exact absurd (List.cons.inj e3).1 hne
    refine ⟨_, rfl, z, rfl, fun D hD => lcY_sign (fun i H' => Ex H H' ∧ H' D = some (.lst (yes i))) ⟨Ex.new hD, upd_same⟩ (fun i c H' hc p => ?_) (fun H' p => ?_)⟩
    · have hlc : z.cps.toList[i]? = some c := by rw [Array.getElem?_toList]; exact hc
      have hm : c ∈ DIGS := hall c (List.mem_of_getElem? hlc)
      have hil : i < z.cps.size := (Array.getElem?_eq_some_iff.mp hc).1
      have hsz : z.cps.size = z.length := rfl
      refine ⟨rfl, _, rfl, c, _, rfl, rfl, ?_⟩
      rw [show decide (c ∈ ("0123456789" : Str).cps.toList) = true from decide_eq_true hm]
      refine ⟨_, p.2, sz_lt (by rw [yes_len]; omega), p.1.mut hD, ?_⟩
      rw [upd_same, yes_next]
    · refine ⟨D, List.replicate z.cps.size true, rfl, SqL.of p.2, ?_⟩
      rw [yes_all]
      exact k H' p.1
theorem G__is_names (T : Txt K mg a) : FnOk P w K mg base CX0 2 a.f__is_names a.d__is_names ["first", "words"] (sp__is_names K) := by
  refine T.F__is_names.ok sc__is_names (fun vs H Q E h => ?_) (fun cdv A outer s H vs Q E hr h => ?_)
  · obtain ⟨f, r, ns, rfl, _⟩ := h
    rfl
  · obtain ⟨f, r, ns, rfl, hS, hn, hl, k⟩ := h
    refine ⟨_, (pss_one (ps_ret (pe_and (pe_cmpR op_eq (pe_ix ix_list (pv 1) pe_int (fun _ _ => rfl)) (pv 0) (nomark _)) (pe_one (pe_callB (cr_all rfl) (by rfl) T.z_all (by decide +kernel) (pa_cons (pe_lc (own := [("word", 2)]) (g := gName 2) (tt := tYes) rfl sc__is_names.nd (pi_list (pe_slice sl_list (pv 1) (po_some pe_int) po_none)) (blkOk_by (N := ["first", "words", "word"]) (sc := defScope s__is_names) (by decide +kernel)) (fun _ _ _ _ _ => pg_name (i := 2) sc__is_names.nd rfl (Or.inl rfl)) (fun _ _ _ _ _ => pts_nil) (fun _ _ _ _ _ => (pe_call (G_is_name T) (hr.mono (by decide)) (by rfl) T.g_is_name T.k_is_name T.B_is_name .nil pass0 (pa_cons (pv 2) pa_nil)))) pa_nil)))))), ?_⟩
    refine ⟨_, rfl, r, _, _, _, rfl, rfl, hS, atI_nat (j := 0) rfl, _, rfl, rfl, _, rfl, ?_⟩
    rw [decide_eq_true rfl]
    refine iteT ?_
    refine ⟨_, rfl, _, rfl, r, _, rfl, hS, fun q hq => ?_⟩
    have ce : cutV ((f :: ns).map V.str) (some 1) none = ns.map V.str := by
      rw [show (1 : Int) = ((1 : Nat) : Int) from rfl, cut_from]
      rfl
    rw [ce]
    have e0 : Ex H (upd H q (.lst (ns.map V.str))) := Ex.new hq
    have mq : (upd H q (.lst (ns.map V.str))) q = some (.lst (ns.map V.str)) := upd_same
    generalize upd H q (.lst (ns.map V.str)) = H1 at e0 mq
    refine ⟨q, rfl, ⟨_, SqL.of mq⟩, fun D hD => lcY_list (K := K) (a := q) (xs := ns.map V.str) (fun i H' => Ex H1 H' ∧ H' D = some (.lst (yes i))) ⟨Ex.new hD, upd_same⟩ (fun i H' _ p => SqL.of (p.1 _ _ mq)) (fun i y H' hy p => ?_) (fun H' p => ?_)⟩
    · have hil : i < (ns.map V.str).length := (List.getElem?_eq_some_iff.mp hy).1
      rw [List.length_map] at hil
      rw [List.getElem?_map, List.getElem?_eq_getElem hil] at hy
      obtain rfl := Option.some.inj hy
      have ni := hn _ (List.getElem_mem hil)
      have nlen := name_len ni
      refine ⟨rfl, _, rfl, ns[i], rfl, by omega, fun H2 e2 => ?_⟩
      rw [ni]
      refine ⟨_, e2 _ _ p.2, sz_lt (by rw [yes_len]; omega), (p.1.trans e2).mut hD, ?_⟩
      rw [upd_same, yes_next]
    · refine ⟨D, List.replicate (ns.map V.str).length true, rfl, SqL.of p.2, ?_⟩
      rw [yes_all]
      exact k H' (e0.trans p.1)
theorem G__is_time (T : Txt K mg a) : FnOk P w K mg base CX0 2 a.f__is_time a.d__is_time ["word"] sp__is_time := by
  refine T.F__is_time.ok sc__is_time (fun vs H Q E h => ?_) (fun cdv A outer s H vs Q E hr h => ?_)
  · obtain ⟨b, rfl, _⟩ := h
    rfl
  · obtain ⟨b, rfl, hb, k⟩ := h
    refine ⟨_, (pss_cons (ps_if (pt_cmpR op_eq (pv 0) (pe_gS rfl T.c_SHUT) (nomark _)) (pss_one (ps_ret pe_bl)) pss_nil)
      (pss_cons (ps_set (i := 1) sc__is_time.nd rfl (Or.inl rfl) (pe_split (pv 0) pe_str))
      (pss_one (ps_ret (pe_and (pe_cmpR op_eq (pe_callB call_len_seq (by rfl) T.z_len PySem.boot_len (pa_cons (pv 1) pa_nil)) pe_int (nomark _)) (pe_and (pe_call (G_is_number T) (hr.mono (by decide)) (by rfl) T.g_is_number T.k_is_number T.B_is_number .nil pass0 (pa_cons (pe_ix ix_list (pv 1) pe_int (fun _ _ => rfl)) pa_nil)) (pe_one (pe_call (G_is_number T) (hr.mono (by decide)) (by rfl) T.g_is_number T.k_is_number T.B_is_number .nil pass0 (pa_cons (pe_ix ix_list (pv 1) pe_int (fun _ _ => rfl)) pa_nil))))))))), ?_⟩
    cases b with
    | none =>
      refine ⟨_, rfl, rfl, _, rfl, ?_⟩
      rw [show decide (V.str (wordT none) = V.str "-") = true from decide_eq_true rfl]
      exact iteT (k H (Ex.refl H))
    | some b =>
      obtain ⟨lo, hi⟩ := b
      have wl := word_len hb
      obtain ⟨h1, h2, h3⟩ := id hb
      refine ⟨_, rfl, rfl, _, rfl, ?_⟩
      rw [show decide (V.str (wordT (some (lo, hi))) = V.str "-") = false from decide_eq_false fun q => word_ne hb (V.str.inj q)]
      refine iteF ?_
      refine ⟨_, rfl, ⟨_, rfl⟩, wordT (some (lo, hi)), "-", rfl, rfl, by decide +kernel, sz_of (by omega), fun p hp => ?_⟩
      rw [show Txt.split (wordT (some (lo, hi))) "-" = [numS lo, numS hi] from time_split (by omega) (by omega)]
      have e0 : Ex H (upd H p (.lst ([numS lo, numS hi].map V.str))) := Ex.new hp
      have mp : (upd H p (.lst ([numS lo, numS hi].map V.str))) p = some (.lst ([numS lo, numS hi].map V.str)) := upd_same
      generalize upd H p (.lst ([numS lo, numS hi].map V.str)) = H1 at e0 mp
      refine ⟨_, rfl, p, _, rfl, .inl (SqL.of mp), rfl, _, rfl, ?_⟩
      rw [show decide (V.int ((([numS lo, numS hi].map V.str).length : Nat) : Int) = V.int 2) = true from decide_eq_true rfl]
      refine iteT ?_
      refine ⟨_, rfl, p, _, _, _, rfl, rfl, SqL.of mp, atI_nat (j := 0) rfl, numS lo, rfl, num_good h1 (by omega), fun H2 e2 => ⟨true, rfl, iteT ?_⟩⟩
      exact ⟨_, rfl, p, _, _, _, rfl, rfl, SqL.of (e2 _ _ mp), atI_nat (j := 1) rfl, numS hi, rfl, num_good (by omega) h3, fun H3 e3 => k H3 (e0.trans (e2.trans e3))⟩
theorem G__read_time (T : Txt K mg a) : FnOk P w K mg base CX0 1 a.f__read_time a.d__read_time ["word"] (sp__read_time K) := by
  refine T.F__read_time.ok sc__read_time (fun vs H Q E h => ?_) (fun cdv A outer s H vs Q E hr h => ?_)
  · obtain ⟨b, rfl, _⟩ := h
    rfl
  · obtain ⟨b, rfl, hb, k⟩ := h
    refine ⟨_, (pss_cons (ps_if (pt_cmpR op_eq (pv 0) (pe_gS rfl T.c_SHUT) (nomark _)) (pss_one (ps_ret pe_non)) pss_nil)
      (pss_one (ps_ret (pe_callTy call_tupK (by rfl) T.z_tuple (by decide +kernel) (pa_cons (pe_lc (own := [("part", 1)]) (g := gName 1) (tt := tYes) rfl sc__read_time.nd (pi_list (pe_split (pv 0) pe_str)) (blkOk_by (N := ["word", "part"]) (sc := defScope s__read_time) (by decide +kernel)) (fun _ _ _ _ _ => pg_name (i := 1) sc__read_time.nd rfl (Or.inl rfl)) (fun _ _ _ _ _ => pts_nil) (fun _ _ _ _ _ => (pe_callTy call_int_str (by rfl) T.z_int (by decide +kernel) (pa_cons (pv 1) pa_nil)))) pa_nil))))), ?_⟩
    cases b with
    | none =>
      refine ⟨_, rfl, rfl, _, rfl, ?_⟩
      rw [show decide (V.str (wordT none) = V.str "-") = true from decide_eq_true rfl]
      exact iteT (k .non H (Ex.refl H) .non)
    | some b =>
      obtain ⟨lo, hi⟩ := b
      have wl := word_len hb
      obtain ⟨h1, h2, h3⟩ := id hb
      refine ⟨_, rfl, rfl, _, rfl, ?_⟩
      rw [show decide (V.str (wordT (some (lo, hi))) = V.str "-") = false from decide_eq_false fun q => word_ne hb (V.str.inj q)]
      refine iteF ?_
      refine ⟨_, rfl, ⟨_, rfl⟩, wordT (some (lo, hi)), "-", rfl, rfl, by decide +kernel, sz_of (by omega), fun p hp => ?_⟩
      rw [show Txt.split (wordT (some (lo, hi))) "-" = [numS lo, numS hi] from time_split (by omega) (by omega)]
      have e0 : Ex H (upd H p (.lst ([numS lo, numS hi].map V.str))) := Ex.new hp
      have mp : (upd H p (.lst ([numS lo, numS hi].map V.str))) p = some (.lst ([numS lo, numS hi].map V.str)) := upd_same
      generalize upd H p (.lst ([numS lo, numS hi].map V.str)) = H1 at e0 mp
      refine ⟨p, rfl, ⟨_, SqL.of mp⟩, fun D hD => lcY_list (K := K) (a := p) (xs := [numS lo, numS hi].map V.str) (fun i H' => Ex H1 H' ∧ H' D = some (.lst ([V.int lo, V.int hi].take i))) ⟨Ex.new hD, upd_same⟩ (fun i H' _ q => SqL.of (q.1 _ _ mp)) (fun i y H' hy q => ?_) (fun H' q => ?_)⟩
      · have hil : i < 2 := (List.getElem?_eq_some_iff.mp hy).1
        have c : i = 0 ∨ i = 1 := by omega
        have n1 := numS_len (i := lo) h1 (by omega)
        have n2 := numS_len (i := hi) (by omega) h3
        rcases c with rfl | rfl
        · obtain rfl := Option.some.inj hy
          exact ⟨rfl, _, rfl, numS lo, lo, rfl, num_int h1 (by omega), by omega, _, q.2, by show 0 < sizeLine; decide, q.1.mut hD, upd_same⟩
        · obtain rfl := Option.some.inj hy
          exact ⟨rfl, _, rfl, numS hi, hi, rfl, num_int (by omega) h3, by omega, _, q.2, by show 1 < sizeLine; decide, q.1.mut hD, upd_same⟩
      · refine ⟨D, [V.int lo, V.int hi], rfl, .inl ⟨SqL.of q.2, fun t ht => ?_⟩⟩
        exact k _ _ (e0.trans (q.1.trans (Ex.new ht))) (.tup (st_of upd_same) (.cons (.int lo) (.cons (.int hi) .nil)))
theorem G__is_path (T : Txt K mg a) : FnOk P w K mg base CX0 2 a.f__is_path a.d__is_path ["words"] (sp__is_path K) := by
  refine T.F__is_path.ok sc__is_path (fun vs H Q E h => ?_) (fun cdv A outer s H vs Q E hr h => ?_)
  · obtain ⟨r, p, rfl, _⟩ := h
    rfl
  · obtain ⟨r, p, rfl, hS, n1, n2, m1, m2, k⟩ := h
    refine ⟨_, (pss_cons (ps_if (PW.pt (pw_or (pt_cmpR op_ne (pe_callB call_len_seq (by rfl) T.z_len PySem.boot_len (pa_cons (pv 0) pa_nil)) pe_int (nomark _)) (pw_or1 (pt_cmpR op_ne (pe_ix ix_list (pv 0) pe_int (fun _ _ => rfl)) pe_str (nomark _))))) (pss_one (ps_ret pe_bl)) pss_nil)
      (pss_one (ps_ret (pe_and (pe_call (G_is_name T) (hr.mono (by decide)) (by rfl) T.g_is_name T.k_is_name T.B_is_name .nil pass0 (pa_cons (pe_ix ix_list (pv 0) pe_int (fun _ _ => rfl)) pa_nil)) (pe_and (pe_call (G_is_name T) (hr.mono (by decide)) (by rfl) T.g_is_name T.k_is_name T.B_is_name .nil pass0 (pa_cons (pe_ix ix_list (pv 0) pe_int (fun _ _ => rfl)) pa_nil)) (pe_one (pe_call (G_is_number T) (hr.mono (by decide)) (by rfl) T.g_is_number T.k_is_number T.B_is_number .nil pass0 (pa_cons (pe_ix ix_list (pv 0) pe_int (fun _ _ => rfl)) pa_nil)))))))), ?_⟩
    refine ⟨_, rfl, r, _, rfl, .inl hS, rfl, _, rfl, ?_⟩
    rw [show decide (V.int ((((pathW p).map V.str).length : Nat) : Int) = V.int 4) = true from decide_eq_true rfl]
    refine iteNT ?_
    refine ⟨_, rfl, r, _, _, _, rfl, rfl, hS, atI_nat (j := 0) rfl, rfl, _, rfl, ?_⟩
    rw [show decide (V.str "path" = V.str "path") = true from decide_eq_true rfl]
    refine iteNT ?_
    have l1 := name_len n1
    have l2 := name_len n2
    refine ⟨_, rfl, r, _, _, _, rfl, rfl, hS, atI_nat (j := 1) rfl, p.1, rfl, by omega, fun H1 e1 => ?_⟩
    rw [n1]
    refine ⟨_, rfl, iteT ?_⟩
    refine ⟨_, rfl, r, _, _, _, rfl, rfl, ex_l e1 hS, atI_nat (j := 2) rfl, p.2.1, rfl, by omega, fun H2 e2 => ?_⟩
    rw [n2]
    refine ⟨_, rfl, iteT ?_⟩
    exact ⟨_, rfl, r, _, _, _, rfl, rfl, ex_l (e1.trans e2) hS, atI_nat (j := 3) rfl, numS p.2.2, rfl, num_good m1 m2, fun H3 e3 => k H3 (e1.trans (e2.trans e3))⟩
theorem G__is_link (T : Txt K mg a) : FnOk P w K mg base CX0 3 a.f__is_link a.d__is_link ["words"] (sp__is_link K) := by
  refine T.F__is_link.ok sc__is_link (fun vs H Q E h => ?_) (fun cdv A outer s H vs Q E hr h => ?_)
  · obtain ⟨r, rfl, _⟩ := h
    rfl
  · obtain ⟨r, rfl, h⟩ := h
    refine ⟨_, (pss_cons (ps_if (PW.pt (pw_or (pt_cmpR op_lt (pe_callB call_len_seq (by rfl) T.z_len PySem.boot_len (pa_cons (pv 0) pa_nil)) pe_int (nomark _)) (pw_or1 (pt_cmpR op_ne (pe_ix ix_list (pv 0) pe_int (fun _ _ => rfl)) pe_str (nomark _))))) (pss_one (ps_ret pe_bl)) pss_nil)
      (pss_one (ps_ret (pe_and (pe_callB (cr_all rfl) (by rfl) T.z_all (by decide +kernel) (pa_cons (pe_lc (own := [("word", 1)]) (g := gName 1) (tt := tYes) rfl sc__is_link.nd (pi_list (pe_slice sl_list (pv 0) (po_some pe_int) (po_some pe_int))) (blkOk_by (N := ["words", "word"]) (sc := defScope s__is_link) (by decide +kernel)) (fun _ _ _ _ _ => pg_name (i := 1) sc__is_link.nd rfl (Or.inl rfl)) (fun _ _ _ _ _ => pts_nil) (fun _ _ _ _ _ => (pe_call (G_is_name T) (hr.mono (by decide)) (by rfl) T.g_is_name T.k_is_name T.B_is_name .nil pass0 (pa_cons (pv 1) pa_nil)))) pa_nil)) (pe_one (pe_callB (cr_all rfl) (by rfl) T.z_all (by decide +kernel) (pa_cons (pe_lc (own := [("word", 1)]) (g := gName 1) (tt := tYes) rfl sc__is_link.nd (pi_list (pe_slice sl_list (pv 0) (po_some pe_int) po_none)) (blkOk_by (N := ["words", "word"]) (sc := defScope s__is_link) (by decide +kernel)) (fun _ _ _ _ _ => pg_name (i := 1) sc__is_link.nd rfl (Or.inl rfl)) (fun _ _ _ _ _ => pts_nil) (fun _ _ _ _ _ => (pe_call (G__is_time T) (hr.mono (by decide)) (by rfl) T.g__is_time T.k__is_time T.B__is_time .nil pass0 (pa_cons (pv 1) pa_nil)))) pa_nil))))))), ?_⟩
    rcases h with ⟨k0, hS, wk, k⟩ | ⟨p, hS, k⟩
    · have ll : ((linkW k0).map V.str).length = k0.ts.length + 4 := by
        rw [List.length_map]
        show (baseL k0 ++ k0.ts.map wordT).length = _
        rw [List.length_append, List.length_map]
        show 4 + _ = _
        omega
      have l100 := wk.l
      refine ⟨_, rfl, r, _, rfl, .inl hS, _, _, rfl, rfl, _, rfl, ?_⟩
      refine ite2 (fun q => absurd (of_decide_eq_true q) (by omega)) (fun _ => ?_)
      refine ⟨_, rfl, r, _, _, _, rfl, rfl, hS, atI_nat (j := 0) rfl, rfl, _, rfl, ?_⟩
      rw [show decide (V.str "link" = V.str "link") = true from decide_eq_true rfl]
      refine iteNT ?_
      -- the names
      refine ⟨_, rfl, _, rfl, _, rfl, r, _, rfl, hS, fun q hq => ?_⟩
      have ce : cutV ((linkW k0).map V.str) (some 1) (some 4) = [k0.n, k0.o, k0.t].map V.str := by
        have z := cut_mid ((linkW k0).map V.str) 1 3
        exact z.trans rfl
      rw [ce]
      have e0 : Ex H (upd H q (.lst ([k0.n, k0.o, k0.t].map V.str))) := Ex.new hq
      have mq : (upd H q (.lst ([k0.n, k0.o, k0.t].map V.str))) q = some (.lst ([k0.n, k0.o, k0.t].map V.str)) := upd_same
      generalize upd H q (.lst ([k0.n, k0.o, k0.t].map V.str)) = H1 at e0 mq
      have n3 : ∀ n ∈ [k0.n, k0.o, k0.t], isName n = true := fun n hn => by
        have c : n = k0.n ∨ n = k0.o ∨ n = k0.t := by simpa using hn
        rcases c with rfl | rfl | rfl
        · exact wk.n
        · exact wk.o
        · exact wk.t
      refine ⟨q, rfl, ⟨_, SqL.of mq⟩, fun D hD => lcY_list (K := K) (a := q) (xs := [k0.n, k0.o, k0.t].map V.str) (fun i H' => Ex H1 H' ∧ H' D = some (.lst (yes i))) ⟨Ex.new hD, upd_same⟩ (fun i H' _ p => SqL.of (p.1 _ _ mq)) (fun i y H' hy p => ?_) (fun H' p => ?_)⟩
      · have hil : i < 3 := (List.getElem?_eq_some_iff.mp hy).1
        rw [List.getElem?_map, List.getElem?_eq_getElem (show i < [k0.n, k0.o, k0.t].length from hil)] at hy
        obtain rfl := Option.some.inj hy
        have ni := n3 _ (List.getElem_mem (show i < [k0.n, k0.o, k0.t].length from hil))
        have nlen := name_len ni
        refine ⟨rfl, _, rfl, _, rfl, Nat.le_trans nlen.2 (by decide), fun H2 e2 => ?_⟩
        rw [ni]
        refine ⟨_, e2 _ _ p.2, sz_lt (by rw [yes_len]; omega), (p.1.trans e2).mut hD, ?_⟩
        rw [upd_same, yes_next]
      · refine ⟨D, List.replicate ([k0.n, k0.o, k0.t].map V.str).length true, rfl, SqL.of p.2, ?_⟩
        rw [yes_all]
        refine ⟨_, rfl, iteT ?_⟩
        -- the times
        have e1 := e0.trans p.1
        refine ⟨_, rfl, _, rfl, r, _, rfl, ex_l e1 hS, fun q2 hq2 => ?_⟩
        have ce2 : cutV ((linkW k0).map V.str) (some 4) none = (k0.ts.map wordT).map V.str := by
          rw [show (4 : Int) = ((4 : Nat) : Int) from rfl, cut_from]
          rfl
        rw [ce2]
        have e2 : Ex H' (upd H' q2 (.lst ((k0.ts.map wordT).map V.str))) := Ex.new hq2
        have mq2 : (upd H' q2 (.lst ((k0.ts.map wordT).map V.str))) q2 = some (.lst ((k0.ts.map wordT).map V.str)) := upd_same
        generalize upd H' q2 (.lst ((k0.ts.map wordT).map V.str)) = H4 at e2 mq2
        refine ⟨q2, rfl, ⟨_, SqL.of mq2⟩, fun D hD => lcY_list (K := K) (a := q2) (xs := (k0.ts.map wordT).map V.str) (fun i H' => Ex H4 H' ∧ H' D = some (.lst (yes i))) ⟨Ex.new hD, upd_same⟩ (fun i H' _ p => SqL.of (p.1 _ _ mq2)) (fun i y H' hy p => ?_) (fun H' p => ?_)⟩
        · have hil : i < ((k0.ts.map wordT).map V.str).length := (List.getElem?_eq_some_iff.mp hy).1
          rw [List.length_map, List.length_map] at hil
          rw [List.getElem?_map, List.getElem?_map, List.getElem?_eq_getElem hil] at hy
          obtain rfl := Option.some.inj hy
          refine ⟨rfl, _, rfl, k0.ts[i], rfl, wk.ts _ (List.getElem_mem hil), fun H2 e3 => ?_⟩
          refine ⟨_, e3 _ _ p.2, sz_lt (by rw [yes_len]; omega), (p.1.trans e3).mut hD, ?_⟩
          rw [upd_same, yes_next]
        · refine ⟨D, List.replicate ((k0.ts.map wordT).map V.str).length true, rfl, SqL.of p.2, ?_⟩
          rw [yes_all]
          exact k H' (e1.trans (e2.trans p.1))
    · refine ⟨_, rfl, r, _, rfl, .inl hS, _, _, rfl, rfl, _, rfl, ?_⟩
      refine ite2 (fun q => absurd (of_decide_eq_true q) (by show ¬ ((4 : Nat) : Int) < 4; decide)) (fun _ => ?_)
      refine ⟨_, rfl, r, _, _, _, rfl, rfl, hS, atI_nat (j := 0) rfl, rfl, _, rfl, ?_⟩
      rw [show decide (V.str "path" = V.str "link") = false from decide_eq_false fun q => absurd (congrArg Str.cps (V.str.inj q)) (by decide +kernel)]
      exact iteNF (k H (Ex.refl H))
theorem G__read_link (T : Txt K mg a) : FnOk P w K mg base CX0 2 a.f__read_link a.d__read_link ["words"] (sp__read_link K) := by
  refine T.F__read_link.ok sc__read_link (fun vs H Q E h => ?_) (fun cdv A outer s H vs Q E hr h => ?_)
  · obtain ⟨r, k0, rfl, _⟩ := h
    rfl
  · obtain ⟨r, k0, rfl, hS, wk, k⟩ := h
    have l100 := wk.l
    refine ⟨_, (pss_one (ps_ret (pe_tup (pa_cons (pe_ix ix_list (pv 0) pe_int (fun _ _ => rfl)) (pa_cons (pe_ix ix_list (pv 0) pe_int (fun _ _ => rfl)) (pa_cons (pe_ix ix_list (pv 0) pe_int (fun _ _ => rfl)) (pa_cons (pe_lc (own := [("word", 1)]) (g := gName 1) (tt := tYes) rfl sc__read_link.nd (pi_list (pe_slice sl_list (pv 0) (po_some pe_int) po_none)) (blkOk_by (N := ["words", "word"]) (sc := defScope s__read_link) (by decide +kernel)) (fun _ _ _ _ _ => pg_name (i := 1) sc__read_link.nd rfl (Or.inl rfl)) (fun _ _ _ _ _ => pts_nil) (fun _ _ _ _ _ => (pe_call (G__read_time T) (hr.mono (by decide)) (by rfl) T.g__read_time T.k__read_time T.B__read_time .nil pass0 (pa_cons (pv 1) pa_nil)))) pa_nil))))))), ?_⟩
    refine ⟨_, rfl, r, _, _, _, rfl, rfl, hS, atI_nat (j := 1) rfl, _, rfl, r, _, _, _, rfl, rfl, hS, atI_nat (j := 2) rfl, _, rfl, r, _, _, _, rfl, rfl, hS, atI_nat (j := 3) rfl, ?_⟩
    refine ⟨_, rfl, _, rfl, r, _, rfl, hS, fun q hq => ?_⟩
    have ce : cutV ((linkW k0).map V.str) (some 4) none = (k0.ts.map wordT).map V.str := by
      rw [show (4 : Int) = ((4 : Nat) : Int) from rfl, cut_from]
      rfl
    rw [ce]
    have e0 : Ex H (upd H q (.lst ((k0.ts.map wordT).map V.str))) := Ex.new hq
    have mq : (upd H q (.lst ((k0.ts.map wordT).map V.str))) q = some (.lst ((k0.ts.map wordT).map V.str)) := upd_same
    generalize upd H q (.lst ((k0.ts.map wordT).map V.str)) = H1 at e0 mq
    refine ⟨q, rfl, ⟨_, SqL.of mq⟩, fun D hD => lcY_list (K := K) (a := q) (xs := (k0.ts.map wordT).map V.str) (fun i H' => Ex H1 H' ∧ ∃ acc, H' D = some (.lst acc) ∧ acc.length = i ∧ DpAll K H' acc ((k0.ts.take i).map dTime)) ⟨Ex.new hD, [], upd_same, rfl, .nil⟩ (fun i H' _ p => SqL.of (p.1 _ _ mq)) (fun i y H' hy p => ?_) (fun H' p => ?_)⟩
    · obtain ⟨e, acc, hacc, hal, hd⟩ := p
      have hil : i < ((k0.ts.map wordT).map V.str).length := (List.getElem?_eq_some_iff.mp hy).1
      rw [List.length_map, List.length_map] at hil
      have eT : k0.ts[i]? = some k0.ts[i] := List.getElem?_eq_getElem hil
      rw [List.getElem?_map, List.getElem?_map, eT] at hy
      obtain rfl := Option.some.inj hy
      refine ⟨rfl, _, rfl, k0.ts[i], rfl, wk.ts _ (List.getElem_mem hil), fun v H2 e2 hv => ?_⟩
      refine ⟨acc, e2 _ _ hacc, sz_lt (by omega), (e.trans e2).mut hD, _, upd_same, by rw [List.length_append, hal] <;> rfl, ?_⟩
      rw [take_one eT, List.map_append]
      exact dps_app (dps_exT (exT_mut (e2 _ _ hacc)) (dps_ex e2 hd) (frozen_times _)) (dps_one (dp_exT (exT_mut (e2 _ _ hacc)) hv (frozen_time _)))
    · obtain ⟨e, acc, hacc, hal, hd⟩ := p
      rw [List.length_map, List.length_map, List.take_length] at hd
      refine ⟨by show 4 ≤ sizeLine; decide, fun t ht => ?_⟩
      have e2 := Ex.new (o := .tup [.str k0.n, .str k0.o, .str k0.t, .ref D]) ht
      have f1 := fresh_back e0 (fresh_back (Ex.refl _) hD)
      have f2 := fresh_back (e0.trans e) ht
      refine k _ t (e0.trans (e.trans e2)) f2 fun A B xs ys hA hB => ?_
      have e3 := e0.trans (e.trans e2)
      have tA : t ≠ A := (ne_of_none hA f2).symm
      have tB : t ≠ B := (ne_of_none hB f2).symm
      have DA : D ≠ A := (ne_of_none hA f1).symm
      have DB : D ≠ B := (ne_of_none hB f1).symm
      have x1 : ExT (upd H' t (.tup [.str k0.n, .str k0.o, .str k0.t, .ref D])) (del (upd H' t (.tup [.str k0.n, .str k0.o, .str k0.t, .ref D])) A) := exT_del (e3 _ _ hA)
      have x2 : ExT (del (upd H' t (.tup [.str k0.n, .str k0.o, .str k0.t, .ref D])) A) (del (del (upd H' t (.tup [.str k0.n, .str k0.o, .str k0.t, .ref D])) A) B) := by
        by_cases q : B = A
        · rw [q]
          intro x zs r
          have nx : x ≠ A := fun z => by
            rcases r with r | ⟨o, r⟩
            · rw [z] at r; simp [del] at r
            · rw [z] at r; simp [del] at r
          rcases r with r | ⟨o, r⟩
          · exact .inl (del_at nx r)
          · exact .inr ⟨o, del_at nx r⟩
        · exact exT_del (del_at q (e3 _ _ hB))
      exact .tup (st_of (del_at tB (del_at tA upd_same))) (.cons (.str _) (.cons (.str _) (.cons (.str _) (.cons (.lst (SqL.of (del_at DB (del_at DA (e2 _ _ hacc)))) (dps_exT (x1.trans x2) (dps_ex e2 hd) (frozen_times _))) .nil))))
end
end EV

set_option Elab.async false
set_option linter.all false
set_option maxRecDepth 100000
set_option maxHeartbeats 4000000
namespace EV
open PySem PySem.Spec PyProof.Rows L2 EvS Evl StX
def dRow (ys : List Str) : PyData := .list (ys.map .str)
theorem row_in {K : PySem.W.Frag} {H : Hp} {v : V} {ys : List Str} (h : Dp K H v (dRow ys)) : ∃ r, v = .ref r ∧ SqL K H r (ys.map V.str) := by
  unfold dRow at h
  cases h with
  | @lst r vs _ hs hr =>
    rw [dps_strs hr] at hs
    exact ⟨r, rfl, hs⟩
theorem del2_upd1 {H : Hp} {A B : Addr} {o : HO} : del (del (upd H A o) A) B = del (del H A) B := by rw [del_upd]
theorem del2_upd2 {H : Hp} {A B : Addr} {o : HO} : del (del (upd H B o) A) B = del (del H A) B := by
  funext x
  unfold del
  by_cases h : x = B
  · rw [if_pos h, if_pos h]
  · rw [if_neg h, if_neg h, upd_ne h]
theorem words_ok {D : LandD} (ok : LandOk D) {k : Link} (hk : k ∈ D.ls) : WordsOk k := by
  have l := ok.lk k hk
  have w4 := ok.w4
  have e := l.len
  exact ⟨ok.gl.1 _ (List.mem_map.mpr ⟨k, hk, rfl⟩), ok.gp.1 _ l.o, ok.gp.1 _ l.t, l.ok, by omega⟩
def sp_parse_land (K : PySem.W.Frag) (C : Addr) : Sp := fun vs H Q _ => ∃ D : LandD, vs = [.str (textOf D)] ∧ LandOk D ∧ ∀ H' x, Ex H H' → H x = none → IsLand K C H' x D → Q (.ref x) H'
section
variable {P : Program} {w : World} {K : PySem.W.Frag} {mg : Str → Option Value} {base : Heap} {a : Ad}
theorem G_parse_land (T : Txt K mg a) : FnOk P w K mg base CX0 5 a.f_parse_land a.d_parse_land ["text"] (sp_parse_land K a.C) := by
  obtain ⟨mv, kb_Land_wplp⟩ := kb_wplp T
  refine T.F_parse_land.ok sc_parse_land (fun vs H Q E h => ?_) (fun cdv A outer s H vs Q E hr h => ?_)
  · obtain ⟨D, rfl, _⟩ := h
    rfl
  · obtain ⟨D, rfl, ok, k⟩ := h
    have l60 := ok.l60
    have a60 := ok.a60
    have w4 := ok.w4
    have p24 := ok.p24
    have ln := lines_num ok
    have tlen : (textOf D).length ≤ 60000 := by
      have z := join_len (sep := "\n") (lines_len ok)
      rw [len_nl] at z
      have : (400 + 1) * (linesOf D).length ≤ (400 + 1) * 122 := Nat.mul_le_mul_left _ ln
      exact Nat.le_trans z (by omega)
    have nw : (wordsOf D).length = D.ls.length + D.pa.length + 2 := by
      unfold wordsOf
      rw [List.length_cons, List.length_cons, List.length_append, List.length_map, List.length_map]
    have nlw : (linesOf D).length = (wordsOf D).length := by rw [lines_words, List.length_map]
    refine ⟨_, (pss_cons (ps_setLc (i := 1) (own := [("line", 6)]) (g := gName 6) (tt := tYes) rfl sc_parse_land.nd rfl rfl (sw_true rfl rfl rfl (by decide +kernel)) (pi_list (pe_split (pv 0) pe_str)) (blkOk_by (N := ["text", "rows", "links", "paths", "number", "words", "line"]) (sc := defScope s_parse_land) (by decide +kernel)) (fun _ _ _ _ _ => pg_name (i := 6) sc_parse_land.nd rfl (Or.inl rfl)) (fun _ _ _ _ _ => pts_nil) (fun _ _ _ _ _ => (pe_split (pv 6) pe_str)))
      (pss_cons (ps_if (pt_not (pt_val (pe_call (G__is_names T) (hr.mono (by decide)) (by rfl) T.g__is_names T.k__is_names T.B__is_names .nil pass0 (pa_cons pe_str (pa_cons (pe_ix ix_list (pv 1) pe_int (fun _ _ => rfl)) pa_nil))))) pss_any pss_nil)
      (pss_cons (ps_if (PW.pt (pw_or (pt_cmpR op_lt (pe_callB call_len_seq (by rfl) T.z_len PySem.boot_len (pa_cons (pv 1) pa_nil)) pe_int (nomark _)) (pw_or1 (pt_not (pt_val (pe_call (G__is_names T) (hr.mono (by decide)) (by rfl) T.g__is_names T.k__is_names T.B__is_names .nil pass0 (pa_cons pe_str (pa_cons (pe_ix ix_list (pv 1) pe_int (fun _ _ => rfl)) pa_nil)))))))) pss_any pss_nil)
      (pss_cons (ps_set (i := 2) sc_parse_land.nd rfl (Or.inl rfl) (pe_lst pa_nil))
      (pss_cons (ps_set (i := 3) sc_parse_land.nd rfl (Or.inl rfl) (pe_lst pa_nil))
      (pss_cons (ps_for PassesOwn.never rfl (EvE.pi_enum3 (by rfl) T.z_enumerate (pa_cons (pe_slice sl_list (pv 1) (po_some pe_int) po_none) pa_nil) pe_int) (pg_tup (by rfl) (pgs_cons (pg_name (i := 4) sc_parse_land.nd rfl (Or.inl rfl)) (pgs_cons (pg_name (i := 5) sc_parse_land.nd rfl (Or.inl rfl)) pgs_nil))) (pss_one (ps_if (PW.pt (pw_and (pt_val (pe_call (G__is_link T) (hr.mono (by decide)) (by rfl) T.g__is_link T.k__is_link T.B__is_link .nil pass0 (pa_cons (pv 5) pa_nil))) (pw_and1 (pt_cmpR op_eq (pe_callB call_len_seq (by rfl) T.z_len PySem.boot_len (pa_cons (pv 3) pa_nil)) pe_int (nomark _))))) (pss_one (ps_expr (pe_bm PySem.F.plainAttrs_list PySem.F.slot_list_append PySem.F.type_list_append mt_append (pv 2) (pa_cons (pe_call (G__read_link T) (hr.mono (by decide)) (by rfl) T.g__read_link T.k__read_link T.B__read_link .nil pass0 (pa_cons (pv 5) pa_nil)) pa_nil)))) (pss_one (ps_if (pt_val (pe_call (G__is_path T) (hr.mono (by decide)) (by rfl) T.g__is_path T.k__is_path T.B__is_path .nil pass0 (pa_cons (pv 5) pa_nil))) (pss_one (ps_expr (pe_bm PySem.F.plainAttrs_list PySem.F.slot_list_append PySem.F.type_list_append mt_append (pv 3) (pa_cons (pe_tup (pa_cons (pe_ix ix_list (pv 5) pe_int (fun _ _ => rfl)) (pa_cons (pe_ix ix_list (pv 5) pe_int (fun _ _ => rfl)) (pa_cons (pe_callTy call_int_str (by rfl) T.z_int (by decide +kernel) (pa_cons (pe_ix ix_list (pv 5) pe_int (fun _ _ => rfl)) pa_nil)) pa_nil)))) pa_nil)))) (pss_one ps_any))))))
      (pss_one (ps_ret (pe_makeK0 T.mk_Land (G_init T) (hr.mono (by decide)) (by rfl) T.g_Land kb_Land_wplp pass0 (pk_cons (pe_slice sl_list (pe_ix ix_list (pv 1) pe_int (fun _ _ => rfl)) (po_some pe_int) po_none) (pk_cons (pe_slice sl_list (pe_ix ix_list (pv 1) pe_int (fun _ _ => rfl)) (po_some pe_int) po_none) (pk_cons (pv 2) (pk_cons (pv 3) pk_nil))))))))))))), ?_⟩
    refine ⟨_, rfl, ⟨_, rfl⟩, textOf D, "\n", rfl, rfl, by decide +kernel, sz_of (by omega), fun p hp => ?_⟩
    rw [text_split ok]
    have e0 : Ex H (upd H p (.lst ((linesOf D).map V.str))) := Ex.new hp
    have mp : (upd H p (.lst ((linesOf D).map V.str))) p = some (.lst ((linesOf D).map V.str)) := upd_same
    generalize upd H p (.lst ((linesOf D).map V.str)) = H1 at e0 mp
    refine ⟨p, rfl, ⟨_, SqL.of mp⟩, fun D0 hD => lcY_list (K := K) (a := p) (xs := (linesOf D).map V.str) (fun i H' => Ex H1 H' ∧ ∃ acc, H' D0 = some (.lst acc) ∧ acc.length = i ∧ DpAll K (del H' D0) acc (((wordsOf D).take i).map dRow)) ⟨Ex.new hD, [], upd_same, rfl, .nil⟩ (fun i H' _ q => SqL.of (q.1 _ _ mp)) (fun i y H' hy q => ?_) (fun H2 q => ?_)⟩
    · obtain ⟨e, acc, hacc, hal, hd⟩ := q
      have hil : i < ((linesOf D).map V.str).length := (List.getElem?_eq_some_iff.mp hy).1
      rw [List.length_map] at hil
      have eZ : (linesOf D)[i]? = some (linesOf D)[i] := List.getElem?_eq_getElem hil
      rw [List.getElem?_map, eZ] at hy
      obtain rfl := Option.some.inj hy
      have zl := lines_len ok _ (List.getElem_mem hil)
      obtain ⟨ys, hys, hsp, hz⟩ := lines_split ok eZ
      refine ⟨rfl, _, rfl, ⟨_, rfl⟩, (linesOf D)[i], " ", rfl, rfl, by decide +kernel, sz_of (by omega), fun r hr => ?_⟩
      rw [hsp]
      have rD : r ≠ D0 := fun z => by rw [z, hacc] at hr; cases hr
      refine ⟨acc, Ex.new hr _ _ hacc, sz_lt (by omega), (e.trans (Ex.new hr)).mut hD, _, upd_same, by rw [List.length_append, hal] <;> rfl, ?_⟩
      rw [del_upd, take_one hys, List.map_append]
      exact dps_app (dps_ex (ex_del (Ex.new hr)) hd) (dps_one (.lst (SqL.of (del_at rD upd_same)) (dps_str ys)))
    obtain ⟨e12, rows, hrows, hrl, hd0⟩ := q
    rw [List.length_map, nlw, List.take_length] at hd0
    rw [List.length_map, nlw] at hrl
    have hd := dps_ex del_ex hd0
    have e2 := e0.trans e12
    clear hd0
    -- the rows of winds and places
    obtain ⟨v0, ev0⟩ : ∃ v, rows[0]? = some v := ⟨rows[0]'(by omega), List.getElem?_eq_getElem (by omega)⟩
    obtain ⟨v1, ev1⟩ : ∃ v, rows[1]? = some v := ⟨rows[1]'(by omega), List.getElem?_eq_getElem (by omega)⟩
    obtain ⟨d0, hd1, hd2⟩ := dps_at hd ev0
    obtain rfl := Option.some.inj hd1
    obtain ⟨r0, rfl, R0⟩ := row_in hd2
    obtain ⟨d1, hd3, hd4⟩ := dps_at hd ev1
    obtain rfl := Option.some.inj hd3
    obtain ⟨r1, rfl, R1⟩ := row_in hd4
    refine ⟨_, rfl, D0, _, _, _, rfl, rfl, SqL.of hrows, atI_nat (j := 0) ev0, "winds", r0, D.ws, rfl, R0, ok.gw.1, by omega, fun H3 e3 => ⟨true, rfl, iteNT ?_⟩⟩
    have hr3 := e3 _ _ hrows
    refine ⟨_, rfl, D0, _, rfl, .inl (SqL.of hr3), _, _, rfl, rfl, _, rfl, ?_⟩
    refine ite2 (fun q => absurd (of_decide_eq_true q) (by omega)) (fun _ => ?_)
    refine ⟨_, rfl, D0, _, _, _, rfl, rfl, SqL.of hr3, atI_nat (j := 1) ev1, "places", r1, D.ps, rfl, ex_l e3 R1, ok.gp.1, by omega, fun H4 e4 => ⟨true, rfl, iteNT ?_⟩⟩
    have e24 := e3.trans e4
    refine ⟨Nat.zero_le _, fun LL hLL => ?_⟩
    refine ⟨Nat.zero_le _, fun PP hPP => ?_⟩
    have LP : LL ≠ PP := ne_of_none upd_same hPP
    have e5 := (Ex.new (o := .lst []) hLL).trans (Ex.new (o := .lst []) hPP)
    have e26 := e24.trans e5
    have mL : (upd (upd H4 LL (.lst [])) PP (.lst [])) LL = some (.lst []) := Ex.new hPP _ _ upd_same
    have mP : (upd (upd H4 LL (.lst [])) PP (.lst [])) PP = some (.lst []) := upd_same
    have hPP4 : H4 PP = none := fresh_back (Ex.new (o := .lst []) hLL) hPP
    refine ⟨_, rfl, _, rfl, D0, _, rfl, SqL.of (e26 _ _ hrows), fun q hq => ?_⟩
    have ce : cutV rows (some 2) none = rows.drop 2 := by
      rw [show (2 : Int) = ((2 : Nat) : Int) from rfl, cut_from]
    rw [ce]
    have e6 := e5.trans (Ex.new (o := .lst (rows.drop 2)) hq)
    have mL6 := Ex.new (o := .lst (rows.drop 2)) hq _ _ mL
    have mP6 := Ex.new (o := .lst (rows.drop 2)) hq _ _ mP
    have mq : (upd (upd (upd H4 LL (.lst [])) PP (.lst [])) q (.lst (rows.drop 2))) q = some (.lst (rows.drop 2)) := upd_same
    have qL : q ≠ LL := (ne_of_none mL hq).symm
    have qP : q ≠ PP := (ne_of_none mP hq).symm
    generalize upd (upd (upd H4 LL (.lst [])) PP (.lst [])) q (.lst (rows.drop 2)) = H6 at e6 mL6 mP6 mq
    have dr : DpAll K H4 (rows.drop 2) ((D.ls.map linkW ++ D.pa.map pathW).map dRow) := by
      have z := dps_drop 2 (dps_ex e24 hd)
      exact z
    have dl : (rows.drop 2).length = D.ls.length + D.pa.length := by rw [List.length_drop]; omega
    refine ⟨q, _, rfl, SqL.of mq, EvE.for_enum3 (K := K) (a := q) (xs := rows.drop 2) (fun i σ H' => ∃ (lv pv : List V) (v4 v5 : Option V), σ = [some (.str (textOf D)), some (.ref D0), some (.ref LL), some (.ref PP), v4, v5, none] ∧ Ex H4 H' ∧ H' q = some (.lst (rows.drop 2)) ∧ H' LL = some (.lst lv) ∧ H' PP = some (.lst pv) ∧ lv.length ≤ i ∧ DpAll K (del (del H' LL) PP) lv ((D.ls.take i).map dRaw) ∧ DpAll K H' pv ((D.pa.take (i - D.ls.length)).map dPath)) ?_ ?_ ?_ ?_⟩
    · refine ⟨[], [], none, none, rfl, e6, mq, mL6, mP6, Nat.le_refl _, ?_, ?_⟩
      · rw [List.take_zero]
        exact .nil
      · rw [Nat.zero_sub, List.take_zero]
        exact .nil
    · rintro i σ H' _ ⟨lv, pv, v4, v5, rfl, _, hq', _⟩
      exact SqL.of hq'
    · rintro i y t σ H7 hy ⟨lv, pv, v4, v5, rfl, e7, hq7, hL7, hP7, hll, hdl, hdp⟩ ht
      have hil : i < (rows.drop 2).length := (List.getElem?_eq_some_iff.mp hy).1
      have tL : t ≠ LL := fun z => by rw [z, hL7] at ht; cases ht
      have tP : t ≠ PP := fun z => by rw [z, hP7] at ht; cases ht
      have e8 := Ex.new (o := .tup [.int (3 + (i : Int)), y]) ht
      have hq8 := e8 _ _ hq7
      have hL8 := e8 _ _ hL7
      have hP8 := e8 _ _ hP7
      have hdl8 := dps_ex (ex_del (D := PP) (ex_del (D := LL) e8)) hdl
      have hdp8 := dps_ex e8 hdp
      have e78 := e7.trans e8
      have mt : (upd H7 t (.tup [.int (3 + (i : Int)), y])) t = some (.tup [.int (3 + (i : Int)), y]) := upd_same
      have lpv : pv.length ≤ 60 := by
        have z := dps_len hdp
        rw [List.length_map, List.length_take] at z
        omega
      refine ⟨t, _, rfl, st_of mt, rfl, _, _, rfl, _, _, rfl, rfl, ?_⟩
      generalize upd H7 t (.tup [.int (3 + (i : Int)), y]) = H8 at e8 hq8 hL8 hP8 hdl8 hdp8 e78 mt
      obtain ⟨d, hdd1, hdd2⟩ := dps_at dr hy
      rw [List.getElem?_map] at hdd1
      rcases Nat.lt_or_ge i D.ls.length with lt | ge
      · -- a link
        have eL : D.ls[i]? = some (D.ls[i]) := List.getElem?_eq_getElem lt
        have hk := List.getElem_mem lt
        rw [List.getElem?_append_left (by rw [List.length_map]; exact lt), List.getElem?_map, eL] at hdd1
        obtain rfl := Option.some.inj hdd1
        generalize D.ls[i] = b at eL hk hdd2
        obtain ⟨r, rfl, hR⟩ := row_in (dp_ex e78 hdd2)
        have wk := words_ok ok hk
        have i0 : i - D.ls.length = 0 := by omega
        rw [i0, List.take_zero] at hdp8
        cases hdp8
        refine ⟨_, rfl, r, rfl, .inl ⟨b, hR, wk, fun H9 e9 => ⟨true, rfl, iteT ?_⟩⟩⟩
        refine ⟨_, rfl, PP, _, rfl, .inl (SqL.of (e9 _ _ hP8)), rfl, _, rfl, ?_⟩
        rw [show decide (V.int ((([] : List V).length : Nat) : Int) = V.int 0) = true from decide_eq_true rfl]
        refine iteT ?_
        have hL9 := e9 _ _ hL8
        refine ⟨_, rfl, .inl ⟨rfl, _, SqL.of hL9⟩, _, rfl, r, b, rfl, ex_l e9 hR, wk, fun H10 u e10 fu hu => ?_⟩
        have hP9 := e9 _ _ hP8
        have hu' := hu LL PP _ _ hL9 hP9
        have hL10 := e10 _ _ hL9
        have hP10 := e10 _ _ hP9
        have e810 := e9.trans e10
        refine ⟨LL, lv, _, rfl, rfl, hL10, sz_lt (by omega), lv ++ [.ref u], [], _, _, rfl, (e78.trans e810).mut hLL, ?_, upd_same, ?_, by rw [List.length_append, List.length_singleton]; omega, ?_, ?_⟩
        · rw [upd_ne qL]
          exact e810 _ _ hq8
        · rw [upd_ne LP.symm]
          exact hP10
        · rw [del2_upd1, take_one eL, List.map_append]
          exact dps_app (dps_ex (ex_del (ex_del e810)) hdl8) (dps_one hu')
        · rw [show i + 1 - D.ls.length = 0 by omega, List.take_zero]
          exact .nil
      · -- a path
        have jl : i - D.ls.length < D.pa.length := by omega
        have eP : D.pa[i - D.ls.length]? = some (D.pa[i - D.ls.length]) := List.getElem?_eq_getElem jl
        have hk := List.getElem_mem jl
        rw [List.getElem?_append_right (by rw [List.length_map]; exact ge), List.length_map, List.getElem?_map, eP] at hdd1
        obtain rfl := Option.some.inj hdd1
        generalize D.pa[i - D.ls.length] = b at eP hk hdd2
        obtain ⟨r, rfl, hR⟩ := row_in (dp_ex e78 hdd2)
        have lb := ok.pt b hk
        have n4 := numS_len lb.lo lb.hi
        refine ⟨_, rfl, r, rfl, .inr ⟨b, hR, fun H9 e9 => ⟨false, rfl, iteF (iteF ?_)⟩⟩⟩
        refine ⟨_, rfl, r, b, rfl, ex_l e9 hR, ok.gp.1 _ lb.o, ok.gp.1 _ lb.t, lb.lo, lb.hi, fun H10 e10 => ⟨true, rfl, iteT ?_⟩⟩
        have e810 := e9.trans e10
        have hP10 := e810 _ _ hP8
        have hR10 := ex_l e810 hR
        refine ⟨_, rfl, .inl ⟨rfl, _, SqL.of hP10⟩, _, rfl, r, _, _, _, rfl, rfl, hR10, atI_nat (j := 1) rfl, _, rfl, r, _, _, _, rfl, rfl, hR10, atI_nat (j := 2) rfl, _, rfl, r, _, _, _, rfl, rfl, hR10, atI_nat (j := 3) rfl, numS b.2.2, b.2.2, rfl, num_int lb.lo lb.hi, by omega, by show 3 ≤ sizeLine; decide, fun u hu => ?_⟩
        have e11 := e810.trans (Ex.new (o := .tup [.str b.1, .str b.2.1, .int b.2.2]) hu)
        have hP11 := e11 _ _ hP8
        refine ⟨PP, pv, _, rfl, rfl, hP11, sz_lt (by omega), lv, pv ++ [.ref u], _, _, rfl, (e78.trans e11).mut hPP4, ?_, ?_, upd_same, by omega, ?_, ?_⟩
        · rw [upd_ne qP]
          exact e11 _ _ hq8
        · rw [upd_ne LP]
          exact e11 _ _ hL8
        · rw [del2_upd2, List.take_of_length_le (by omega)]
          rw [List.take_of_length_le (by omega)] at hdl8
          exact dps_ex (ex_del (ex_del e11)) hdl8
        · rw [show i + 1 - D.ls.length = (i - D.ls.length) + 1 by omega, take_one eP, List.map_append]
          exact dps_app (dps_exT (exT_mut hP11) (dps_ex e11 hdp8) (frozen_paths _)) (dps_one (dp_exT (exT_mut hP11) (.tup (st_of upd_same) (.cons (.str _) (.cons (.str _) (.cons (.int _) .nil)))) (frozen_path b)))
    · rintro σ H7 ⟨lv, pv, v4, v5, rfl, e7, hq7, hL7, hP7, hll, hdl, hdp⟩
      rw [List.take_of_length_le (by omega)] at hdl hdp
      have e27 := e24.trans e7
      have hrows7 := e27 _ _ hrows
      refine ⟨_, rfl, D0, _, _, _, rfl, rfl, SqL.of hrows7, atI_nat (j := 0) ev0, _, rfl, r0, _, rfl, ex_l e27 R0, fun w hw => ?_⟩
      have c1 : cutV ((("winds" : Str) :: D.ws).map V.str) (some 1) none = D.ws.map V.str := by
        rw [show (1 : Int) = ((1 : Nat) : Int) from rfl, cut_from]
        rfl
      rw [c1]
      have g1 := Ex.new (o := .lst (D.ws.map V.str)) hw
      have mw : (upd H7 w (.lst (D.ws.map V.str))) w = some (.lst (D.ws.map V.str)) := upd_same
      generalize upd H7 w (.lst (D.ws.map V.str)) = H8 at g1 mw
      have e28 := e27.trans g1
      refine ⟨_, rfl, D0, _, _, _, rfl, rfl, SqL.of (e28 _ _ hrows), atI_nat (j := 1) ev1, _, rfl, r1, _, rfl, ex_l e28 R1, fun pl hpl => ?_⟩
      have c2 : cutV ((("places" : Str) :: D.ps).map V.str) (some 1) none = D.ps.map V.str := by
        rw [show (1 : Int) = ((1 : Nat) : Int) from rfl, cut_from]
        rfl
      rw [c2]
      have g2 := g1.trans (Ex.new (o := .lst (D.ps.map V.str)) hpl)
      have mw2 := Ex.new (o := .lst (D.ps.map V.str)) hpl _ _ mw
      have mp2 : (upd H8 pl (.lst (D.ps.map V.str))) pl = some (.lst (D.ps.map V.str)) := upd_same
      generalize upd H8 pl (.lst (D.ps.map V.str)) = H9 at g2 mw2 mp2
      have e29 := e2.trans (e27.trans g2)
      refine ⟨_, rfl, _, rfl, rfl, rfl, fun x dx nx ndx ne => ?_⟩
      exact ⟨H9, x, dx, w, pl, LL, PP, D, lv, pv, rfl, (Ex.new ndx).mut nx, nx, upd_same, .inl (SqL.of mw2), .inl (SqL.of mp2), .inl (SqL.of (g2 _ _ hL7)), all2_dps (f := dRaw) (R := LinkIn K _) (fun v b h => raw_in h) (dps_ex (del_ex.trans (del_ex.trans g2)) hdl), .inl (SqL.of (g2 _ _ hP7)), dps_ex g2 hdp, ok, fun H' e hl => ⟨rfl, k H' x (e29.trans e) (fresh_back e29 nx) hl⟩⟩
end
end EV

set_option Elab.async false
set_option linter.all false
set_option maxRecDepth 100000
set_option maxHeartbeats 4000000
namespace EV
open PySem PySem.Spec PyProof.Rows L2 EvS Evl StX
theorem fs_check_place (wi pl li pa : Addr) : (landFs wi pl li pa).lookup ("check_place" : Str) = none := by
  unfold landFs
  rw [lookup_putF, if_neg (by decide +kernel), lookup_putF, if_neg (by decide +kernel), lookup_putF, if_neg (by decide +kernel), lookup_putF, if_neg (by decide +kernel)]
  rfl
theorem fs_minutes (wi pl li pa : Addr) : (landFs wi pl li pa).lookup ("minutes_between" : Str) = none := by
  unfold landFs
  rw [lookup_putF, if_neg (by decide +kernel), lookup_putF, if_neg (by decide +kernel), lookup_putF, if_neg (by decide +kernel), lookup_putF, if_neg (by decide +kernel)]
  rfl
def sp_check_place (K : PySem.W.Frag) (C : Addr) : Sp := fun vs H Q _ => ∃ (x : Addr) (z : Str) (D : LandD), vs = [.ref x, .str z] ∧ IsLand K C H x D ∧ z ∈ D.ps ∧ Q .non H
def dTwo (p q : Str) : PyData := .tuple [.str p, .str q]
theorem two_eqv (a b p q : Str) : PyData.eqv (dTwo a b) (dTwo p q) = decide (a = p ∧ b = q) := by
  have e : PyData.eqv (dTwo a b) (dTwo p q) = ((a == p) && ((b == q) && true)) := by simp [dTwo, PyData.eqv, PyData.eqvAll]
  rw [e, Bool.and_true]
  by_cases h1 : a = p
  · by_cases h2 : b = q
    · rw [decide_eq_true ⟨h1, h2⟩, h1, h2, beq_self_eq_true, beq_self_eq_true]
      rfl
    · rw [decide_eq_false (fun z => h2 z.2), Bool.and_eq_false_iff]
      exact .inr (by
        cases z : (b == q) with
        | false => rfl
        | true => exact absurd (eq_of_beq z) h2)
  · rw [decide_eq_false (fun z => h1 z.1), Bool.and_eq_false_iff]
    exact .inl (by
      cases z : (a == p) with
      | false => rfl
      | true => exact absurd (eq_of_beq z) h1)
theorem two_shaped {p q : Str} (hp : isName p = true) (hq : isName q = true) : SeqAt.shaped (dTwo p q) = true := sh_shaped (n := 2) (sh_tup (n := 1) fun d hd => by
  rcases List.mem_cons.mp hd with rfl | hd
  · exact sh_str hp
  · rw [List.mem_singleton.mp hd]
    exact sh_str hq) (by decide)
def sp__is_between (K : PySem.W.Frag) : Sp := fun vs H Q _ => ∃ (t : Addr) (p q b1 b2 : Str) (m : Int), vs = [.ref t, .str p, .str q] ∧ SqT K H t [.str b1, .str b2, .int m] ∧ isName p = true ∧ isName q = true ∧ isName b1 = true ∧ isName b2 = true ∧
  ∀ H', Ex H H' → Q (.bl (decide ((b1 = p ∧ b2 = q) ∨ (b1 = q ∧ b2 = p)))) H'
def sp_minutes_between (K : PySem.W.Frag) (C : Addr) : Sp := fun vs H Q _ => ∃ (x : Addr) (D : LandD) (b : Str × Str × Int), vs = [.ref x, .str b.2.1, .str b.1] ∧ IsLand K C H x D ∧ LandOk D ∧ b ∈ D.pa ∧ ∀ H', Ex H H' → Q (.int b.2.2) H'
section
variable {P : Program} {w : World} {K : PySem.W.Frag} {mg : Str → Option Value} {base : Heap} {a : Ad}
theorem G_check_place (T : Txt K mg a) : FnOk P w K mg base CX0 1 a.f_check_place a.d_check_place ["self", "place"] (sp_check_place K a.C) := by
  refine T.F_check_place.ok sc_check_place (fun vs H Q E h => ?_) (fun cdv A outer s H vs Q E hr h => ?_)
  · obtain ⟨x, z, D, rfl, _⟩ := h
    rfl
  · obtain ⟨x, z, D, rfl, ⟨dx, wi, pl, li, pa, rows, prs, L⟩, hz, k⟩ := h
    refine ⟨_, (pss_one (ps_if (pt_cmpR op_notIn_seq (pv 1) (pe_fld (pv 0) rfl) (by rfl)) pss_any pss_nil)), ?_⟩
    refine ⟨_, rfl, _, rfl, x, a.C, dx, _, _, rfl, L.ob, T.cl, T.nP, fs_places .., pl, _, rfl, .inr L.pl, rfl, flat_str _, _, rfl, ?_⟩
    rw [inV_str hz]
    exact iteF k
theorem G__is_between (T : Txt K mg a) : FnOk P w K mg base CX0 1 a.f__is_between a.d__is_between ["path", "one", "other"] (sp__is_between K) := by
  refine T.F__is_between.ok sc__is_between (fun vs H Q E h => ?_) (fun cdv A outer s H vs Q E hr h => ?_)
  · obtain ⟨t, p, q, b1, b2, m, rfl, _⟩ := h
    rfl
  · obtain ⟨t, p, q, b1, b2, m, rfl, hT, np, nq, n1, n2, k⟩ := h
    refine ⟨_, (pss_one (ps_ret (pe_or (pe_cmpR (op_eqD hr.units) (pe_slice sl_tup (pv 0) po_none (po_some pe_int)) (pe_tup (pa_cons (pv 1) (pa_cons (pv 2) pa_nil))) (nomark _)) (pe_one (pe_cmpR (op_eqD hr.units) (pe_slice sl_tup (pv 0) po_none (po_some pe_int)) (pe_tup (pa_cons (pv 2) (pa_cons (pv 1) pa_nil))) (nomark _)))))), ?_⟩
    have ce : cutV [V.str b1, V.str b2, V.int m] none (some 2) = [V.str b1, V.str b2] := rfl
    have nw : ¬ (HT.sIx [V.str b1, V.str b2, V.int m].length 0 none = 0 ∧ HT.sIx [V.str b1, V.str b2, V.int m].length [V.str b1, V.str b2, V.int m].length (some 2) = [V.str b1, V.str b2, V.int m].length) := fun z => absurd z.2 (by
      show ¬ HT.sIx 3 3 (some 2) = 3
      decide)
    refine ⟨_, rfl, _, rfl, t, _, rfl, hT, nw, fun s1 h1 => ?_⟩
    rw [ce]
    have e1 := Ex.new (o := .tup [V.str b1, V.str b2]) h1
    refine ⟨_, rfl, _, rfl, by show 2 ≤ sizeLine; decide, fun s2 h2 => ?_⟩
    have e2 := Ex.new (o := .tup [V.str p, V.str q]) h2
    have m1 : (upd (upd H s1 (.tup [V.str b1, V.str b2])) s2 (.tup [V.str p, V.str q])) s1 = some (.tup [V.str b1, V.str b2]) := e2 _ _ upd_same
    have m2 : (upd (upd H s1 (.tup [V.str b1, V.str b2])) s2 (.tup [V.str p, V.str q])) s2 = some (.tup [V.str p, V.str q]) := upd_same
    have e12 := e1.trans e2
    generalize upd (upd H s1 (.tup [V.str b1, V.str b2])) s2 (.tup [V.str p, V.str q]) = H2 at m1 m2 e12
    refine ⟨dTwo b1 b2, dTwo p q, .tup (st_of m1) (.cons (.str _) (.cons (.str _) .nil)), .tup (st_of m2) (.cons (.str _) (.cons (.str _) .nil)), two_shaped n1 n2, two_shaped np nq, ?_⟩
    rw [two_eqv]
    refine ⟨_, rfl, ?_⟩
    refine ite2 (fun h => ?_) (fun h => ?_)
    · have z := k H2 e12
      rw [decide_eq_true (.inl (of_decide_eq_true h))] at z
      exact z
    · refine ⟨_, rfl, _, rfl, t, _, rfl, ex_t e12 hT, nw, fun s3 h3 => ?_⟩
      rw [ce]
      have e3 := Ex.new (o := .tup [V.str b1, V.str b2]) h3
      refine ⟨_, rfl, _, rfl, by show 2 ≤ sizeLine; decide, fun s4 h4 => ?_⟩
      have e4 := Ex.new (o := .tup [V.str q, V.str p]) h4
      refine ⟨dTwo b1 b2, dTwo q p, .tup (st_of (e4 _ _ upd_same)) (.cons (.str _) (.cons (.str _) .nil)), .tup (st_of upd_same) (.cons (.str _) (.cons (.str _) .nil)), two_shaped n1 n2, two_shaped nq np, ?_⟩
      rw [two_eqv]
      have z := k _ (e12.trans (e3.trans e4))
      have nn : ¬ (b1 = p ∧ b2 = q) := fun y => h (decide_eq_true y)
      have e : decide ((b1 = p ∧ b2 = q) ∨ (b1 = q ∧ b2 = p)) = decide (b1 = q ∧ b2 = p) := by
        by_cases y : b1 = q ∧ b2 = p
        · rw [decide_eq_true y, decide_eq_true (.inr y)]
        · rw [decide_eq_false y, decide_eq_false (fun u => u.elim nn y)]
      rw [e] at z
      exact z
theorem G_minutes_between (T : Txt K mg a) : FnOk P w K mg base CX0 2 a.f_minutes_between a.d_minutes_between ["self", "one", "other"] (sp_minutes_between K a.C) := by
  refine T.F_minutes_between.ok sc_minutes_between (fun vs H Q E h => ?_) (fun cdv A outer s H vs Q E hr h => ?_)
  · obtain ⟨x, D, b, rfl, _⟩ := h
    rfl
  · obtain ⟨x, D, b, rfl, hx, ok, hb, k⟩ := h
    have hx0 := hx
    obtain ⟨dx, wi, pl, li, pa, rows, prs, L⟩ := hx
    have al : prs.length = D.pa.length := by rw [dps_len L.ps, List.length_map]
    have lb := ok.pt b hb
    obtain ⟨j, hj, ej⟩ := List.getElem_of_mem hb
    refine ⟨_, (pss_cons (ps_expr (pe_meth (pv 0) T.cl T.m_check_place (G_check_place T) (hr.mono (by decide)) T.B_check_place .nil pass0 (pa_cons (pv 1) pa_nil)))
      (pss_cons (ps_expr (pe_meth (pv 0) T.cl T.m_check_place (G_check_place T) (hr.mono (by decide)) T.B_check_place .nil pass0 (pa_cons (pv 2) pa_nil)))
      (pss_cons (ps_for PassesOwn.never rfl (pi_tup (pe_fld (pv 0) rfl)) (pg_name (i := 3) sc_minutes_between.nd rfl (Or.inl rfl)) (pss_one (ps_if (pt_val (pe_call (G__is_between T) (hr.mono (by decide)) (by rfl) T.g__is_between T.k__is_between T.B__is_between .nil pass0 (pa_cons (pv 3) (pa_cons (pv 1) (pa_cons (pv 2) pa_nil))))) (pss_one (ps_ret (pe_ix ix_tup (pv 3) pe_int (fun _ _ => rfl)))) pss_nil)))
      (pss_one (ps_ret pe_non))))), ?_⟩
    refine ⟨_, rfl, x, dx, _, rfl, L.ob, fs_check_place .., _, rfl, x, b.2.1, D, rfl, hx0, lb.t, ?_⟩
    refine ⟨_, rfl, x, dx, _, rfl, L.ob, fs_check_place .., _, rfl, x, b.1, D, rfl, hx0, lb.o, ?_⟩
    refine ⟨_, rfl, x, a.C, dx, _, _, rfl, L.ob, T.cl, T.nA, fs_paths .., pa, rfl, ⟨_, L.pa⟩, for_tup (K := K) (a := pa) (xs := prs) (fun i σ H' => ∃ v, σ = [some (.ref x), some (.str b.2.1), some (.str b.1), v] ∧ Ex H H' ∧ i ≤ j) ⟨none, rfl, Ex.refl H, Nat.zero_le _⟩ ?_ ?_ ?_⟩
    · rintro i σ H' _ ⟨v, rfl, e, _⟩
      exact ex_t e L.pa
    · rintro i y σ H' hy ⟨v, rfl, e, hij⟩
      have hil : i < prs.length := (List.getElem?_eq_some_iff.mp hy).1
      have hil2 : i < D.pa.length := by omega
      have eP : D.pa[i]? = some (D.pa[i]) := List.getElem?_eq_getElem hil2
      obtain ⟨d, hd1, hd2⟩ := dps_at (dps_ex e L.ps) hy
      rw [List.getElem?_map, eP] at hd1
      obtain rfl := Option.some.inj hd1
      obtain ⟨t, rfl, ht⟩ := path_in hd2
      have lc := ok.pt _ (List.getElem_mem hil2)
      refine ⟨_, rfl, _, rfl, _, rfl, t, b.2.1, b.1, (D.pa[i]).1, (D.pa[i]).2.1, (D.pa[i]).2.2, rfl, ht, ok.gp.1 _ lb.t, ok.gp.1 _ lb.o, ok.gp.1 _ lc.o, ok.gp.1 _ lc.t, fun H2 e2 => ⟨_, rfl, ?_⟩⟩
      have apart : ∀ m n (hm : m < D.pa.length) (hn : n < D.pa.length), m < n → ¬ [(D.pa[m]).1, (D.pa[m]).2.1].Perm [(D.pa[n]).1, (D.pa[n]).2.1] := fun m n hm hn lt => by
        have z := List.pairwise_iff_getElem.mp ok.ap m n (by rw [List.length_map]; exact hm) (by rw [List.length_map]; exact hn) lt
        rw [List.getElem_map, List.getElem_map] at z
        exact z
      refine ite2 (fun h => ?_) (fun h => ?_)
      · have pm : [(D.pa[i]).1, (D.pa[i]).2.1].Perm [(D.pa[j]).1, (D.pa[j]).2.1] := by
          rw [ej]
          rcases of_decide_eq_true h with ⟨q1, q2⟩ | ⟨q1, q2⟩
          · rw [q1, q2]
            exact List.Perm.swap _ _ _
          · rw [q1, q2]
        have eij : i = j := by
          rcases Nat.lt_trichotomy i j with q | q | q
          · exact absurd pm (apart i j hil2 hj q)
          · exact q
          · omega
        subst eij
        refine ⟨_, rfl, t, _, _, _, rfl, rfl, ex_t e2 ht, atI_nat (j := 2) rfl, ?_⟩
        have z := k H2 (e.trans e2)
        rw [← ej] at z
        exact z
      · refine ⟨_, rfl, e.trans e2, ?_⟩
        rcases Nat.lt_or_eq_of_le hij with q | q
        · exact q
        · subst q
          exact absurd (decide_eq_true (.inr ⟨by rw [ej], by rw [ej]⟩)) h
    · rintro σ H' ⟨v, rfl, e, hij⟩
      omega
end
end EV

set_option Elab.async false
set_option linter.all false
set_option maxRecDepth 100000
set_option maxHeartbeats 4000000
namespace EV
open PySem PySem.Spec PyProof.Rows L2 EvS Evl StX
def tiny : LandD := ⟨["a"], ["b"], [], []⟩
theorem tiny_ok : LandOk tiny where
  w1 := by decide
  w4 := by decide
  p1 := by decide
  p24 := by decide
  l60 := Nat.zero_le _
  a60 := Nat.zero_le _
  gw := ⟨fun n hn => by rw [List.mem_singleton.mp hn]; decide +kernel, List.nodup_cons.mpr ⟨by simp, List.nodup_nil⟩⟩
  gp := ⟨fun n hn => by rw [List.mem_singleton.mp hn]; decide +kernel, List.nodup_cons.mpr ⟨by simp, List.nodup_nil⟩⟩
  gl := ⟨fun n hn => (by cases hn), List.nodup_nil⟩
  lk := fun k hk => (by cases hk)
  pt := fun p hp => (by cases hp)
  ap := List.Pairwise.nil
theorem tiny_text : ("winds a\nplaces b" : Str) = textOf tiny := by
  unfold textOf linesOf tiny
  rw [List.map_nil, List.map_nil, List.append_nil, join_two, join_two, join_two, join_one, join_one, join_one]
  decide +kernel
section
variable {P : Program} {w : World} {K : PySem.W.Frag} {mg : Str → Option Value} {base : Heap} {a : Ad}
theorem G_law (T : Txt K mg a) : FnOk P w K mg base CX0 6 a.f_law a.d_law ["script"] (spLaw K) := by
  refine T.F_law.ok sc_law (fun vs H Q E h => ?_) (fun cdv A outer s H vs Q E hr h => ?_)
  · obtain ⟨p, ns, rfl, _⟩ := h
    rfl
  · obtain ⟨p, ns, rfl, hS, k⟩ := h
    refine ⟨_, (pss_cons (ps_set (i := 1) sc_law.nd rfl (Or.inl rfl) (pe_call (G__law_numbers T) (hr.mono (by decide)) (by rfl) T.g__law_numbers T.k__law_numbers T.B__law_numbers .nil pass0 (pa_cons (pv 0) (pa_cons pe_int pa_nil))))
      (pss_cons (ps_set (i := 2) sc_law.nd rfl (Or.inl rfl) (pe_call (G__law_parts T) (hr.mono (by decide)) (by rfl) T.g__law_parts T.k__law_parts T.B__law_parts .nil pass0 (pa_cons (pv 1) pa_nil)))
      (pss_cons (ps_set (i := 3) sc_law.nd rfl (Or.inl rfl) (pe_call (G__law_frozen T) (hr.mono (by decide)) (by rfl) T.g__law_frozen T.k__law_frozen T.B__law_frozen .nil pass0 (pa_cons (pv 2) pa_nil)))
      (pss_cons (ps_set (i := 4) sc_law.nd rfl (Or.inl rfl) (pe_call (G__law_made T) (hr.mono (by decide)) (by rfl) T.g__law_made T.k__law_made T.B__law_made .nil pass0 (pa_cons (pv 2) pa_nil)))
      (pss_cons (ps_set (i := 5) sc_law.nd rfl (Or.inl rfl) (pe_join pe_str (pe_call (G__law_lines T) (hr.mono (by decide)) (by rfl) T.g__law_lines T.k__law_lines T.B__law_lines .nil pass0 (pa_cons (pv 2) pa_nil))))
      (pss_cons (ps_set (i := 6) sc_law.nd rfl (Or.inl rfl) (pe_call (G_parse_land T) (hr.mono (by decide)) (by rfl) T.g_parse_land T.k_parse_land T.B_parse_land .nil pass0 (pa_cons (pv 5) pa_nil)))
      (pss_cons (ps_set (i := 7) sc_law.nd rfl (Or.inl rfl) (pe_call (G_parse_land T) (hr.mono (by decide)) (by rfl) T.g_parse_land T.k_parse_land T.B_parse_land .nil pass0 (pa_cons pe_str pa_nil)))
      (pss_cons (ps_if (PW.pt (pw_or (pt_not (pt_val (pe_call (G__law_same T) (hr.mono (by decide)) (by rfl) T.g__law_same T.k__law_same T.B__law_same .nil pass0 (pa_cons (pv 6) (pa_cons (pv 3) pa_nil))))) (pw_or1 (pt_not (pt_val (pe_call (G__law_same T) (hr.mono (by decide)) (by rfl) T.g__law_same T.k__law_same T.B__law_same .nil pass0 (pa_cons (pv 7) (pa_cons (pe_tup (pa_cons (pe_tup (pa_cons pe_str pa_nil)) (pa_cons (pe_tup (pa_cons pe_str pa_nil)) (pa_cons (pe_tup pa_nil) (pa_cons (pe_tup pa_nil) pa_nil))))) pa_nil)))))))) (pss_one (ps_ret pe_bl)) pss_nil)
      (pss_cons (ps_for PassesOwn.never rfl (pi_tup (pe_ix ix_tup (pv 3) pe_int (fun _ _ => rfl))) (pg_name (i := 8) sc_law.nd rfl (Or.inl rfl)) (pss_one (ps_if (pt_cmpR (op_neD hr.units) (pe_meth (pv 6) T.cl T.m_link (G_link T) (hr.mono (by decide)) T.B_link .nil pass0 (pa_cons (pe_ix ix_tup (pv 8) pe_int (fun _ _ => rfl)) pa_nil)) (pv 8) (nomark _)) (pss_one (ps_ret pe_bl)) pss_nil)))
      (pss_cons (ps_for PassesOwn.never rfl (pi_tup (pe_ix ix_tup (pv 3) pe_int (fun _ _ => rfl))) (pg_tup (by rfl) (pgs_cons (pg_name (i := 9) sc_law.nd rfl (Or.inl rfl)) (pgs_cons (pg_name (i := 10) sc_law.nd rfl (Or.inl rfl)) (pgs_cons (pg_name (i := 11) sc_law.nd rfl (Or.inl rfl)) pgs_nil)))) (pss_one (ps_if (pt_cmpR op_ne (pe_meth (pv 6) T.cl T.m_minutes_between (G_minutes_between T) (hr.mono (by decide)) T.B_minutes_between .nil pass0 (pa_cons (pv 10) (pa_cons (pv 9) pa_nil))) (pv 11) (nomark _)) (pss_one (ps_ret pe_bl)) pss_nil)))
      (pss_one (ps_ret (pe_and (pe_cmpR op_eq (pe_call (G_format_land T) (hr.mono (by decide)) (by rfl) T.g_format_land T.k_format_land T.B_format_land .nil pass0 (pa_cons (pv 6) pa_nil)) (pv 5) (nomark _)) (pe_and (pe_cmpR op_eq (pe_call (G_format_land T) (hr.mono (by decide)) (by rfl) T.g_format_land T.k_format_land T.B_format_land .nil pass0 (pa_cons (pv 4) pa_nil)) (pv 5) (nomark _)) (pe_one (pe_call (G__law_same T) (hr.mono (by decide)) (by rfl) T.g__law_same T.k__law_same T.B__law_same .nil pass0 (pa_cons (pe_call (G_parse_land T) (hr.mono (by decide)) (by rfl) T.g_parse_land T.k_parse_land T.B_parse_land .nil pass0 (pa_cons (pv 5) pa_nil)) (pa_cons (pv 3) pa_nil)))))))))))))))))), ?_⟩
    refine ⟨_, rfl, p, ns, 150, rfl, hS, by decide, by decide, fun H1 l ks e1 hl hL hlen hs => ?_⟩
    have N : Nums K H1 l ks := ⟨SqL.of hL, hs, by omega, by omega⟩
    refine ⟨_, rfl, l, ks, rfl, N, fun H2 q D e2 hq hp ok => ?_⟩
    refine ⟨_, rfl, q, D, rfl, hp, ok, fun H3 d e3 hd hdu => ?_⟩
    refine ⟨_, rfl, q, D, rfl, dp_ex e3 hp, ok, fun H4 x e4 hx hX => ?_⟩
    obtain ⟨dwi, dpl, dli, dpa, drows, dprs, U⟩ := due_in (dp_ex e4 hdu)
    have l60 := ok.l60
    have a60 := ok.a60
    refine ⟨⟨_, rfl⟩, _, rfl, q, D, rfl, dp_ex e4 (dp_ex e3 hp), ok, fun H5 r e5 hr5 hl5 => ?_⟩
    refine ⟨"\n", r, linesOf D, rfl, rfl, .inl (SqL.of hl5), text_fits ok, ?_⟩
    refine ⟨_, rfl, D, rfl, ok, fun H6 y e6 hy hY => ?_⟩
    refine ⟨tiny, congrArg (fun z : Str => [V.str z]) tiny_text, tiny_ok, fun H7 u e7 hu hU => ?_⟩
    have e47 := e5.trans (e6.trans e7)
    refine ⟨_, rfl, _, rfl, y, d, D, rfl, hY.ex e7, (U.ex e47).dp, ok, fun H8 e8 => ⟨true, rfl, iteNT ?_⟩⟩
    refine ⟨_, rfl, by show 1 ≤ sizeLine; decide, fun t1 h1 => ⟨by show 1 ≤ sizeLine; decide, fun t2 h2 => ⟨Nat.zero_le _, fun t3 h3 => ⟨Nat.zero_le _, fun t4 h4 => ⟨by show 4 ≤ sizeLine; decide, fun t5 h5 => ?_⟩⟩⟩⟩⟩
    have x1 := Ex.new (o := .tup [V.str "a"]) h1
    have x2 := Ex.new (o := .tup [V.str "b"]) h2
    have x3 := Ex.new (o := .tup []) h3
    have x4 := Ex.new (o := .tup []) h4
    have x5 := Ex.new (o := .tup [.ref t1, .ref t2, .ref t3, .ref t4]) h5
    have x15 := x1.trans (x2.trans (x3.trans (x4.trans x5)))
    refine ⟨u, t5, tiny, rfl, hU.ex (e8.trans x15), ?_, tiny_ok, fun H9 e9 => ⟨true, rfl, iteNT ?_⟩⟩
    · exact .tup (st_of upd_same) (.cons (.tup (st_of (x5 _ _ (x4 _ _ (x3 _ _ (x2 _ _ upd_same))))) (.cons (.str _) .nil)) (.cons (.tup (st_of (x5 _ _ (x4 _ _ (x3 _ _ upd_same)))) (.cons (.str _) .nil)) (.cons (.tup (st_of (x5 _ _ (x4 _ _ upd_same))) .nil) (.cons (.tup (st_of (x5 _ _ upd_same)) .nil) .nil))))
    have e69 := e7.trans (e8.trans (x15.trans e9))
    have e49 := e5.trans (e6.trans e69)
    generalize upd (upd (upd (upd (upd H8 t1 (.tup [V.str "a"])) t2 (.tup [V.str "b"])) t3 (.tup [])) t4 (.tup [])) t5 (.tup [.ref t1, .ref t2, .ref t3, .ref t4]) = HH at x15 e9
    have U9 := U.ex e49
    have dl : drows.length = D.ls.length := by rw [dps_len U.ls, List.length_map]
    have dpl2 : dprs.length = D.pa.length := by rw [dps_len U.ps, List.length_map]
    -- the links
    refine ⟨_, rfl, d, _, _, _, rfl, rfl, U9.ob, atI_nat (j := 2) rfl, dli, rfl, ⟨_, U9.li⟩, for_tup (K := K) (a := dli) (xs := drows) (fun i σ H' => ∃ v8, σ = [some (.ref p), some (.ref l), some (.ref q), some (.ref d), some (.ref x), some (.str (textOf D)), some (.ref y), some (.ref u), v8, none, none, none] ∧ Ex H9 H') ⟨none, rfl, Ex.refl _⟩ ?_ ?_ ?_⟩
    · rintro i σ H' _ ⟨v8, rfl, e⟩
      exact ex_t e U9.li
    · rintro i z σ H' hz ⟨v8, rfl, e⟩
      have hil : i < drows.length := (List.getElem?_eq_some_iff.mp hz).1
      have hil2 : i < D.ls.length := by omega
      have eL : D.ls[i]? = some (D.ls[i]) := List.getElem?_eq_getElem hil2
      have hm := List.getElem_mem hil2
      obtain ⟨d0, hd1, hd2⟩ := dps_at (U9.ex e).ls hz
      rw [List.getElem?_map, eL] at hd1
      obtain rfl := Option.some.inj hd1
      generalize D.ls[i] = b at eL hm hd2
      obtain ⟨t, u2, vs, rfl, hT, _, _⟩ := made_in hd2
      have hYe := (hY.ex e69).ex e
      obtain ⟨ydx, ywi, ypl, yli, ypa, yrows, yprs, YL⟩ := id hYe
      have sb := sh_shaped (sh_link ok hm) (by decide)
      refine ⟨_, rfl, y, ydx, _, rfl, YL.ob, fs_link .., _, rfl, t, _, _, _, rfl, rfl, hT, atI_nat (j := 0) rfl, y, b.n, D, b, rfl, hYe, ok, hm, rfl, fun t2 ht2 => ?_⟩
      refine ⟨_, rfl, dLink b, dLink b, ht2, hd2, sb, sb, _, rfl, ?_⟩
      rw [eqv_self sb]
      exact iteNT ⟨_, rfl, e⟩
    rintro σ H10 ⟨v8, rfl, e10⟩
    have U10 := U9.ex e10
    -- the paths
    refine ⟨_, rfl, d, _, _, _, rfl, rfl, U10.ob, atI_nat (j := 3) rfl, dpa, rfl, ⟨_, U10.pa⟩, for_tup (K := K) (a := dpa) (xs := dprs) (fun i σ H' => ∃ v9 v10 v11, σ = [some (.ref p), some (.ref l), some (.ref q), some (.ref d), some (.ref x), some (.str (textOf D)), some (.ref y), some (.ref u), v8, v9, v10, v11] ∧ Ex H10 H') ⟨none, none, none, rfl, Ex.refl _⟩ ?_ ?_ ?_⟩
    · rintro i σ H' _ ⟨v9, v10, v11, rfl, e⟩
      exact ex_t e U10.pa
    · rintro i z σ H' hz ⟨v9, v10, v11, rfl, e⟩
      have hil : i < dprs.length := (List.getElem?_eq_some_iff.mp hz).1
      have hil2 : i < D.pa.length := by omega
      have eP : D.pa[i]? = some (D.pa[i]) := List.getElem?_eq_getElem hil2
      have hm := List.getElem_mem hil2
      obtain ⟨d0, hd1, hd2⟩ := dps_at (U10.ex e).ps hz
      rw [List.getElem?_map, eP] at hd1
      obtain rfl := Option.some.inj hd1
      generalize D.pa[i] = b at eP hm hd2
      obtain ⟨t, rfl, ht⟩ := path_in hd2
      have hYe := (hY.ex e69).ex (e10.trans e)
      obtain ⟨ydx, ywi, ypl, yli, ypa, yrows, yprs, YL⟩ := id hYe
      refine ⟨t, _, rfl, ht, rfl, _, _, rfl, _, _, rfl, _, _, rfl, rfl, ?_⟩
      refine ⟨_, rfl, y, ydx, _, rfl, YL.ob, fs_minutes .., _, rfl, _, rfl, y, D, b, rfl, hYe, ok, hm, fun H11 e11 => ?_⟩
      refine ⟨_, rfl, rfl, _, rfl, ?_⟩
      rw [decide_eq_true rfl]
      exact iteNT ⟨_, _, _, rfl, e.trans e11⟩
    rintro σ H11 ⟨v9, v10, v11, rfl, e11⟩
    have f11 := e10.trans e11
    -- the texts
    refine ⟨_, rfl, y, D, rfl, (hY.ex e69).ex f11, ok, fun H12 e12 => ⟨_, rfl, rfl, _, rfl, ?_⟩⟩
    rw [show decide (V.str (textOf D) = V.str (textOf D)) = true from decide_eq_true rfl]
    refine iteT ?_
    have f12 := f11.trans e12
    refine ⟨_, rfl, x, D, rfl, (hX.ex e49).ex f12, ok, fun H13 e13 => ⟨_, rfl, rfl, _, rfl, ?_⟩⟩
    rw [show decide (V.str (textOf D) = V.str (textOf D)) = true from decide_eq_true rfl]
    refine iteT ?_
    have f13 := f12.trans e13
    refine ⟨_, rfl, D, rfl, ok, fun H14 y2 e14 hy2 hY2 => ?_⟩
    exact ⟨_, rfl, y2, d, D, rfl, hY2, (U9.ex (f13.trans e14)).dp, ok, fun H' _ => k H'⟩
end
end EV

set_option Elab.async false
set_option linter.all false
set_option maxRecDepth 100000
set_option maxHeartbeats 4000000
namespace EV
open PySem PySem.Spec PyProof.Rows L2 EvS Evl
theorem all_mk {l : PySem.W.OpenLaw} {w : World} {K : PySem.W.Frag} {h : Heap} {mg : Str → Option Value} {fa C tl te pr D f_is_name f__check_count f__check_names f__check_ends f__as_bounds f__as_link f__as_path f__check_single_paths f__is_between f_init f_link_names f_check_place f_link f_minutes_between f_format_land f__time_word f_parse_land f_is_number f__is_names f__is_link f__is_path f__is_time f__read_link f__read_time f__law_row f__law_numbers f__law_pick f__law_names f__law_count f__law_times f__law_paths f__law_parts f__law_made f__law_frozen f__law_same f__law_lines f_law : Addr} (X : K.In h) (G : h.Ns mainGlobals mg) (hfa : mg "law" = some (.ref fa))
    {od_is_name an_is_name od__check_count an__check_count od__check_names an__check_names od__check_ends an__check_ends od__as_bounds an__as_bounds od__as_link an__as_link od__as_path an__as_path od__check_single_paths an__check_single_paths od__is_between an__is_between od_init an_init od_link_names an_link_names od_check_place an_check_place od_link an_link od_minutes_between an_minutes_between od_format_land an_format_land od__time_word an__time_word od_parse_land an_parse_land od_is_number an_is_number od__is_names an__is_names od__is_link an__is_link od__is_path an__is_path od__is_time an__is_time od__read_link an__read_link od__read_time an__read_time od__law_row an__law_row od__law_numbers an__law_numbers od__law_pick an__law_pick od__law_names an__law_names od__law_count an__law_count od__law_times an__law_times od__law_paths an__law_paths od__law_parts an__law_parts od__law_made an__law_made od__law_frozen an__law_frozen od__law_same an__law_same od__law_lines an__law_lines od_law an_law dd_tl dd_te : Option Addr} {sl_is_name sl__check_count sl__check_names sl__check_ends sl__as_bounds sl__as_link sl__as_path sl__check_single_paths sl__is_between sl_init sl_link_names sl_check_place sl_link sl_minutes_between sl_format_land sl__time_word sl_parse_land sl_is_number sl__is_names sl__is_link sl__is_path sl__is_time sl__read_link sl__read_time sl__law_row sl__law_numbers sl__law_pick sl__law_names sl__law_count sl__law_times sl__law_paths sl__law_parts sl__law_made sl__law_frozen sl__law_same sl__law_lines sl_law sl_tl sl_te : Array (Option Value)} {oc_is_name kV_is_name dc_is_name pm_is_name cd_is_name ct_is_name oc__check_count kV__check_count dc__check_count pm__check_count cd__check_count ct__check_count oc__check_names kV__check_names dc__check_names pm__check_names cd__check_names ct__check_names oc__check_ends kV__check_ends dc__check_ends pm__check_ends cd__check_ends ct__check_ends oc__as_bounds kV__as_bounds dc__as_bounds pm__as_bounds cd__as_bounds ct__as_bounds oc__as_link kV__as_link dc__as_link pm__as_link cd__as_link ct__as_link oc__as_path kV__as_path dc__as_path pm__as_path cd__as_path ct__as_path oc__check_single_paths kV__check_single_paths dc__check_single_paths pm__check_single_paths cd__check_single_paths ct__check_single_paths oc__is_between kV__is_between dc__is_between pm__is_between cd__is_between ct__is_between oc_init dc_init pm_init cd_init ct_init oc_link_names kV_link_names dc_link_names pm_link_names cd_link_names ct_link_names oc_check_place kV_check_place dc_check_place pm_check_place cd_check_place ct_check_place oc_link kV_link dc_link pm_link cd_link ct_link oc_minutes_between kV_minutes_between dc_minutes_between pm_minutes_between cd_minutes_between ct_minutes_between oc_format_land kV_format_land dc_format_land pm_format_land cd_format_land ct_format_land oc__time_word kV__time_word dc__time_word pm__time_word cd__time_word ct__time_word oc_parse_land kV_parse_land dc_parse_land pm_parse_land cd_parse_land ct_parse_land oc_is_number kV_is_number dc_is_number pm_is_number cd_is_number ct_is_number oc__is_names kV__is_names dc__is_names pm__is_names cd__is_names ct__is_names oc__is_link kV__is_link dc__is_link pm__is_link cd__is_link ct__is_link oc__is_path kV__is_path dc__is_path pm__is_path cd__is_path ct__is_path oc__is_time kV__is_time dc__is_time pm__is_time cd__is_time ct__is_time oc__read_link kV__read_link dc__read_link pm__read_link cd__read_link ct__read_link oc__read_time kV__read_time dc__read_time pm__read_time cd__read_time ct__read_time oc__law_row kV__law_row dc__law_row pm__law_row cd__law_row ct__law_row oc__law_numbers kV__law_numbers dc__law_numbers pm__law_numbers cd__law_numbers ct__law_numbers oc__law_pick kV__law_pick dc__law_pick pm__law_pick cd__law_pick ct__law_pick oc__law_names kV__law_names dc__law_names pm__law_names cd__law_names ct__law_names oc__law_count kV__law_count dc__law_count pm__law_count cd__law_count ct__law_count oc__law_times kV__law_times dc__law_times pm__law_times cd__law_times ct__law_times oc__law_paths kV__law_paths dc__law_paths pm__law_paths cd__law_paths ct__law_paths oc__law_parts kV__law_parts dc__law_parts pm__law_parts cd__law_parts ct__law_parts oc__law_made kV__law_made dc__law_made pm__law_made cd__law_made ct__law_made oc__law_frozen kV__law_frozen dc__law_frozen pm__law_frozen cd__law_frozen ct__law_frozen oc__law_same kV__law_same dc__law_same pm__law_same cd__law_same ct__law_same oc__law_lines kV__law_lines dc__law_lines pm__law_lines cd__law_lines ct__law_lines oc_law kV_law dc_law pm_law cd_law ct_law : Value} {n_tl n_te : Nat} {rest_pr : List Value} {t_DIGITS t_LETTERS t_LONGEST_NAME t_MOST_DIGITS t_MOST_LINKS t_MOST_MINUTES t_MOST_PATHS t_MOST_PLACES t_MOST_WINDS t_SHUT : Tok}
    (aC : PySem.W.nsIn K mainGlobals "Land" = some (some (.ref C)))
    (a_is_name : PySem.W.nsIn K mainGlobals "is_name" = some (some (.ref f_is_name)))
    (l_is_name : K.lookup f_is_name = some ⟨oc_is_name, od_is_name, .func (PySem.W.fnOf "is_name" "is_name" (defArgs s_is_name) (defBody s_is_name) (defScope s_is_name) .none kV_is_name dc_is_name pm_is_name an_is_name cd_is_name ct_is_name), sl_is_name⟩)
    (c_is_name : PySem.W.codeIn K cd_is_name "is_name" = true)
    (k_is_name : PySem.W.keepIn K (.ref f_is_name) = true)
    (a__check_count : PySem.W.nsIn K mainGlobals "_check_count" = some (some (.ref f__check_count)))
    (l__check_count : K.lookup f__check_count = some ⟨oc__check_count, od__check_count, .func (PySem.W.fnOf "_check_count" "_check_count" (defArgs s__check_count) (defBody s__check_count) (defScope s__check_count) .none kV__check_count dc__check_count pm__check_count an__check_count cd__check_count ct__check_count), sl__check_count⟩)
    (c__check_count : PySem.W.codeIn K cd__check_count "_check_count" = true)
    (k__check_count : PySem.W.keepIn K (.ref f__check_count) = true)
    (a__check_names : PySem.W.nsIn K mainGlobals "_check_names" = some (some (.ref f__check_names)))
    (l__check_names : K.lookup f__check_names = some ⟨oc__check_names, od__check_names, .func (PySem.W.fnOf "_check_names" "_check_names" (defArgs s__check_names) (defBody s__check_names) (defScope s__check_names) .none kV__check_names dc__check_names pm__check_names an__check_names cd__check_names ct__check_names), sl__check_names⟩)
    (c__check_names : PySem.W.codeIn K cd__check_names "_check_names" = true)
    (k__check_names : PySem.W.keepIn K (.ref f__check_names) = true)
    (a__check_ends : PySem.W.nsIn K mainGlobals "_check_ends" = some (some (.ref f__check_ends)))
    (l__check_ends : K.lookup f__check_ends = some ⟨oc__check_ends, od__check_ends, .func (PySem.W.fnOf "_check_ends" "_check_ends" (defArgs s__check_ends) (defBody s__check_ends) (defScope s__check_ends) .none kV__check_ends dc__check_ends pm__check_ends an__check_ends cd__check_ends ct__check_ends), sl__check_ends⟩)
    (c__check_ends : PySem.W.codeIn K cd__check_ends "_check_ends" = true)
    (k__check_ends : PySem.W.keepIn K (.ref f__check_ends) = true)
    (a__as_bounds : PySem.W.nsIn K mainGlobals "_as_bounds" = some (some (.ref f__as_bounds)))
    (l__as_bounds : K.lookup f__as_bounds = some ⟨oc__as_bounds, od__as_bounds, .func (PySem.W.fnOf "_as_bounds" "_as_bounds" (defArgs s__as_bounds) (defBody s__as_bounds) (defScope s__as_bounds) .none kV__as_bounds dc__as_bounds pm__as_bounds an__as_bounds cd__as_bounds ct__as_bounds), sl__as_bounds⟩)
    (c__as_bounds : PySem.W.codeIn K cd__as_bounds "_as_bounds" = true)
    (k__as_bounds : PySem.W.keepIn K (.ref f__as_bounds) = true)
    (a__as_link : PySem.W.nsIn K mainGlobals "_as_link" = some (some (.ref f__as_link)))
    (l__as_link : K.lookup f__as_link = some ⟨oc__as_link, od__as_link, .func (PySem.W.fnOf "_as_link" "_as_link" (defArgs s__as_link) (defBody s__as_link) (defScope s__as_link) .none kV__as_link dc__as_link pm__as_link an__as_link cd__as_link ct__as_link), sl__as_link⟩)
    (c__as_link : PySem.W.codeIn K cd__as_link "_as_link" = true)
    (k__as_link : PySem.W.keepIn K (.ref f__as_link) = true)
    (a__as_path : PySem.W.nsIn K mainGlobals "_as_path" = some (some (.ref f__as_path)))
    (l__as_path : K.lookup f__as_path = some ⟨oc__as_path, od__as_path, .func (PySem.W.fnOf "_as_path" "_as_path" (defArgs s__as_path) (defBody s__as_path) (defScope s__as_path) .none kV__as_path dc__as_path pm__as_path an__as_path cd__as_path ct__as_path), sl__as_path⟩)
    (c__as_path : PySem.W.codeIn K cd__as_path "_as_path" = true)
    (k__as_path : PySem.W.keepIn K (.ref f__as_path) = true)
    (a__check_single_paths : PySem.W.nsIn K mainGlobals "_check_single_paths" = some (some (.ref f__check_single_paths)))
    (l__check_single_paths : K.lookup f__check_single_paths = some ⟨oc__check_single_paths, od__check_single_paths, .func (PySem.W.fnOf "_check_single_paths" "_check_single_paths" (defArgs s__check_single_paths) (defBody s__check_single_paths) (defScope s__check_single_paths) .none kV__check_single_paths dc__check_single_paths pm__check_single_paths an__check_single_paths cd__check_single_paths ct__check_single_paths), sl__check_single_paths⟩)
    (c__check_single_paths : PySem.W.codeIn K cd__check_single_paths "_check_single_paths" = true)
    (k__check_single_paths : PySem.W.keepIn K (.ref f__check_single_paths) = true)
    (a__is_between : PySem.W.nsIn K mainGlobals "_is_between" = some (some (.ref f__is_between)))
    (l__is_between : K.lookup f__is_between = some ⟨oc__is_between, od__is_between, .func (PySem.W.fnOf "_is_between" "_is_between" (defArgs s__is_between) (defBody s__is_between) (defScope s__is_between) .none kV__is_between dc__is_between pm__is_between an__is_between cd__is_between ct__is_between), sl__is_between⟩)
    (c__is_between : PySem.W.codeIn K cd__is_between "_is_between" = true)
    (k__is_between : PySem.W.keepIn K (.ref f__is_between) = true)
    (a_init : PySem.W.findIn K (.ref C) "__init__" = some (some (.ref f_init)))
    (i_init : PySem.W.isFn K (.ref f_init) = true)
    (l_init : K.lookup f_init = some ⟨oc_init, od_init, .func (PySem.W.fnOf "__init__" "Land.__init__" (defArgs s_init) (defBody s_init) (defScope s_init) .none (.ref D) dc_init pm_init an_init cd_init ct_init), sl_init⟩)
    (c_init : PySem.W.codeIn K cd_init "Land.__init__" = true)
    (k_init : PySem.W.keepIn K (.ref f_init) = true)
    (tl1 : PySem.W.nsIn K D "links" = some (some (.ref tl)))
    (te1 : PySem.W.nsIn K D "paths" = some (some (.ref te)))
    (tl2 : K.lookup tl = some ⟨.type "tuple", dd_tl, .seq #[] n_tl, sl_tl⟩)
    (te2 : K.lookup te = some ⟨.type "tuple", dd_te, .seq #[] n_te, sl_te⟩)
    (pr1 : PySem.W.findIn K (.ref C) "link_names" = some (some (.ref pr)))
    (pr2 : PySem.W.specialIn K (.ref pr) "__get__" = some (some (.builtin "property.__get__")))
    (pr3 : PySem.W.takesIn K (.ref pr) = some true)
    (pr4 : PySem.W.recIn K pr "property" = some (.ref f_link_names :: rest_pr))
    (l_link_names : K.lookup f_link_names = some ⟨oc_link_names, od_link_names, .func (PySem.W.fnOf "link_names" "Land.link_names" (defArgs s_link_names) (defBody s_link_names) (defScope s_link_names) .none kV_link_names dc_link_names pm_link_names an_link_names cd_link_names ct_link_names), sl_link_names⟩)
    (c_link_names : PySem.W.codeIn K cd_link_names "Land.link_names" = true)
    (k_link_names : PySem.W.keepIn K (.ref f_link_names) = true)
    (a_check_place : PySem.W.findIn K (.ref C) "check_place" = some (some (.ref f_check_place)))
    (i_check_place : PySem.W.isFn K (.ref f_check_place) = true)
    (l_check_place : K.lookup f_check_place = some ⟨oc_check_place, od_check_place, .func (PySem.W.fnOf "check_place" "Land.check_place" (defArgs s_check_place) (defBody s_check_place) (defScope s_check_place) .none kV_check_place dc_check_place pm_check_place an_check_place cd_check_place ct_check_place), sl_check_place⟩)
    (c_check_place : PySem.W.codeIn K cd_check_place "Land.check_place" = true)
    (k_check_place : PySem.W.keepIn K (.ref f_check_place) = true)
    (a_link : PySem.W.findIn K (.ref C) "link" = some (some (.ref f_link)))
    (i_link : PySem.W.isFn K (.ref f_link) = true)
    (l_link : K.lookup f_link = some ⟨oc_link, od_link, .func (PySem.W.fnOf "link" "Land.link" (defArgs s_link) (defBody s_link) (defScope s_link) .none kV_link dc_link pm_link an_link cd_link ct_link), sl_link⟩)
    (c_link : PySem.W.codeIn K cd_link "Land.link" = true)
    (k_link : PySem.W.keepIn K (.ref f_link) = true)
    (a_minutes_between : PySem.W.findIn K (.ref C) "minutes_between" = some (some (.ref f_minutes_between)))
    (i_minutes_between : PySem.W.isFn K (.ref f_minutes_between) = true)
    (l_minutes_between : K.lookup f_minutes_between = some ⟨oc_minutes_between, od_minutes_between, .func (PySem.W.fnOf "minutes_between" "Land.minutes_between" (defArgs s_minutes_between) (defBody s_minutes_between) (defScope s_minutes_between) .none kV_minutes_between dc_minutes_between pm_minutes_between an_minutes_between cd_minutes_between ct_minutes_between), sl_minutes_between⟩)
    (c_minutes_between : PySem.W.codeIn K cd_minutes_between "Land.minutes_between" = true)
    (k_minutes_between : PySem.W.keepIn K (.ref f_minutes_between) = true)
    (a_format_land : PySem.W.nsIn K mainGlobals "format_land" = some (some (.ref f_format_land)))
    (l_format_land : K.lookup f_format_land = some ⟨oc_format_land, od_format_land, .func (PySem.W.fnOf "format_land" "format_land" (defArgs s_format_land) (defBody s_format_land) (defScope s_format_land) .none kV_format_land dc_format_land pm_format_land an_format_land cd_format_land ct_format_land), sl_format_land⟩)
    (c_format_land : PySem.W.codeIn K cd_format_land "format_land" = true)
    (k_format_land : PySem.W.keepIn K (.ref f_format_land) = true)
    (a__time_word : PySem.W.nsIn K mainGlobals "_time_word" = some (some (.ref f__time_word)))
    (l__time_word : K.lookup f__time_word = some ⟨oc__time_word, od__time_word, .func (PySem.W.fnOf "_time_word" "_time_word" (defArgs s__time_word) (defBody s__time_word) (defScope s__time_word) .none kV__time_word dc__time_word pm__time_word an__time_word cd__time_word ct__time_word), sl__time_word⟩)
    (c__time_word : PySem.W.codeIn K cd__time_word "_time_word" = true)
    (k__time_word : PySem.W.keepIn K (.ref f__time_word) = true)
    (a_parse_land : PySem.W.nsIn K mainGlobals "parse_land" = some (some (.ref f_parse_land)))
    (l_parse_land : K.lookup f_parse_land = some ⟨oc_parse_land, od_parse_land, .func (PySem.W.fnOf "parse_land" "parse_land" (defArgs s_parse_land) (defBody s_parse_land) (defScope s_parse_land) .none kV_parse_land dc_parse_land pm_parse_land an_parse_land cd_parse_land ct_parse_land), sl_parse_land⟩)
    (c_parse_land : PySem.W.codeIn K cd_parse_land "parse_land" = true)
    (k_parse_land : PySem.W.keepIn K (.ref f_parse_land) = true)
    (a_is_number : PySem.W.nsIn K mainGlobals "is_number" = some (some (.ref f_is_number)))
    (l_is_number : K.lookup f_is_number = some ⟨oc_is_number, od_is_number, .func (PySem.W.fnOf "is_number" "is_number" (defArgs s_is_number) (defBody s_is_number) (defScope s_is_number) .none kV_is_number dc_is_number pm_is_number an_is_number cd_is_number ct_is_number), sl_is_number⟩)
    (c_is_number : PySem.W.codeIn K cd_is_number "is_number" = true)
    (k_is_number : PySem.W.keepIn K (.ref f_is_number) = true)
    (a__is_names : PySem.W.nsIn K mainGlobals "_is_names" = some (some (.ref f__is_names)))
    (l__is_names : K.lookup f__is_names = some ⟨oc__is_names, od__is_names, .func (PySem.W.fnOf "_is_names" "_is_names" (defArgs s__is_names) (defBody s__is_names) (defScope s__is_names) .none kV__is_names dc__is_names pm__is_names an__is_names cd__is_names ct__is_names), sl__is_names⟩)
    (c__is_names : PySem.W.codeIn K cd__is_names "_is_names" = true)
    (k__is_names : PySem.W.keepIn K (.ref f__is_names) = true)
    (a__is_link : PySem.W.nsIn K mainGlobals "_is_link" = some (some (.ref f__is_link)))
    (l__is_link : K.lookup f__is_link = some ⟨oc__is_link, od__is_link, .func (PySem.W.fnOf "_is_link" "_is_link" (defArgs s__is_link) (defBody s__is_link) (defScope s__is_link) .none kV__is_link dc__is_link pm__is_link an__is_link cd__is_link ct__is_link), sl__is_link⟩)
    (c__is_link : PySem.W.codeIn K cd__is_link "_is_link" = true)
    (k__is_link : PySem.W.keepIn K (.ref f__is_link) = true)
    (a__is_path : PySem.W.nsIn K mainGlobals "_is_path" = some (some (.ref f__is_path)))
    (l__is_path : K.lookup f__is_path = some ⟨oc__is_path, od__is_path, .func (PySem.W.fnOf "_is_path" "_is_path" (defArgs s__is_path) (defBody s__is_path) (defScope s__is_path) .none kV__is_path dc__is_path pm__is_path an__is_path cd__is_path ct__is_path), sl__is_path⟩)
    (c__is_path : PySem.W.codeIn K cd__is_path "_is_path" = true)
    (k__is_path : PySem.W.keepIn K (.ref f__is_path) = true)
    (a__is_time : PySem.W.nsIn K mainGlobals "_is_time" = some (some (.ref f__is_time)))
    (l__is_time : K.lookup f__is_time = some ⟨oc__is_time, od__is_time, .func (PySem.W.fnOf "_is_time" "_is_time" (defArgs s__is_time) (defBody s__is_time) (defScope s__is_time) .none kV__is_time dc__is_time pm__is_time an__is_time cd__is_time ct__is_time), sl__is_time⟩)
    (c__is_time : PySem.W.codeIn K cd__is_time "_is_time" = true)
    (k__is_time : PySem.W.keepIn K (.ref f__is_time) = true)
    (a__read_link : PySem.W.nsIn K mainGlobals "_read_link" = some (some (.ref f__read_link)))
    (l__read_link : K.lookup f__read_link = some ⟨oc__read_link, od__read_link, .func (PySem.W.fnOf "_read_link" "_read_link" (defArgs s__read_link) (defBody s__read_link) (defScope s__read_link) .none kV__read_link dc__read_link pm__read_link an__read_link cd__read_link ct__read_link), sl__read_link⟩)
    (c__read_link : PySem.W.codeIn K cd__read_link "_read_link" = true)
    (k__read_link : PySem.W.keepIn K (.ref f__read_link) = true)
    (a__read_time : PySem.W.nsIn K mainGlobals "_read_time" = some (some (.ref f__read_time)))
    (l__read_time : K.lookup f__read_time = some ⟨oc__read_time, od__read_time, .func (PySem.W.fnOf "_read_time" "_read_time" (defArgs s__read_time) (defBody s__read_time) (defScope s__read_time) .none kV__read_time dc__read_time pm__read_time an__read_time cd__read_time ct__read_time), sl__read_time⟩)
    (c__read_time : PySem.W.codeIn K cd__read_time "_read_time" = true)
    (k__read_time : PySem.W.keepIn K (.ref f__read_time) = true)
    (a__law_row : PySem.W.nsIn K mainGlobals "_law_row" = some (some (.ref f__law_row)))
    (l__law_row : K.lookup f__law_row = some ⟨oc__law_row, od__law_row, .func (PySem.W.fnOf "_law_row" "_law_row" (defArgs s__law_row) (defBody s__law_row) (defScope s__law_row) .none kV__law_row dc__law_row pm__law_row an__law_row cd__law_row ct__law_row), sl__law_row⟩)
    (c__law_row : PySem.W.codeIn K cd__law_row "_law_row" = true)
    (k__law_row : PySem.W.keepIn K (.ref f__law_row) = true)
    (a__law_numbers : PySem.W.nsIn K mainGlobals "_law_numbers" = some (some (.ref f__law_numbers)))
    (l__law_numbers : K.lookup f__law_numbers = some ⟨oc__law_numbers, od__law_numbers, .func (PySem.W.fnOf "_law_numbers" "_law_numbers" (defArgs s__law_numbers) (defBody s__law_numbers) (defScope s__law_numbers) .none kV__law_numbers dc__law_numbers pm__law_numbers an__law_numbers cd__law_numbers ct__law_numbers), sl__law_numbers⟩)
    (c__law_numbers : PySem.W.codeIn K cd__law_numbers "_law_numbers" = true)
    (k__law_numbers : PySem.W.keepIn K (.ref f__law_numbers) = true)
    (a__law_pick : PySem.W.nsIn K mainGlobals "_law_pick" = some (some (.ref f__law_pick)))
    (l__law_pick : K.lookup f__law_pick = some ⟨oc__law_pick, od__law_pick, .func (PySem.W.fnOf "_law_pick" "_law_pick" (defArgs s__law_pick) (defBody s__law_pick) (defScope s__law_pick) .none kV__law_pick dc__law_pick pm__law_pick an__law_pick cd__law_pick ct__law_pick), sl__law_pick⟩)
    (c__law_pick : PySem.W.codeIn K cd__law_pick "_law_pick" = true)
    (k__law_pick : PySem.W.keepIn K (.ref f__law_pick) = true)
    (a__law_names : PySem.W.nsIn K mainGlobals "_law_names" = some (some (.ref f__law_names)))
    (l__law_names : K.lookup f__law_names = some ⟨oc__law_names, od__law_names, .func (PySem.W.fnOf "_law_names" "_law_names" (defArgs s__law_names) (defBody s__law_names) (defScope s__law_names) .none kV__law_names dc__law_names pm__law_names an__law_names cd__law_names ct__law_names), sl__law_names⟩)
    (c__law_names : PySem.W.codeIn K cd__law_names "_law_names" = true)
    (k__law_names : PySem.W.keepIn K (.ref f__law_names) = true)
    (a__law_count : PySem.W.nsIn K mainGlobals "_law_count" = some (some (.ref f__law_count)))
    (l__law_count : K.lookup f__law_count = some ⟨oc__law_count, od__law_count, .func (PySem.W.fnOf "_law_count" "_law_count" (defArgs s__law_count) (defBody s__law_count) (defScope s__law_count) .none kV__law_count dc__law_count pm__law_count an__law_count cd__law_count ct__law_count), sl__law_count⟩)
    (c__law_count : PySem.W.codeIn K cd__law_count "_law_count" = true)
    (k__law_count : PySem.W.keepIn K (.ref f__law_count) = true)
    (a__law_times : PySem.W.nsIn K mainGlobals "_law_times" = some (some (.ref f__law_times)))
    (l__law_times : K.lookup f__law_times = some ⟨oc__law_times, od__law_times, .func (PySem.W.fnOf "_law_times" "_law_times" (defArgs s__law_times) (defBody s__law_times) (defScope s__law_times) .none kV__law_times dc__law_times pm__law_times an__law_times cd__law_times ct__law_times), sl__law_times⟩)
    (c__law_times : PySem.W.codeIn K cd__law_times "_law_times" = true)
    (k__law_times : PySem.W.keepIn K (.ref f__law_times) = true)
    (a__law_paths : PySem.W.nsIn K mainGlobals "_law_paths" = some (some (.ref f__law_paths)))
    (l__law_paths : K.lookup f__law_paths = some ⟨oc__law_paths, od__law_paths, .func (PySem.W.fnOf "_law_paths" "_law_paths" (defArgs s__law_paths) (defBody s__law_paths) (defScope s__law_paths) .none kV__law_paths dc__law_paths pm__law_paths an__law_paths cd__law_paths ct__law_paths), sl__law_paths⟩)
    (c__law_paths : PySem.W.codeIn K cd__law_paths "_law_paths" = true)
    (k__law_paths : PySem.W.keepIn K (.ref f__law_paths) = true)
    (a__law_parts : PySem.W.nsIn K mainGlobals "_law_parts" = some (some (.ref f__law_parts)))
    (l__law_parts : K.lookup f__law_parts = some ⟨oc__law_parts, od__law_parts, .func (PySem.W.fnOf "_law_parts" "_law_parts" (defArgs s__law_parts) (defBody s__law_parts) (defScope s__law_parts) .none kV__law_parts dc__law_parts pm__law_parts an__law_parts cd__law_parts ct__law_parts), sl__law_parts⟩)
    (c__law_parts : PySem.W.codeIn K cd__law_parts "_law_parts" = true)
    (k__law_parts : PySem.W.keepIn K (.ref f__law_parts) = true)
    (a__law_made : PySem.W.nsIn K mainGlobals "_law_made" = some (some (.ref f__law_made)))
    (l__law_made : K.lookup f__law_made = some ⟨oc__law_made, od__law_made, .func (PySem.W.fnOf "_law_made" "_law_made" (defArgs s__law_made) (defBody s__law_made) (defScope s__law_made) .none kV__law_made dc__law_made pm__law_made an__law_made cd__law_made ct__law_made), sl__law_made⟩)
    (c__law_made : PySem.W.codeIn K cd__law_made "_law_made" = true)
    (k__law_made : PySem.W.keepIn K (.ref f__law_made) = true)
    (a__law_frozen : PySem.W.nsIn K mainGlobals "_law_frozen" = some (some (.ref f__law_frozen)))
    (l__law_frozen : K.lookup f__law_frozen = some ⟨oc__law_frozen, od__law_frozen, .func (PySem.W.fnOf "_law_frozen" "_law_frozen" (defArgs s__law_frozen) (defBody s__law_frozen) (defScope s__law_frozen) .none kV__law_frozen dc__law_frozen pm__law_frozen an__law_frozen cd__law_frozen ct__law_frozen), sl__law_frozen⟩)
    (c__law_frozen : PySem.W.codeIn K cd__law_frozen "_law_frozen" = true)
    (k__law_frozen : PySem.W.keepIn K (.ref f__law_frozen) = true)
    (a__law_same : PySem.W.nsIn K mainGlobals "_law_same" = some (some (.ref f__law_same)))
    (l__law_same : K.lookup f__law_same = some ⟨oc__law_same, od__law_same, .func (PySem.W.fnOf "_law_same" "_law_same" (defArgs s__law_same) (defBody s__law_same) (defScope s__law_same) .none kV__law_same dc__law_same pm__law_same an__law_same cd__law_same ct__law_same), sl__law_same⟩)
    (c__law_same : PySem.W.codeIn K cd__law_same "_law_same" = true)
    (k__law_same : PySem.W.keepIn K (.ref f__law_same) = true)
    (a__law_lines : PySem.W.nsIn K mainGlobals "_law_lines" = some (some (.ref f__law_lines)))
    (l__law_lines : K.lookup f__law_lines = some ⟨oc__law_lines, od__law_lines, .func (PySem.W.fnOf "_law_lines" "_law_lines" (defArgs s__law_lines) (defBody s__law_lines) (defScope s__law_lines) .none kV__law_lines dc__law_lines pm__law_lines an__law_lines cd__law_lines ct__law_lines), sl__law_lines⟩)
    (c__law_lines : PySem.W.codeIn K cd__law_lines "_law_lines" = true)
    (k__law_lines : PySem.W.keepIn K (.ref f__law_lines) = true)
    (a_law : PySem.W.nsIn K mainGlobals "law" = some (some (.ref f_law)))
    (l_law : K.lookup f_law = some ⟨oc_law, od_law, .func (PySem.W.fnOf "law" "law" (defArgs s_law) (defBody s_law) (defScope s_law) .none kV_law dc_law pm_law an_law cd_law ct_law), sl_law⟩)
    (c_law : PySem.W.codeIn K cd_law "law" = true)
    (k_law : PySem.W.keepIn K (.ref f_law) = true)
    (z_abs : PySem.W.nsIn K mainGlobals "abs" = some none)
    (z_all : PySem.W.nsIn K mainGlobals "all" = some none)
    (z_enumerate : PySem.W.nsIn K mainGlobals "enumerate" = some none)
    (z_int : PySem.W.nsIn K mainGlobals "int" = some none)
    (z_len : PySem.W.nsIn K mainGlobals "len" = some none)
    (z_list : PySem.W.nsIn K mainGlobals "list" = some none)
    (z_max : PySem.W.nsIn K mainGlobals "max" = some none)
    (z_min : PySem.W.nsIn K mainGlobals "min" = some none)
    (z_range : PySem.W.nsIn K mainGlobals "range" = some none)
    (z_set : PySem.W.nsIn K mainGlobals "set" = some none)
    (z_sorted : PySem.W.nsIn K mainGlobals "sorted" = some none)
    (z_str : PySem.W.nsIn K mainGlobals "str" = some none)
    (z_tuple : PySem.W.nsIn K mainGlobals "tuple" = some none)
    (g_DIGITS : PySem.W.nsIn K mainGlobals "DIGITS" = some (some (.str "0123456789" t_DIGITS)))
    (g_LETTERS : PySem.W.nsIn K mainGlobals "LETTERS" = some (some (.str "abcdefghijklmnopqrstuvwxyz" t_LETTERS)))
    (g_LONGEST_NAME : PySem.W.nsIn K mainGlobals "LONGEST_NAME" = some (some (.int 12 t_LONGEST_NAME)))
    (g_MOST_DIGITS : PySem.W.nsIn K mainGlobals "MOST_DIGITS" = some (some (.int 6 t_MOST_DIGITS)))
    (g_MOST_LINKS : PySem.W.nsIn K mainGlobals "MOST_LINKS" = some (some (.int 60 t_MOST_LINKS)))
    (g_MOST_MINUTES : PySem.W.nsIn K mainGlobals "MOST_MINUTES" = some (some (.int 1000 t_MOST_MINUTES)))
    (g_MOST_PATHS : PySem.W.nsIn K mainGlobals "MOST_PATHS" = some (some (.int 60 t_MOST_PATHS)))
    (g_MOST_PLACES : PySem.W.nsIn K mainGlobals "MOST_PLACES" = some (some (.int 24 t_MOST_PLACES)))
    (g_MOST_WINDS : PySem.W.nsIn K mainGlobals "MOST_WINDS" = some (some (.int 4 t_MOST_WINDS)))
    (g_SHUT : PySem.W.nsIn K mainGlobals "SHUT" = some (some (.str "-" t_SHUT)))
    (pg : PySem.W.plainGet K C Str.empty = true)
    (hd : PySem.W.hasDictIn K C = true)
    (po : PySem.W.plainOver K C = true)
    (sa : PySem.W.findIn K (.ref C) "__setattr__" = some (some (.builtin "object.__setattr__")))
    (mk : PySem.W.makesIn K C = true)
    (kc : PySem.W.keepIn K (.ref C) = true)
    (nW : PySem.W.findIn K (.ref C) "winds" = some none)
    (nP : PySem.W.findIn K (.ref C) "places" = some none)
    (nL : PySem.W.findIn K (.ref C) "links" = some none)
    (nA : PySem.W.findIn K (.ref C) "paths" = some none)
    : ∃ fd : FuncData, (∀ (s : Shared) (v : Value), BindsTo s fd ⟨[v], []⟩ [("script", v)]) ∧ ∀ base : Heap, K.In base → base.Ns mainGlobals mg → FnOk l.prog w K mg base CX0 6 fa fd ["script"] (spLaw K) := by
  have e := hfa.symm.trans (PySem.W.mg_of X G a_law)
  cases e
  have F_is_name := fun_mk (st := s_is_name) l_is_name c_is_name k_is_name
  have B_is_name := F_is_name.binds (ps := ["text"]) fun _ _ _ _ _ _ us hl => match us, hl with | [_], _ => rfl
  have F__check_count := fun_mk (st := s__check_count) l__check_count c__check_count k__check_count
  have B__check_count := F__check_count.binds (ps := ["sort", "rows", "least", "most"]) fun _ _ _ _ _ _ us hl => match us, hl with | [_, _, _, _], _ => rfl
  have F__check_names := fun_mk (st := s__check_names) l__check_names c__check_names k__check_names
  have B__check_names := F__check_names.binds (ps := ["sort", "names"]) fun _ _ _ _ _ _ us hl => match us, hl with | [_, _], _ => rfl
  have F__check_ends := fun_mk (st := s__check_ends) l__check_ends c__check_ends k__check_ends
  have B__check_ends := F__check_ends.binds (ps := ["sort", "one", "other", "places"]) fun _ _ _ _ _ _ us hl => match us, hl with | [_, _, _, _], _ => rfl
  have F__as_bounds := fun_mk (st := s__as_bounds) l__as_bounds c__as_bounds k__as_bounds
  have B__as_bounds := F__as_bounds.binds (ps := ["bounds"]) fun _ _ _ _ _ _ us hl => match us, hl with | [_], _ => rfl
  have F__as_link := fun_mk (st := s__as_link) l__as_link c__as_link k__as_link
  have B__as_link := F__as_link.binds (ps := ["link", "winds", "places"]) fun _ _ _ _ _ _ us hl => match us, hl with | [_, _, _], _ => rfl
  have F__as_path := fun_mk (st := s__as_path) l__as_path c__as_path k__as_path
  have B__as_path := F__as_path.binds (ps := ["path", "places"]) fun _ _ _ _ _ _ us hl => match us, hl with | [_, _], _ => rfl
  have F__check_single_paths := fun_mk (st := s__check_single_paths) l__check_single_paths c__check_single_paths k__check_single_paths
  have B__check_single_paths := F__check_single_paths.binds (ps := ["paths"]) fun _ _ _ _ _ _ us hl => match us, hl with | [_], _ => rfl
  have F__is_between := fun_mk (st := s__is_between) l__is_between c__is_between k__is_between
  have B__is_between := F__is_between.binds (ps := ["path", "one", "other"]) fun _ _ _ _ _ _ us hl => match us, hl with | [_, _, _], _ => rfl
  have F_init : FunD K "__init__" "Land.__init__" (defArgs s_init) (defBody s_init) (defScope s_init) [] [("links", .ref tl), ("paths", .ref te)] f_init _ := ⟨⟨_, _, _, _, _, _, _, _, _, _, rfl, l_init, c_init, .inl ⟨rfl, rfl⟩, .inr ⟨D, rfl, fun q hq => by
    rcases List.mem_cons.mp hq with z | z
    · rw [z]; exact ⟨_, tl1, rfl⟩
    · rw [List.mem_singleton.mp z]; exact ⟨_, te1, rfl⟩⟩⟩, k_init⟩
  have F_link_names := fun_mk (st := s_link_names) l_link_names c_link_names k_link_names
  have B_link_names := F_link_names.binds (ps := ["self"]) fun _ _ _ _ _ _ us hl => match us, hl with | [_], _ => rfl
  have F_check_place := fun_mk (st := s_check_place) l_check_place c_check_place k_check_place
  have B_check_place := F_check_place.binds (ps := ["self", "place"]) fun _ _ _ _ _ _ us hl => match us, hl with | [_, _], _ => rfl
  have F_link := fun_mk (st := s_link) l_link c_link k_link
  have B_link := F_link.binds (ps := ["self", "name"]) fun _ _ _ _ _ _ us hl => match us, hl with | [_, _], _ => rfl
  have F_minutes_between := fun_mk (st := s_minutes_between) l_minutes_between c_minutes_between k_minutes_between
  have B_minutes_between := F_minutes_between.binds (ps := ["self", "one", "other"]) fun _ _ _ _ _ _ us hl => match us, hl with | [_, _, _], _ => rfl
  have F_format_land := fun_mk (st := s_format_land) l_format_land c_format_land k_format_land
  have B_format_land := F_format_land.binds (ps := ["land"]) fun _ _ _ _ _ _ us hl => match us, hl with | [_], _ => rfl
  have F__time_word := fun_mk (st := s__time_word) l__time_word c__time_word k__time_word
  have B__time_word := F__time_word.binds (ps := ["bounds"]) fun _ _ _ _ _ _ us hl => match us, hl with | [_], _ => rfl
  have F_parse_land := fun_mk (st := s_parse_land) l_parse_land c_parse_land k_parse_land
  have B_parse_land := F_parse_land.binds (ps := ["text"]) fun _ _ _ _ _ _ us hl => match us, hl with | [_], _ => rfl
  have F_is_number := fun_mk (st := s_is_number) l_is_number c_is_number k_is_number
  have B_is_number := F_is_number.binds (ps := ["word"]) fun _ _ _ _ _ _ us hl => match us, hl with | [_], _ => rfl
  have F__is_names := fun_mk (st := s__is_names) l__is_names c__is_names k__is_names
  have B__is_names := F__is_names.binds (ps := ["first", "words"]) fun _ _ _ _ _ _ us hl => match us, hl with | [_, _], _ => rfl
  have F__is_link := fun_mk (st := s__is_link) l__is_link c__is_link k__is_link
  have B__is_link := F__is_link.binds (ps := ["words"]) fun _ _ _ _ _ _ us hl => match us, hl with | [_], _ => rfl
  have F__is_path := fun_mk (st := s__is_path) l__is_path c__is_path k__is_path
  have B__is_path := F__is_path.binds (ps := ["words"]) fun _ _ _ _ _ _ us hl => match us, hl with | [_], _ => rfl
  have F__is_time := fun_mk (st := s__is_time) l__is_time c__is_time k__is_time
  have B__is_time := F__is_time.binds (ps := ["word"]) fun _ _ _ _ _ _ us hl => match us, hl with | [_], _ => rfl
  have F__read_link := fun_mk (st := s__read_link) l__read_link c__read_link k__read_link
  have B__read_link := F__read_link.binds (ps := ["words"]) fun _ _ _ _ _ _ us hl => match us, hl with | [_], _ => rfl
  have F__read_time := fun_mk (st := s__read_time) l__read_time c__read_time k__read_time
  have B__read_time := F__read_time.binds (ps := ["word"]) fun _ _ _ _ _ _ us hl => match us, hl with | [_], _ => rfl
  have F__law_row := fun_mk (st := s__law_row) l__law_row c__law_row k__law_row
  have B__law_row := F__law_row.binds (ps := ["cell", "many"]) fun _ _ _ _ _ _ us hl => match us, hl with | [_, _], _ => rfl
  have F__law_numbers := fun_mk (st := s__law_numbers) l__law_numbers c__law_numbers k__law_numbers
  have B__law_numbers := F__law_numbers.binds (ps := ["script", "many"]) fun _ _ _ _ _ _ us hl => match us, hl with | [_, _], _ => rfl
  have F__law_pick := fun_mk (st := s__law_pick) l__law_pick c__law_pick k__law_pick
  have B__law_pick := F__law_pick.binds (ps := ["numbers", "k"]) fun _ _ _ _ _ _ us hl => match us, hl with | [_, _], _ => rfl
  have F__law_names := fun_mk (st := s__law_names) l__law_names c__law_names k__law_names
  have B__law_names := F__law_names.binds (ps := ["numbers", "at", "many"]) fun _ _ _ _ _ _ us hl => match us, hl with | [_, _, _], _ => rfl
  have F__law_count := fun_mk (st := s__law_count) l__law_count c__law_count k__law_count
  have B__law_count := F__law_count.binds (ps := ["number", "least", "most"]) fun _ _ _ _ _ _ us hl => match us, hl with | [_, _, _], _ => rfl
  have F__law_times := fun_mk (st := s__law_times) l__law_times c__law_times k__law_times
  have B__law_times := F__law_times.binds (ps := ["numbers", "k", "many"]) fun _ _ _ _ _ _ us hl => match us, hl with | [_, _, _], _ => rfl
  have F__law_paths := fun_mk (st := s__law_paths) l__law_paths c__law_paths k__law_paths
  have B__law_paths := F__law_paths.binds (ps := ["numbers", "k", "places", "many"]) fun _ _ _ _ _ _ us hl => match us, hl with | [_, _, _, _], _ => rfl
  have F__law_parts := fun_mk (st := s__law_parts) l__law_parts c__law_parts k__law_parts
  have B__law_parts := F__law_parts.binds (ps := ["numbers"]) fun _ _ _ _ _ _ us hl => match us, hl with | [_], _ => rfl
  have F__law_made := fun_mk (st := s__law_made) l__law_made c__law_made k__law_made
  have B__law_made := F__law_made.binds (ps := ["parts"]) fun _ _ _ _ _ _ us hl => match us, hl with | [_], _ => rfl
  have F__law_frozen := fun_mk (st := s__law_frozen) l__law_frozen c__law_frozen k__law_frozen
  have B__law_frozen := F__law_frozen.binds (ps := ["parts"]) fun _ _ _ _ _ _ us hl => match us, hl with | [_], _ => rfl
  have F__law_same := fun_mk (st := s__law_same) l__law_same c__law_same k__law_same
  have B__law_same := F__law_same.binds (ps := ["land", "due"]) fun _ _ _ _ _ _ us hl => match us, hl with | [_, _], _ => rfl
  have F__law_lines := fun_mk (st := s__law_lines) l__law_lines c__law_lines k__law_lines
  have B__law_lines := F__law_lines.binds (ps := ["parts"]) fun _ _ _ _ _ _ us hl => match us, hl with | [_], _ => rfl
  have F_law := fun_mk (st := s_law) l_law c_law k_law
  have B_law := F_law.binds (ps := ["script"]) fun _ _ _ _ _ _ us hl => match us, hl with | [_], _ => rfl
  have T : Txt K mg { C := C, tl := tl, te := te, pr := pr, f_is_name := f_is_name, d_is_name := _, f__check_count := f__check_count, d__check_count := _, f__check_names := f__check_names, d__check_names := _, f__check_ends := f__check_ends, d__check_ends := _, f__as_bounds := f__as_bounds, d__as_bounds := _, f__as_link := f__as_link, d__as_link := _, f__as_path := f__as_path, d__as_path := _, f__check_single_paths := f__check_single_paths, d__check_single_paths := _, f__is_between := f__is_between, d__is_between := _, f_init := f_init, d_init := _, f_link_names := f_link_names, d_link_names := _, f_check_place := f_check_place, d_check_place := _, f_link := f_link, d_link := _, f_minutes_between := f_minutes_between, d_minutes_between := _, f_format_land := f_format_land, d_format_land := _, f__time_word := f__time_word, d__time_word := _, f_parse_land := f_parse_land, d_parse_land := _, f_is_number := f_is_number, d_is_number := _, f__is_names := f__is_names, d__is_names := _, f__is_link := f__is_link, d__is_link := _, f__is_path := f__is_path, d__is_path := _, f__is_time := f__is_time, d__is_time := _, f__read_link := f__read_link, d__read_link := _, f__read_time := f__read_time, d__read_time := _, f__law_row := f__law_row, d__law_row := _, f__law_numbers := f__law_numbers, d__law_numbers := _, f__law_pick := f__law_pick, d__law_pick := _, f__law_names := f__law_names, d__law_names := _, f__law_count := f__law_count, d__law_count := _, f__law_times := f__law_times, d__law_times := _, f__law_paths := f__law_paths, d__law_paths := _, f__law_parts := f__law_parts, d__law_parts := _, f__law_made := f__law_made, d__law_made := _, f__law_frozen := f__law_frozen, d__law_frozen := _, f__law_same := f__law_same, d__law_same := _, f__law_lines := f__law_lines, d__law_lines := _, f_law := fa, d_law := _ } := {
    F_is_name := F_is_name
    B_is_name := B_is_name
    k_is_name := k_is_name
    g_is_name := PySem.W.mg_of X G a_is_name
    F__check_count := F__check_count
    B__check_count := B__check_count
    k__check_count := k__check_count
    g__check_count := PySem.W.mg_of X G a__check_count
    F__check_names := F__check_names
    B__check_names := B__check_names
    k__check_names := k__check_names
    g__check_names := PySem.W.mg_of X G a__check_names
    F__check_ends := F__check_ends
    B__check_ends := B__check_ends
    k__check_ends := k__check_ends
    g__check_ends := PySem.W.mg_of X G a__check_ends
    F__as_bounds := F__as_bounds
    B__as_bounds := B__as_bounds
    k__as_bounds := k__as_bounds
    g__as_bounds := PySem.W.mg_of X G a__as_bounds
    F__as_link := F__as_link
    B__as_link := B__as_link
    k__as_link := k__as_link
    g__as_link := PySem.W.mg_of X G a__as_link
    F__as_path := F__as_path
    B__as_path := B__as_path
    k__as_path := k__as_path
    g__as_path := PySem.W.mg_of X G a__as_path
    F__check_single_paths := F__check_single_paths
    B__check_single_paths := B__check_single_paths
    k__check_single_paths := k__check_single_paths
    g__check_single_paths := PySem.W.mg_of X G a__check_single_paths
    F__is_between := F__is_between
    B__is_between := B__is_between
    k__is_between := k__is_between
    g__is_between := PySem.W.mg_of X G a__is_between
    F_init := F_init
    F_link_names := F_link_names
    B_link_names := B_link_names
    k_link_names := k_link_names
    F_check_place := F_check_place
    B_check_place := B_check_place
    k_check_place := k_check_place
    m_check_place := ⟨a_check_place, i_check_place, k_check_place⟩
    F_link := F_link
    B_link := B_link
    k_link := k_link
    m_link := ⟨a_link, i_link, k_link⟩
    F_minutes_between := F_minutes_between
    B_minutes_between := B_minutes_between
    k_minutes_between := k_minutes_between
    m_minutes_between := ⟨a_minutes_between, i_minutes_between, k_minutes_between⟩
    F_format_land := F_format_land
    B_format_land := B_format_land
    k_format_land := k_format_land
    g_format_land := PySem.W.mg_of X G a_format_land
    F__time_word := F__time_word
    B__time_word := B__time_word
    k__time_word := k__time_word
    g__time_word := PySem.W.mg_of X G a__time_word
    F_parse_land := F_parse_land
    B_parse_land := B_parse_land
    k_parse_land := k_parse_land
    g_parse_land := PySem.W.mg_of X G a_parse_land
    F_is_number := F_is_number
    B_is_number := B_is_number
    k_is_number := k_is_number
    g_is_number := PySem.W.mg_of X G a_is_number
    F__is_names := F__is_names
    B__is_names := B__is_names
    k__is_names := k__is_names
    g__is_names := PySem.W.mg_of X G a__is_names
    F__is_link := F__is_link
    B__is_link := B__is_link
    k__is_link := k__is_link
    g__is_link := PySem.W.mg_of X G a__is_link
    F__is_path := F__is_path
    B__is_path := B__is_path
    k__is_path := k__is_path
    g__is_path := PySem.W.mg_of X G a__is_path
    F__is_time := F__is_time
    B__is_time := B__is_time
    k__is_time := k__is_time
    g__is_time := PySem.W.mg_of X G a__is_time
    F__read_link := F__read_link
    B__read_link := B__read_link
    k__read_link := k__read_link
    g__read_link := PySem.W.mg_of X G a__read_link
    F__read_time := F__read_time
    B__read_time := B__read_time
    k__read_time := k__read_time
    g__read_time := PySem.W.mg_of X G a__read_time
    F__law_row := F__law_row
    B__law_row := B__law_row
    k__law_row := k__law_row
    g__law_row := PySem.W.mg_of X G a__law_row
    F__law_numbers := F__law_numbers
    B__law_numbers := B__law_numbers
    k__law_numbers := k__law_numbers
    g__law_numbers := PySem.W.mg_of X G a__law_numbers
    F__law_pick := F__law_pick
    B__law_pick := B__law_pick
    k__law_pick := k__law_pick
    g__law_pick := PySem.W.mg_of X G a__law_pick
    F__law_names := F__law_names
    B__law_names := B__law_names
    k__law_names := k__law_names
    g__law_names := PySem.W.mg_of X G a__law_names
    F__law_count := F__law_count
    B__law_count := B__law_count
    k__law_count := k__law_count
    g__law_count := PySem.W.mg_of X G a__law_count
    F__law_times := F__law_times
    B__law_times := B__law_times
    k__law_times := k__law_times
    g__law_times := PySem.W.mg_of X G a__law_times
    F__law_paths := F__law_paths
    B__law_paths := B__law_paths
    k__law_paths := k__law_paths
    g__law_paths := PySem.W.mg_of X G a__law_paths
    F__law_parts := F__law_parts
    B__law_parts := B__law_parts
    k__law_parts := k__law_parts
    g__law_parts := PySem.W.mg_of X G a__law_parts
    F__law_made := F__law_made
    B__law_made := B__law_made
    k__law_made := k__law_made
    g__law_made := PySem.W.mg_of X G a__law_made
    F__law_frozen := F__law_frozen
    B__law_frozen := B__law_frozen
    k__law_frozen := k__law_frozen
    g__law_frozen := PySem.W.mg_of X G a__law_frozen
    F__law_same := F__law_same
    B__law_same := B__law_same
    k__law_same := k__law_same
    g__law_same := PySem.W.mg_of X G a__law_same
    F__law_lines := F__law_lines
    B__law_lines := B__law_lines
    k__law_lines := k__law_lines
    g__law_lines := PySem.W.mg_of X G a__law_lines
    F_law := F_law
    B_law := B_law
    k_law := k_law
    g_law := PySem.W.mg_of X G a_law
    z_abs := PySem.W.mg_none_of X G z_abs
    z_all := PySem.W.mg_none_of X G z_all
    z_enumerate := PySem.W.mg_none_of X G z_enumerate
    z_int := PySem.W.mg_none_of X G z_int
    z_len := PySem.W.mg_none_of X G z_len
    z_list := PySem.W.mg_none_of X G z_list
    z_max := PySem.W.mg_none_of X G z_max
    z_min := PySem.W.mg_none_of X G z_min
    z_range := PySem.W.mg_none_of X G z_range
    z_set := PySem.W.mg_none_of X G z_set
    z_sorted := PySem.W.mg_none_of X G z_sorted
    z_str := PySem.W.mg_none_of X G z_str
    z_tuple := PySem.W.mg_none_of X G z_tuple
    c_DIGITS := ⟨_, PySem.W.mg_of X G g_DIGITS⟩
    c_LETTERS := ⟨_, PySem.W.mg_of X G g_LETTERS⟩
    c_LONGEST_NAME := ⟨_, PySem.W.mg_of X G g_LONGEST_NAME⟩
    c_MOST_DIGITS := ⟨_, PySem.W.mg_of X G g_MOST_DIGITS⟩
    c_MOST_LINKS := ⟨_, PySem.W.mg_of X G g_MOST_LINKS⟩
    c_MOST_MINUTES := ⟨_, PySem.W.mg_of X G g_MOST_MINUTES⟩
    c_MOST_PATHS := ⟨_, PySem.W.mg_of X G g_MOST_PATHS⟩
    c_MOST_PLACES := ⟨_, PySem.W.mg_of X G g_MOST_PLACES⟩
    c_MOST_WINDS := ⟨_, PySem.W.mg_of X G g_MOST_WINDS⟩
    c_SHUT := ⟨_, PySem.W.mg_of X G g_SHUT⟩
    cl := ⟨pg, hd, po, sa⟩
    mk_Land := ⟨mk, a_init, i_init, kc⟩
    g_Land := PySem.W.mg_of X G aC
    nW := nW
    nP := nP
    nL := nL
    nA := nA
    p_link_names := ⟨pr1, pr2, pr3, ⟨_, pr4⟩⟩
    tlT := fun H => .inr ⟨_, #[], _, tl2, rfl, rfl, Nat.zero_le _, .nil⟩
    teT := fun H => .inr ⟨_, #[], _, te2, rfl, rfl, Nat.zero_le _, .nil⟩ }
  exact ⟨_, fun s v => .of_eq rfl, fun base _ _ => G_law T⟩
theorem walk {l : PySem.W.OpenLaw} {q : Program} {loose : List Str} {XP : (Str → Option Value) → Heap → Prop} {YP : World → Heap → Prop} {d : DefRec} {K : Params → PySem.W.Frag} (hn : l.most = some 63) (hdf : d.params.defaults = [])
    (hY : ∀ (w : World) (h : Heap), YP w h → (K w.params).In h)
    (F : ∀ (w : World) (mg : Str → Option Value) (fa : Addr) (h : Heap), (K w.params).In h → h.Ns mainGlobals mg → mg d.name = some (.ref fa) →
      ∃ fd : FuncData, (∀ (s : Shared) (u : Value), BindsTo s fd ⟨[u], []⟩ [("script", u)]) ∧ ∀ base : Heap, (K w.params).In base → base.Ns mainGlobals mg → FnOk l.prog w (K w.params) mg base CX0 6 fa fd ["script"] (spLaw (K w.params))) :
    PySem.W.WalkO q loose XP YP l.row.toRowW d [] (fun f vs => PySem.call f vs) :=
  L2.walk_of (n := 63) (k := 6) (x := "script") (CX := fun _ => CX0) (sp := fun w => spLaw (K w.params)) hn (by decide) hdf ⟨rfl, by decide, by decide⟩ hY F (fun _ _ a ns hl _ hS => ⟨a, ns, rfl, hS, fun _ => rfl⟩) fun _ _ _ _ _ z => z
end EV
open PySem PySem.W PyProof.Rows in
set_option maxRecDepth 100000 in
set_option maxHeartbeats 0 in
theorem PySem.Challenge.cw_everyfire_k05_whole_text_and_back_holds : PySem.Challenge.rw_everyfire_k05_whole_text_and_back.Holds := by
  w_on; o_law; k_head; (case hw => w_witness2)
  k_fill
  refine EV.walk (l := PySem.Challenge.rw_everyfire_k05_whole_text_and_back) rfl rfl (fun w h Y => PySem.W.kIn_of Y) ?F
  case F =>
    intro w mg fa h KX G hmg
    refine' EV.all_mk KX G hmg ?aC ?a_is_name ?l_is_name ?c_is_name ?k_is_name ?a__check_count ?l__check_count ?c__check_count ?k__check_count ?a__check_names ?l__check_names ?c__check_names ?k__check_names ?a__check_ends ?l__check_ends ?c__check_ends ?k__check_ends ?a__as_bounds ?l__as_bounds ?c__as_bounds ?k__as_bounds ?a__as_link ?l__as_link ?c__as_link ?k__as_link ?a__as_path ?l__as_path ?c__as_path ?k__as_path ?a__check_single_paths ?l__check_single_paths ?c__check_single_paths ?k__check_single_paths ?a__is_between ?l__is_between ?c__is_between ?k__is_between ?a_init ?i_init ?l_init ?c_init ?k_init ?tl1 ?te1 ?tl2 ?te2 ?pr1 ?pr2 ?pr3 ?pr4 ?l_link_names ?c_link_names ?k_link_names ?a_check_place ?i_check_place ?l_check_place ?c_check_place ?k_check_place ?a_link ?i_link ?l_link ?c_link ?k_link ?a_minutes_between ?i_minutes_between ?l_minutes_between ?c_minutes_between ?k_minutes_between ?a_format_land ?l_format_land ?c_format_land ?k_format_land ?a__time_word ?l__time_word ?c__time_word ?k__time_word ?a_parse_land ?l_parse_land ?c_parse_land ?k_parse_land ?a_is_number ?l_is_number ?c_is_number ?k_is_number ?a__is_names ?l__is_names ?c__is_names ?k__is_names ?a__is_link ?l__is_link ?c__is_link ?k__is_link ?a__is_path ?l__is_path ?c__is_path ?k__is_path ?a__is_time ?l__is_time ?c__is_time ?k__is_time ?a__read_link ?l__read_link ?c__read_link ?k__read_link ?a__read_time ?l__read_time ?c__read_time ?k__read_time ?a__law_row ?l__law_row ?c__law_row ?k__law_row ?a__law_numbers ?l__law_numbers ?c__law_numbers ?k__law_numbers ?a__law_pick ?l__law_pick ?c__law_pick ?k__law_pick ?a__law_names ?l__law_names ?c__law_names ?k__law_names ?a__law_count ?l__law_count ?c__law_count ?k__law_count ?a__law_times ?l__law_times ?c__law_times ?k__law_times ?a__law_paths ?l__law_paths ?c__law_paths ?k__law_paths ?a__law_parts ?l__law_parts ?c__law_parts ?k__law_parts ?a__law_made ?l__law_made ?c__law_made ?k__law_made ?a__law_frozen ?l__law_frozen ?c__law_frozen ?k__law_frozen ?a__law_same ?l__law_same ?c__law_same ?k__law_same ?a__law_lines ?l__law_lines ?c__law_lines ?k__law_lines ?a_law ?l_law ?c_law ?k_law ?z_abs ?z_all ?z_enumerate ?z_int ?z_len ?z_list ?z_max ?z_min ?z_range ?z_set ?z_sorted ?z_str ?z_tuple ?g_DIGITS ?g_LETTERS ?g_LONGEST_NAME ?g_MOST_DIGITS ?g_MOST_LINKS ?g_MOST_MINUTES ?g_MOST_PATHS ?g_MOST_PLACES ?g_MOST_WINDS ?g_SHUT ?pg ?hd ?po ?sa ?mk ?kc ?nW ?nP ?nL ?nA
    (case aC => k_is)
    (case a_is_name => k_is)
    (case l_is_name => k_is)
    (case c_is_name => k_is)
    (case k_is_name => k_is)
    (case a__check_count => k_is)
    (case l__check_count => k_is)
    (case c__check_count => k_is)
    (case k__check_count => k_is)
    (case a__check_names => k_is)
    (case l__check_names => k_is)
    (case c__check_names => k_is)
    (case k__check_names => k_is)
    (case a__check_ends => k_is)
    (case l__check_ends => k_is)
    (case c__check_ends => k_is)
    (case k__check_ends => k_is)
    (case a__as_bounds => k_is)
    (case l__as_bounds => k_is)
    (case c__as_bounds => k_is)
    (case k__as_bounds => k_is)
    (case a__as_link => k_is)
    (case l__as_link => k_is)
    (case c__as_link => k_is)
    (case k__as_link => k_is)
    (case a__as_path => k_is)
    (case l__as_path => k_is)
    (case c__as_path => k_is)
    (case k__as_path => k_is)
    (case a__check_single_paths => k_is)
    (case l__check_single_paths => k_is)
    (case c__check_single_paths => k_is)
    (case k__check_single_paths => k_is)
    (case a__is_between => k_is)
    (case l__is_between => k_is)
    (case c__is_between => k_is)
    (case k__is_between => k_is)
    (case a_init => k_is)
    (case i_init => k_is)
    (case l_init => k_is)
    (case c_init => k_is)
    (case k_init => k_is)
    (case tl1 => k_is)
    (case te1 => k_is)
    (case tl2 => k_is)
    (case te2 => k_is)
    (case pr1 => k_is)
    (case pr2 => k_is)
    (case pr3 => k_is)
    (case pr4 => k_is)
    (case l_link_names => k_is)
    (case c_link_names => k_is)
    (case k_link_names => k_is)
    (case a_check_place => k_is)
    (case i_check_place => k_is)
    (case l_check_place => k_is)
    (case c_check_place => k_is)
    (case k_check_place => k_is)
    (case a_link => k_is)
    (case i_link => k_is)
    (case l_link => k_is)
    (case c_link => k_is)
    (case k_link => k_is)
    (case a_minutes_between => k_is)
    (case i_minutes_between => k_is)
    (case l_minutes_between => k_is)
    (case c_minutes_between => k_is)
    (case k_minutes_between => k_is)
    (case a_format_land => k_is)
    (case l_format_land => k_is)
    (case c_format_land => k_is)
    (case k_format_land => k_is)
    (case a__time_word => k_is)
    (case l__time_word => k_is)
    (case c__time_word => k_is)
    (case k__time_word => k_is)
    (case a_parse_land => k_is)
    (case l_parse_land => k_is)
    (case c_parse_land => k_is)
    (case k_parse_land => k_is)
    (case a_is_number => k_is)
    (case l_is_number => k_is)
    (case c_is_number => k_is)
    (case k_is_number => k_is)
    (case a__is_names => k_is)
    (case l__is_names => k_is)
    (case c__is_names => k_is)
    (case k__is_names => k_is)
    (case a__is_link => k_is)
    (case l__is_link => k_is)
    (case c__is_link => k_is)
    (case k__is_link => k_is)
    (case a__is_path => k_is)
    (case l__is_path => k_is)
    (case c__is_path => k_is)
    (case k__is_path => k_is)
    (case a__is_time => k_is)
    (case l__is_time => k_is)
    (case c__is_time => k_is)
    (case k__is_time => k_is)
    (case a__read_link => k_is)
    (case l__read_link => k_is)
    (case c__read_link => k_is)
    (case k__read_link => k_is)
    (case a__read_time => k_is)
    (case l__read_time => k_is)
    (case c__read_time => k_is)
    (case k__read_time => k_is)
    (case a__law_row => k_is)
    (case l__law_row => k_is)
    (case c__law_row => k_is)
    (case k__law_row => k_is)
    (case a__law_numbers => k_is)
    (case l__law_numbers => k_is)
    (case c__law_numbers => k_is)
    (case k__law_numbers => k_is)
    (case a__law_pick => k_is)
    (case l__law_pick => k_is)
    (case c__law_pick => k_is)
    (case k__law_pick => k_is)
    (case a__law_names => k_is)
    (case l__law_names => k_is)
    (case c__law_names => k_is)
    (case k__law_names => k_is)
    (case a__law_count => k_is)
    (case l__law_count => k_is)
    (case c__law_count => k_is)
    (case k__law_count => k_is)
    (case a__law_times => k_is)
    (case l__law_times => k_is)
    (case c__law_times => k_is)
    (case k__law_times => k_is)
    (case a__law_paths => k_is)
    (case l__law_paths => k_is)
    (case c__law_paths => k_is)
    (case k__law_paths => k_is)
    (case a__law_parts => k_is)
    (case l__law_parts => k_is)
    (case c__law_parts => k_is)
    (case k__law_parts => k_is)
    (case a__law_made => k_is)
    (case l__law_made => k_is)
    (case c__law_made => k_is)
    (case k__law_made => k_is)
    (case a__law_frozen => k_is)
    (case l__law_frozen => k_is)
    (case c__law_frozen => k_is)
    (case k__law_frozen => k_is)
    (case a__law_same => k_is)
    (case l__law_same => k_is)
    (case c__law_same => k_is)
    (case k__law_same => k_is)
    (case a__law_lines => k_is)
    (case l__law_lines => k_is)
    (case c__law_lines => k_is)
    (case k__law_lines => k_is)
    (case a_law => k_is)
    (case l_law => k_is)
    (case c_law => k_is)
    (case k_law => k_is)
    (case z_abs => k_is)
    (case z_all => k_is)
    (case z_enumerate => k_is)
    (case z_int => k_is)
    (case z_len => k_is)
    (case z_list => k_is)
    (case z_max => k_is)
    (case z_min => k_is)
    (case z_range => k_is)
    (case z_set => k_is)
    (case z_sorted => k_is)
    (case z_str => k_is)
    (case z_tuple => k_is)
    (case g_DIGITS => k_is)
    (case g_LETTERS => k_is)
    (case g_LONGEST_NAME => k_is)
    (case g_MOST_DIGITS => k_is)
    (case g_MOST_LINKS => k_is)
    (case g_MOST_MINUTES => k_is)
    (case g_MOST_PATHS => k_is)
    (case g_MOST_PLACES => k_is)
    (case g_MOST_WINDS => k_is)
    (case g_SHUT => k_is)
    (case pg => k_is)
    (case hd => k_is)
    (case po => k_is)
    (case sa => k_is)
    (case mk => k_is)
    (case kc => k_is)
    (case nW => k_is)
    (case nP => k_is)
    (case nL => k_is)
    (case nA => k_is)

