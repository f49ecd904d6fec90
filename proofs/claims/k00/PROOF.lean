import PyProof.Rows.All
import Wide.All
import OpenK.AllK
import Wide.FinOn
import PySem.Challenge.RW_wishroads_k00_whole_tasks
import HandS.ForMost
import HandS.ForExc
import HandS.IsInst
import HandS.TryMany
import HandS.TupAny
import HandS.SetKeys
import HandS.SetTxt0
import HandS.SetFor
import PyProof.Rows.SortShellAny
import HandS.Lambda
import HandS.Style
import HandS.CallSlots
import HandS.Conv
import HandS.DictComp
import HandS.Zip
import HandS.Small
import HandS.Star
import HandS.ExcInit
import HandS.ClsMeth
import HandS.ExcField
import HandS.Text
import HandS.RaiseMore
import PyProof.Draws
import PyProof.EnumMake
import HandS.CallLocal
import HandS.Dict
import HandS.More
import HandS.Head0
import HandS.Head1
import HandS.Head2
import HandS.HeadEnd
import HandS.HeadHook1
import HandS.HeadHook2
import HandS.HeadHook4
import HandS.EndTab
import HandS.HeadWalk
import KE.KStateDown
set_option Elab.async false
set_option linter.all false
set_option maxRecDepth 100000
set_option maxHeartbeats 4000000
/-! A0: sets of texts: made of a list, asked, put in sequence. -/
namespace Wr
open PySem PySem.Spec PyProof.Rows L2 PySem.Froz

theorem perm_of_sub {α : Type} [BEq α] [LawfulBEq α] : ∀ {l m : List α}, l.Nodup → (∀ x ∈ l, x ∈ m) → m.length ≤ l.length → l.Perm m
  | [], m, _, _, hl => by
    cases m with
    | nil => exact .nil
    | cons _ _ => simp at hl
  | x :: l, m, nd, hs, hl => by
    obtain ⟨n1, n2⟩ := List.nodup_cons.mp nd
    have hx : x ∈ m := hs x List.mem_cons_self
    have q := List.perm_cons_erase hx
    have hlen : (m.erase x).length = m.length - 1 := List.length_erase_of_mem hx
    have hpos : 0 < m.length := List.length_pos_of_mem hx
    refine ((perm_of_sub n2 (fun y hy => ?_) (by rw [hlen]; simp only [List.length_cons] at hl; omega)).cons x).trans q.symm
    have hym := hs y (List.mem_cons_of_mem _ hy)
    exact (List.mem_erase_of_ne (fun e : y = x => n1 (by rw [← e]; exact hy))).mpr hym
/-- one more word, if it is new -/
def putT (k : Str) (l : List Str) : List Str := if k ∈ l then l else k :: l
def putTs (l : List Str) : List Str → List Str
  | [] => l
  | k :: r => putTs (putT k l) r
/-- at a: a set of the texts l -/
def SxAt (P : Program) (w : World) (h : Heap) (a : Addr) (l : List Str) : Prop :=
  ∃ D : SD, h.get? a = some (sObj "set" D) ∧ TxOk P w D l ∧ l.Nodup ∧ l.length < scanBound ∧ Ris D.2.2.place.toList ∧ (w.params.followText "set-order" = true ∨ D.2.2.led = true)
section
variable {P : Program} {w : World} {h h' : Heap} {a : Addr} {l : List Str}
theorem SxAt.at_ (x : SxAt P w h a l) (k : ∀ o, h.get? a = some o → h'.get? a = some o) : SxAt P w h' a l := by
  obtain ⟨D, h1, r⟩ := x
  exact ⟨D, k _ h1, r⟩
theorem sx_fresh (ho : h.get? a = some { cls := .type "set", dict := none, data := .set #[] 0 (.fresh 0 0 (!w.params.followText "set-order")) }) : SxAt P w h a [] := by
  refine ⟨(#[], 0, .fresh 0 0 (!w.params.followText "set-order")), ho, .nil (by rfl), .nil, by decide, .nil, ?_⟩
  show _ ∨ (!w.params.followText "set-order") = true
  cases w.params.followText "set-order"
  · exact .inr rfl
  · exact .inl rfl
theorem tail_ris {ep : Nat} {es : Array (Int × Value)} {t : SetTable} {b : Bool} (r : Ris t.place.toList) : Ris (tailTx ep es t b).2.2.place.toList := by
  unfold tailTx
  split
  · exact relayAll_ris _ _ _
  · exact r
theorem tail_led {ep : Nat} {es : Array (Int × Value)} {t : SetTable} {b : Bool} : (tailTx ep es t b).2.2.led = t.led := by
  unfold tailTx
  split
  · exact relayAll_led _ _ _
  · rfl
theorem add_ris {hh : Int} {v : Value} {D : SD} (r : Ris D.2.2.place.toList) : Ris (addTx hh v D).2.2.place.toList := by
  unfold addTx
  refine tail_ris ?_
  have q := layNew_ris D.2.2 D.1 hh v r
  split
  · exact q
  · exact q
theorem add_led {hh : Int} {v : Value} {D : SD} : (addTx hh v D).2.2.led = D.2.2.led := by
  unfold addTx
  rw [tail_led]
  have q := layNew_led D.2.2 D.1 hh v
  split
  · exact q
  · exact q
end
section
variable {P : Program} {w : World} {A : Around} {E : Value → Shared → Prop} {s : Shared} {a : Addr} {l : List Str}
theorem sx_add {k : Str} {u : Tok} {Q : Bool → Shared → Prop} (x : SxAt P w s.heap a l) (room : l.length + 1 < scanBound)
    (hq : ∀ g b, Heap.SameBut a s.heap g → SxAt P w g a (putT k l) → Q b { s with heap := g }) : wpAny (model P w) A (setAddHashed a (.str k u) (hashStr w k)) Q E s := by
  obtain ⟨D, ho, F, nd, hb, hr, hl⟩ := x
  by_cases hk : k ∈ l
  · have e : putT k l = l := if_pos hk
    have same := hq s.heap false (Heap.SameBut.refl a s.heap) (by rw [e]; exact ⟨D, ho, F, nd, hb, hr, hl⟩)
    obtain ⟨es, ep, t⟩ := D
    have hsz : es.size = l.length := F.sz
    have key : (strKind P w).is k (.str k u) = true := is_str k u
    have hel : ElemsOf (strKind P w) es.toList := F.el
    unfold setAddHashed setAddHashedIn
    refine wpAny_holding (wpAny_bind (wpAny_setState_of (es := es) (ep := ep) (t := t) ho rfl F.fit ?_))
    dsimp only
    rw [byScan_of (x := Value.str k u) rfl (by rw [hsz]; exact hb) hel]
    simp only [↓reduceIte]
    unfold setAddByScan
    refine wpAny_bind (wpAny_bind (wpAny_rule (wpAny_bind (wpAny_setScan_of (knd := strKind P w) (k := k) key ho rfl F.fit hel ?_))))
    cases hf : List.findIdx? (fun e => (strKind P w).is k e.2) es.toList with
    | some j => exact wpAny_pure (wpAny_pure same)
    | none =>
      obtain ⟨e0, he0, q⟩ := (F.mem k).mp hk
      have c := List.findIdx?_eq_none_iff.mp hf e0 he0
      rw [q] at c
      cases c
  · have e : putT k l = k :: l := if_neg hk
    refine add_x ho F hk room (hq _ true (Heap.SameBut.update s.heap a _) ?_)
    rw [e]
    exact ⟨_, get_upd _ ho rfl, add_ok u F, List.nodup_cons.mpr ⟨hk, nd⟩, room, add_ris hr, hl.imp id fun z => by rw [add_led]; exact z⟩

theorem putT_len (k : Str) (l : List Str) : (putT k l).length ≤ l.length + 1 := by
  unfold putT
  split
  · exact Nat.le_succ _
  · exact Nat.le_refl _
theorem putTs_snoc : ∀ (r : List Str) (l : List Str) (k : Str), putTs l (r ++ [k]) = putT k (putTs l r)
  | [], l, k => rfl
  | y :: r, l, k => putTs_snoc r (putT y l) k
theorem putTs_len : ∀ (r l : List Str), (putTs l r).length ≤ l.length + r.length
  | [], l => Nat.le_refl _
  | k :: r, l => by
    have q := putTs_len r (putT k l)
    have q2 := putT_len k l
    show (putTs (putT k l) r).length ≤ l.length + (r.length + 1)
    omega
/-- set.update's loop over what walks -/
theorem upd_loop {I : Addr} {fp wr : List Addr} {G : Array GenState → Array GenState → Prop} {n : Nat} {Pv : Nat → Value → Prop} {St : Nat → Shared → Prop} {R : Result → Shared → Prop}
    (W : WalksS P w A.in1 I fp wr G n Pv St) (T : Addr) (hT : T ∉ fp) (ks : List Str) (hn : n = ks.length) (room : ks.length + 1 < scanBound) (val : ∀ i v, Pv i v → ∃ k t, ks[i]? = some k ∧ v = .str k t) :
    ∀ (m i : Nat) (s : Shared), n - i = m → i ≤ n → St i s → SxAt P w s.heap T (putTs [] (ks.take i)) →
      (∀ s', Moved (T :: wr) G s s' → SxAt P w s'.heap T (putTs [] ks) → R (.ok (.ret .none)) s') →
      codeAny (model P w) A (.builtin "set.update.loop" ⟨[.ref T, .ref I], []⟩) R s := by
  have out : T ∉ wr := fun z => hT (W.sub _ z)
  have more : ∀ b ∈ wr, b ∈ T :: wr := fun b z => List.mem_cons_of_mem _ z
  intro m
  induction m with
  | zero =>
    intro i s em hi st x fin
    obtain rfl : i = n := by omega
    refine codeAny_builtin F.entry_set_update_loop ?_
    rw [Around.under_plainId F.plain_set_update_loop _]
    show wpAny _ A.in1 (pyNext (.ref I) >>= _) _ _ s
    refine wpAny_bind (W.done s _ _ st fun s1 mv => ?_)
    rw [List.take_of_length_le (by omega)] at x
    exact wpAny_pure (fin s1 (mv.mono more) (x.at_ fun o e => mv.heap T o out e))
  | succ m ih =>
    intro i s em hi st x fin
    have lt : i < n := by omega
    refine codeAny_builtin F.entry_set_update_loop ?_
    rw [Around.under_plainId F.plain_set_update_loop _]
    show wpAny _ A.in1 (pyNext (.ref I) >>= _) _ _ s
    refine wpAny_bind (W.item i s _ _ lt st fun v s1 pv st1 mv => ?_)
    obtain ⟨z, t, hz, rfl⟩ := val i v pv
    have x1 := x.at_ fun o e => mv.heap T o out e
    have et : ks.take (i + 1) = ks.take i ++ [z] := by rw [List.take_add_one, hz]; rfl
    have hlen : (putTs [] (ks.take i)).length ≤ ks.length := by
      have q := putTs_len (ks.take i) []
      rw [List.length_take] at q
      simp only [List.length_nil] at q
      omega
    show wpAny _ A.in1 (holding [Value.str z t] (setAdd T (.str z t)) >>= _) _ _ s1
    refine wpAny_bind (wpAny_holding ?_)
    unfold setAdd
    refine wpAny_holding (wpAny_bind ((strKind P w).pyHash (k := z) (is_str z t) ?_))
    refine sx_add (s := { s1 with toks := s1.toks + 1 }) x1 (by omega) fun g b sb x2 => ?_
    rw [← putTs_snoc, ← et] at x2
    refine wpAny_pure ⟨plainId_quiet F.plain_set_update_loop _, ih (i + 1) _ (by omega) lt (W.frame _ s1 _ _ st1 (Nat.le_succ _) fun b hb o e => ?_) x2 fun s3 mv3 x3 => ?_⟩
    · rw [sb.2 b (fun q : b = T => hT (by rw [← q]; exact hb))]; exact e
    · refine fin s3 (Moved.trans W.gtrans ((mv.mono more).then_heap (Nat.le_succ _) fun b o hb e => ?_) mv3) x3
      rw [sb.2 b (fun q : b = T => hb (by rw [q]; exact List.mem_cons_self))]; exact e
end
section
variable {P : Program} {w : World} {A : Around} {E : Value → Shared → Prop} {s : Shared}

set_option maxHeartbeats 3200000 in
theorem set_of_tuple {l : Addr} {its : Array Value} (ks : List Str) {Q : Value → Shared → Prop} (free : A.handled = none) (pl : s.heap.IsTuple l its) (at_ : ∀ (i : Nat) (v : Value), its[i]? = some v → ∃ k t, ks[i]? = some k ∧ v = .str k t) (len : its.size = ks.length) (room : ks.length + 1 < scanBound)
    (k : ∀ (g : Heap) (tk : Nat), SxAt P w g s.heap.objs.size (putTs [] ks) → (∀ b o, s.heap.get? b = some o → g.get? b = some o) → Q (.ref s.heap.objs.size) { s with heap := g, toks := tk }) :
    wpAny (model P w) A (call (.type "set") [.ref l]) Q E s := by
  obtain ⟨cc, tl, way⟩ := F.called_set.mro
  have mk0 := F.called_set.made
  have sb0 := F.called_set.sub
  refine wpAny_call (codeAny_of_tree ?_)
  show wpAny _ _ (callAny (.type "set") _) _ _ _
  refine wpAny_pure ⟨Code.quiet_builtin _ (by decide +kernel), codeAny_builtin F.entry_type_call ?_⟩
  rw [Around.under_plain (weight_type_call_type "set" [.ref l] []) rfl]
  have nt0 := F.called_set.notType
  have cr0 := F.called_set.canCreate
  have tc0 := F.typeCall_set_1 (.ref l)
  repeat (any_goals (first | assumption | wp_step))
  refine codeAny_mono (code_set_led1 (.ref l) (E := E) (Q₁ := fun ob s1 => ob = .ref s.heap.objs.size ∧ s1 = { s with heap := s.heap.push { cls := .type "set", dict := none, data := .set #[] 0 (.fresh 0 0 (!w.params.followText "set-order")) } }) ⟨rfl, rfl⟩) fun r s1 hr => ?_
  cases r with
  | error e => exact hr
  | ok fl =>
    cases fl with
    | ret ob =>
      obtain ⟨rfl, rfl⟩ := hr
      have there : (s.heap.push { cls := .type "set", dict := none, data := .set #[] 0 (.fresh 0 0 (!w.params.followText "set-order")) }).get? s.heap.objs.size = some { cls := .type "set", dict := none, data := .set #[] 0 (.fresh 0 0 (!w.params.followText "set-order")) } := Heap.get?_push_size _ rfl
      have isS : Shared.TypeIs { s with heap := s.heap.push { cls := .type "set", dict := none, data := .set #[] 0 (.fresh 0 0 (!w.params.followText "set-order")) } } (.ref s.heap.objs.size) "set" := ⟨_, there, rfl⟩
      have lk0 := F.called_set.init.lookup
      have bd0 := F.called_set.init.bind (.ref s.heap.objs.size)
      repeat (any_goals (first | assumption | wp_step))
      refine codeAny_mono (codeAny_call_builtin (R := wants (fun r s2 => r = .none ∧ ∃ g tk, s2 = { s with heap := g, toks := tk } ∧ SxAt P w g s.heap.objs.size (putTs [] ks) ∧
          (∀ b o, s.heap.get? b = some o → g.get? b = some o)) E) F.called_set.init.plain F.entry_set_init (check_set_init_1 isS ?_)) fun r2 s2 hr2 => ?_
      · obtain ⟨ol, hol, hcl, nl, hdl⟩ := pl
        obtain ⟨oc, od, odt, osl⟩ := ol
        simp only at hcl hdl
        subst hcl; subst hdl
        have hol1 : (s.heap.push { cls := .type "set", dict := none, data := .set #[] 0 (.fresh 0 0 (!w.params.followText "set-order")) }).get? l = some { cls := .type "tuple", dict := od, data := .seq its nl, slots := osl } := Heap.get?_push_of_some _ hol
        have sub1 := F.sub_tuple_set
        have sub2 := F.sub_tuple_frozenset
        have nod : (Value.type "tuple" == Value.type "dict") = false := by decide
        have pl1 : (s.heap.push { cls := .type "set", dict := none, data := .set #[] 0 (.fresh 0 0 (!w.params.followText "set-order")) }).IsTuple l its := ⟨_, hol1, rfl, nl, rfl⟩
        unfold Builtin.«set.__init__» noKeywords Builtin.Frozenset.updateFrom
        generalize ePI : pyIter = PI
        wp_walk
        subst ePI
        refine wpAny_pyIter_tuple pl1 ?_
        refine wpAny_bind (wpAny_runValue ?_)
        have lS : l < s.heap.objs.size := Heap.lt_size hol
        have free3 : A.in1.in1.in1.handled = none := by simp [free]
        have sz1 : (s.heap.push { cls := .type "set", dict := none, data := .set #[] 0 (.fresh 0 0 (!w.params.followText "set-order")) }).objs.size = s.heap.objs.size + 1 := Heap.size_push ..
        have neI : l ≠ (s.heap.push { cls := .type "set", dict := none, data := .set #[] 0 (.fresh 0 0 (!w.params.followText "set-order")) }).objs.size := by rw [sz1]; exact Nat.ne_of_lt (Nat.lt_succ_of_lt lS)
        have notin : s.heap.objs.size ∉ [(s.heap.push { cls := .type "set", dict := none, data := .set #[] 0 (.fresh 0 0 (!w.params.followText "set-order")) }).objs.size, l] := by
          rw [sz1]
          simp only [List.mem_cons, List.mem_singleton, List.not_mem_nil, or_false, not_or]
          exact ⟨Nat.ne_of_lt (Nat.lt_succ_self _), Nat.ne_of_gt lS⟩
        refine upd_loop ((Walks.tuple free3 _ l neI its).toS) s.heap.objs.size notin ks len room at_ (its.size - 0) 0 _ (by omega) (Nat.zero_le _) ⟨⟨_, Heap.get?_push_size _ rfl, rfl, rfl⟩, (pl1.push _)⟩ ?hS0 ?hR
        case hS0 => exact sx_fresh (Heap.get?_push_of_some _ there)
        case hR =>
          intro s3 mv x3
          obtain ⟨g3, gs3, dr3, tk3, os3⟩ := s3
          have e1 : gs3 = s.gens := mv.gens
          have e2 : dr3 = s.drawn := mv.drawn
          have e3 : os3 = s.os := mv.os
          subst e1; subst e2; subst e3
          show wpAny _ _ _ _ _ _
          refine wpAny_pure ?_
          show wpAny _ _ (ret Value.none) _ _ _
          refine wpAny_pure ⟨rfl, g3, tk3, rfl, x3, fun b o e => ?_⟩
          have lb : b < s.heap.objs.size := Heap.lt_size e
          have n1 : b ≠ s.heap.objs.size := Nat.ne_of_lt lb
          have n2 : b ≠ (s.heap.push { cls := .type "set", dict := none, data := .set #[] 0 (.fresh 0 0 (!w.params.followText "set-order")) }).objs.size := by rw [sz1]; exact Nat.ne_of_lt (Nat.lt_succ_of_lt lb)
          exact mv.heap b o (by simp only [List.mem_cons, List.mem_singleton, List.not_mem_nil, or_false, not_or]; exact ⟨n1, n2⟩) (Heap.get?_push_of_some _ (Heap.get?_push_of_some _ e))
      · cases r2 with
        | error e => exact hr2
        | ok fl2 =>
          cases fl2 with
          | ret r =>
            obtain ⟨rfl, g3, tk3, rfl, x3, k3⟩ := hr2
            repeat (any_goals (first | assumption | wp_step))
            exact k _ _ x3 k3
          | _ => exact hr2.elim
    | _ => exact hr.elim


set_option maxHeartbeats 3200000 in
theorem set_of_list {l : Addr} {its : Array Value} (ks : List Str) {Q : Value → Shared → Prop} (free : A.handled = none) (pl : s.heap.IsList l its) (at_ : ∀ (i : Nat) (v : Value), its[i]? = some v → ∃ k t, ks[i]? = some k ∧ v = .str k t) (len : its.size = ks.length) (room : ks.length + 1 < scanBound)
    (k : ∀ (g : Heap) (tk : Nat), SxAt P w g s.heap.objs.size (putTs [] ks) → (∀ b o, s.heap.get? b = some o → g.get? b = some o) → Q (.ref s.heap.objs.size) { s with heap := g, toks := tk }) :
    wpAny (model P w) A (call (.type "set") [.ref l]) Q E s := by
  obtain ⟨cc, tl, way⟩ := F.called_set.mro
  have mk0 := F.called_set.made
  have sb0 := F.called_set.sub
  refine wpAny_call (codeAny_of_tree ?_)
  show wpAny _ _ (callAny (.type "set") _) _ _ _
  refine wpAny_pure ⟨Code.quiet_builtin _ (by decide +kernel), codeAny_builtin F.entry_type_call ?_⟩
  rw [Around.under_plain (weight_type_call_type "set" [.ref l] []) rfl]
  have nt0 := F.called_set.notType
  have cr0 := F.called_set.canCreate
  have tc0 := F.typeCall_set_1 (.ref l)
  repeat (any_goals (first | assumption | wp_step))
  refine codeAny_mono (code_set_led1 (.ref l) (E := E) (Q₁ := fun ob s1 => ob = .ref s.heap.objs.size ∧ s1 = { s with heap := s.heap.push { cls := .type "set", dict := none, data := .set #[] 0 (.fresh 0 0 (!w.params.followText "set-order")) } }) ⟨rfl, rfl⟩) fun r s1 hr => ?_
  cases r with
  | error e => exact hr
  | ok fl =>
    cases fl with
    | ret ob =>
      obtain ⟨rfl, rfl⟩ := hr
      have there : (s.heap.push { cls := .type "set", dict := none, data := .set #[] 0 (.fresh 0 0 (!w.params.followText "set-order")) }).get? s.heap.objs.size = some { cls := .type "set", dict := none, data := .set #[] 0 (.fresh 0 0 (!w.params.followText "set-order")) } := Heap.get?_push_size _ rfl
      have isS : Shared.TypeIs { s with heap := s.heap.push { cls := .type "set", dict := none, data := .set #[] 0 (.fresh 0 0 (!w.params.followText "set-order")) } } (.ref s.heap.objs.size) "set" := ⟨_, there, rfl⟩
      have lk0 := F.called_set.init.lookup
      have bd0 := F.called_set.init.bind (.ref s.heap.objs.size)
      repeat (any_goals (first | assumption | wp_step))
      refine codeAny_mono (codeAny_call_builtin (R := wants (fun r s2 => r = .none ∧ ∃ g tk, s2 = { s with heap := g, toks := tk } ∧ SxAt P w g s.heap.objs.size (putTs [] ks) ∧
          (∀ b o, s.heap.get? b = some o → g.get? b = some o)) E) F.called_set.init.plain F.entry_set_init (check_set_init_1 isS ?_)) fun r2 s2 hr2 => ?_
      · obtain ⟨ol, hol, hcl, nl, hdl⟩ := pl
        obtain ⟨oc, od, odt, osl⟩ := ol
        simp only at hcl hdl
        subst hcl; subst hdl
        have hol1 : (s.heap.push { cls := .type "set", dict := none, data := .set #[] 0 (.fresh 0 0 (!w.params.followText "set-order")) }).get? l = some { cls := .type "list", dict := od, data := .seq its nl, slots := osl } := Heap.get?_push_of_some _ hol
        have sub1 := F.sub_list_set
        have sub2 := F.sub_list_frozenset
        have nod : (Value.type "list" == Value.type "dict") = false := by decide
        have pl1 : (s.heap.push { cls := .type "set", dict := none, data := .set #[] 0 (.fresh 0 0 (!w.params.followText "set-order")) }).IsList l its := ⟨_, hol1, rfl, nl, rfl⟩
        unfold Builtin.«set.__init__» noKeywords Builtin.Frozenset.updateFrom
        generalize ePI : pyIter = PI
        wp_walk
        subst ePI
        refine wpAny_pyIter_list pl1 ?_
        refine wpAny_bind (wpAny_runValue ?_)
        have lS : l < s.heap.objs.size := Heap.lt_size hol
        have free3 : A.in1.in1.in1.handled = none := by simp [free]
        have sz1 : (s.heap.push { cls := .type "set", dict := none, data := .set #[] 0 (.fresh 0 0 (!w.params.followText "set-order")) }).objs.size = s.heap.objs.size + 1 := Heap.size_push ..
        have neI : l ≠ (s.heap.push { cls := .type "set", dict := none, data := .set #[] 0 (.fresh 0 0 (!w.params.followText "set-order")) }).objs.size := by rw [sz1]; exact Nat.ne_of_lt (Nat.lt_succ_of_lt lS)
        have notin : s.heap.objs.size ∉ [(s.heap.push { cls := .type "set", dict := none, data := .set #[] 0 (.fresh 0 0 (!w.params.followText "set-order")) }).objs.size, l] := by
          rw [sz1]
          simp only [List.mem_cons, List.mem_singleton, List.not_mem_nil, or_false, not_or]
          exact ⟨Nat.ne_of_lt (Nat.lt_succ_self _), Nat.ne_of_gt lS⟩
        refine upd_loop ((Walks.list free3 _ l neI its).toS) s.heap.objs.size notin ks len room at_ (its.size - 0) 0 _ (by omega) (Nat.zero_le _) ⟨⟨_, Heap.get?_push_size _ rfl, rfl, rfl⟩, (pl1.push _)⟩ ?hS0 ?hR
        case hS0 => exact sx_fresh (Heap.get?_push_of_some _ there)
        case hR =>
          intro s3 mv x3
          obtain ⟨g3, gs3, dr3, tk3, os3⟩ := s3
          have e1 : gs3 = s.gens := mv.gens
          have e2 : dr3 = s.drawn := mv.drawn
          have e3 : os3 = s.os := mv.os
          subst e1; subst e2; subst e3
          show wpAny _ _ _ _ _ _
          refine wpAny_pure ?_
          show wpAny _ _ (ret Value.none) _ _ _
          refine wpAny_pure ⟨rfl, g3, tk3, rfl, x3, fun b o e => ?_⟩
          have lb : b < s.heap.objs.size := Heap.lt_size e
          have n1 : b ≠ s.heap.objs.size := Nat.ne_of_lt lb
          have n2 : b ≠ (s.heap.push { cls := .type "set", dict := none, data := .set #[] 0 (.fresh 0 0 (!w.params.followText "set-order")) }).objs.size := by rw [sz1]; exact Nat.ne_of_lt (Nat.lt_succ_of_lt lb)
          exact mv.heap b o (by simp only [List.mem_cons, List.mem_singleton, List.not_mem_nil, or_false, not_or]; exact ⟨n1, n2⟩) (Heap.get?_push_of_some _ (Heap.get?_push_of_some _ e))
      · cases r2 with
        | error e => exact hr2
        | ok fl2 =>
          cases fl2 with
          | ret r =>
            obtain ⟨rfl, g3, tk3, rfl, x3, k3⟩ := hr2
            repeat (any_goals (first | assumption | wp_step))
            exact k _ _ x3 k3
          | _ => exact hr2.elim
    | _ => exact hr.elim


end
end Wr

set_option maxHeartbeats 4000000
namespace Wr
open PySem PySem.Spec PyProof.Rows L2 PySem.Froz
/-! ### put in sequence -/
theorem strs_of : ∀ (vs : List Value), (∀ v ∈ vs, ∃ k t, v = Value.str k t) → StrsAre vs (vs.map strOf)
  | [], _ => .nil
  | v :: r, h => by
    obtain ⟨k, t, rfl⟩ := h v List.mem_cons_self
    exact .cons k t (strs_of r fun u hu => h u (List.mem_cons_of_mem _ hu))
theorem sx_out {P : Program} {w : World} {D : SD} {l : List Str} (x : TxOk P w D l) (nd : l.Nodup) : (∀ v ∈ D.1.toList.map (·.2), ∃ k t, v = Value.str k t) ∧ l.Perm ((D.1.toList.map (·.2)).map strOf) := by
  have sh : ∀ v ∈ D.1.toList.map (·.2), ∃ k t, v = Value.str k t := fun v hv => by
    obtain ⟨e, he, rfl⟩ := List.mem_map.mp hv
    obtain ⟨⟨k, q, _⟩, _⟩ := x.el e he
    obtain ⟨t, e2⟩ := Value.isStrOf_shape q
    exact ⟨k, t, e2⟩
  refine ⟨sh, perm_of_sub nd (fun k hk => ?_) (by rw [List.length_map, List.length_map, Array.length_toList, x.sz]; exact Nat.le_refl _)⟩
  obtain ⟨e, he, q⟩ := (x.mem k).mp hk
  obtain ⟨t, e2⟩ := Value.isStrOf_shape q
  exact List.mem_map.mpr ⟨e.2, List.mem_map.mpr ⟨e, he, rfl⟩, by rw [e2]; rfl⟩
section
variable {P : Program} {w : World} {A : Around} {E : Value → Shared → Prop} {s : Shared}
theorem sorted_sx {a : Addr} {l : List Str} {Q : Value → Shared → Prop} (x : SxAt P w s.heap a l) (free : A.handled = none)
    (k : ∀ s' p (out : Array Value) (c : Nat) (ys : List Str), (∀ b o, s.heap.get? b = some o → s'.heap.get? b = some o) → s'.gens = s.gens → s'.os = s.os → s.heap.objs.size ≤ p →
      s'.heap.get? p = some (seqObj "list" out c) → StrsAre out.toList ys → ys.Perm l → sortedS ys = true → Q (.ref p) s') :
    wpAny (model P w) A (call (.builtin "sorted") [.ref a]) Q E s := by
  obtain ⟨D, ho, x, nd, hb, hr, hl⟩ := x
  obtain ⟨es, ep, t⟩ := D
  obtain ⟨sh, pl⟩ := sx_out x nd
  have hsz : es.size = l.length := x.sz
  refine Calls.call_function_entry kind_sorted plain_sorted entry_sorted (args_sorted1 _) ?_
  unfold Builtin.«sorted»
  refine wpAny_bind (m := checkCount "sorted" 1 1 _) (wpAny_pure ?_)
  refine wpAny_bind (collect_set (A := A.in1) (es := es) (ep := ep) (t := t) free ⟨_, ho, rfl, rfl⟩ x.fit (by rw [hsz]; exact hb) hr hl fun s1 vs k1 z1 g1 o1 pm => ?_)
  have sv : StrsAre vs (vs.map strOf) := strs_of vs fun v hv => sh v (pm.mem_iff.mp hv)
  have pv : (vs.map strOf).Perm l := (pm.map strOf).trans pl.symm
  have lv : vs.length ≤ sizeLine := by
    have q := pv.length_eq
    rw [List.length_map] at q
    rw [q]
    exact fits_of_scanBound hb
  refine wpAny_bind (wpAny_newList ?_ lv)
  have hoL : (s1.heap.push (seqObj "list" vs.toArray 0)).get? s1.heap.objs.size = some (seqObj "list" vs.toArray 0) := Heap.get?_push_size _ rfl
  refine wpAny_bind (wpAny_holding (wpAny_call_entry slot_list_sort ⟨_, hoL, rfl⟩ entry_list_sort (list_sort_treeKAny strKind_oneLt hoL sv.keysOf (fun v₁ v₂ rest e => keyKind_strs (by rw [← e]; exact sv)) lv fun st a1 a2 => ⟨_, rfl, ?_⟩) (args_list_sort _)))
  obtain ⟨ys, b1, b2, b3⟩ := sorted_out_str sv a1 a2
  obtain ⟨c, hc⟩ := sortedHeap_at (vs := vs) (out := (arrOf st).map (·.2)) hoL
  refine wpAny_pure ⟨_, rfl, k _ s1.heap.objs.size _ c ys (fun b u e => ?_) g1 o1 z1 hc b1 (b2.trans pv) b3⟩
  have q := k1 b u e
  have lt := Heap.lt_size q
  show (sortedHeap (s1.heap.push (seqObj "list" vs.toArray 0)) s1.heap.objs.size vs _).get? b = some u
  rw [sortedHeap_old (Nat.ne_of_lt lt) (by rw [size_push']; exact Nat.lt_succ_of_lt lt)]
  exact Heap.get?_push_of_some _ q
end
end Wr

set_option maxHeartbeats 4000000
/-! A1: plain data, stores, how they lie in the abstract heap. -/
namespace Wr
open PySem PySem.Spec PyProof.Rows L2

/-- plain data -/
inductive P where
  | non | bl (b : Bool) | int (i : Int) | str (x : Str)
  | lst (l : List P) | tup (l : List P) | lsf (l : List P) | tpk (l : List P)
  | dK (l : List (Key × P)) | dT (l : List (List Key × P))
  | ins (c : Str) (l : List (Str × P)) | fn (x : Str) | set (l : List Str)
  deriving Inhabited

/-- the program, the world, the module's names -/
structure Mg where
  g : Str → Option Value
  prog : Program
  w : World
/-- the set of texts at a -/
def SxO (mg : Mg) (a : Addr) (l : List Str) : HO := .ext fun h => SxAt mg.prog mg.w h a l
def _root_.L2.Cx.gl (X : Cx) : Mg := ⟨X.mg, X.prog, X.w⟩
/-- what a name may hold: plain data, or a place of the store -/
inductive Wv where
  | p (x : P) | loc (n : Nat)
  deriving Inhabited
/-- what stands at a place of the store -/
inductive Ob where
  | lst (l : List P) | dK (l : List (Key × P)) | dT (l : List (List Key × P)) | sK (l : List Key) | ins (c : Str) (l : List (Str × Wv)) | gone
  deriving Inhabited

section
variable (K : PySem.W.Frag) (mg : Mg) (Z : Addr → Prop) (H : Hp)
/-- a list or tuple, read, not hot -/
def CoL (a : Addr) (xs : List V) : Prop :=
  (Rd H a (.lst xs) ∧ ¬ Z a) ∨ ∃ (o : Obj) (its : Array Value) (n : Nat), K.lookup a = some o ∧ o.cls = .type "list" ∧ o.dict = none ∧ o.data = .seq its n ∧ its.size ≤ sizeLine ∧ Vals xs its.toList
def CoT (a : Addr) (xs : List V) : Prop :=
  (Rd H a (.tup xs) ∧ ¬ Z a) ∨ ∃ (o : Obj) (its : Array Value) (n : Nat), K.lookup a = some o ∧ o.cls = .type "tuple" ∧ o.data = .seq its n ∧ its.size ≤ sizeLine ∧ Vals xs its.toList
mutual
inductive Rp : V → P → Prop
  | non : Rp .non .non
  | bl (b : Bool) : Rp (.bl b) (.bl b)
  | int (i : Int) : Rp (.int i) (.int i)
  | str (x : Str) : PySem.PyData.strOk x = true → Rp (.str x) (.str x)
  | lst {a : Addr} {xs : List V} {l : List P} : H a = some (.lst xs) → ¬ Z a → l.length ≤ sizeLine → RpL xs l → Rp (.ref a) (.lst l)
  | tup {a : Addr} {xs : List V} {l : List P} : H a = some (.tup xs) → ¬ Z a → l.length ≤ sizeLine → RpL xs l → Rp (.ref a) (.tup l)
  | lsf {a : Addr} {xs : List V} {l : List P} : CoL K Z H a xs → l.length ≤ sizeLine → RpL xs l → Rp (.ref a) (.lsf l)
  | tpk {a : Addr} {xs : List V} {l : List P} : CoT K Z H a xs → l.length ≤ sizeLine → RpL xs l → Rp (.ref a) (.tpk l)
  | dK {a : Addr} {xs : List (Key × V)} {l : List (Key × P)} : Rd H a (.dK xs) → ¬ Z a → RpK xs l → Rp (.ref a) (.dK l)
  | dT {a : Addr} {xs : List (List Key × V)} {l : List (List Key × P)} : Rd H a (.dT xs) → ¬ Z a → RpT xs l → Rp (.ref a) (.dT l)
  | set {a : Addr} {l : List Str} : H a = some (SxO mg a l) → ¬ Z a → (∀ k ∈ l, PySem.PyData.strOk k = true) → Rp (.ref a) (.set l)
  | fn {x : Str} {a : Addr} : mg.g x = some (.ref a) → Rp (.ref a) (.fn x)
  | ins {a C dx : Addr} {c : Str} {xs : List (Str × V)} {l : List (Str × P)} : H a = some (.ins C dx xs) → H dx = some (.own a) → ¬ Z a → ¬ Z dx → mg.g c = some (.ref C) → RpF xs l → Rp (.ref a) (.ins c l)
inductive RpL : List V → List P → Prop
  | nil : RpL [] []
  | cons {v : V} {p : P} {vs : List V} {ps : List P} : Rp v p → RpL vs ps → RpL (v :: vs) (p :: ps)
inductive RpK : List (Key × V) → List (Key × P) → Prop
  | nil : RpK [] []
  | cons {k : Key} {v : V} {p : P} {vs : List (Key × V)} {ps : List (Key × P)} : Rp v p → RpK vs ps → RpK ((k, v) :: vs) ((k, p) :: ps)
inductive RpT : List (List Key × V) → List (List Key × P) → Prop
  | nil : RpT [] []
  | cons {k : List Key} {v : V} {p : P} {vs : List (List Key × V)} {ps : List (List Key × P)} : Rp v p → RpT vs ps → RpT ((k, v) :: vs) ((k, p) :: ps)
inductive RpF : List (Str × V) → List (Str × P) → Prop
  | nil : RpF [] []
  | cons {k : Str} {v : V} {p : P} {vs : List (Str × V)} {ps : List (Str × P)} : Rp v p → RpF vs ps → RpF ((k, v) :: vs) ((k, p) :: ps)
end
end

def NT (o : HO) : Prop := ∀ ps, o ≠ .tbl ps
/-- something other than a table stands there -/
def Oc (H : Hp) (a : Addr) : Prop := ∃ o, H a = some o ∧ NT o
theorem noc {H : Hp} {a : Addr} (h : H a = none) : ¬ Oc H a := fun ⟨o, e, _⟩ => by rw [h] at e; cases e
/-- from (Z, H) to (Z', H'): what is cold stays -/
structure Cold (Z : Addr → Prop) (H : Hp) (Z' : Addr → Prop) (H' : Hp) : Prop where
  same : ∀ a o, H a = some o → ¬ Z a → NT o → H' a = some o
  new : ∀ a, Z' a → Z a ∨ ¬ Oc H a

section
variable {K : PySem.W.Frag} {mg : Mg} {Z Z' : Addr → Prop} {H H' : Hp}
theorem Cold.at_ (c : Cold Z H Z' H') {a : Addr} {o : HO} (e : H a = some o) (hz : ¬ Z a) (nt : NT o) : H' a = some o ∧ ¬ Z' a :=
  ⟨c.same a o e hz nt, fun z => (c.new a z).elim hz fun n => absurd ⟨_, e, nt⟩ n⟩
theorem nt_lst {xs} : NT (.lst xs) := fun _ e => by cases e
theorem nt_tup {xs} : NT (.tup xs) := fun _ e => by cases e
theorem nt_dK {xs} : NT (.dK xs) := fun _ e => by cases e
theorem nt_dT {xs} : NT (.dT xs) := fun _ e => by cases e
theorem nt_ins {C d xs} : NT (.ins C d xs) := fun _ e => by cases e
theorem nt_own {x} : NT (.own x) := fun _ e => by cases e
theorem nt_frz {o u} : NT (.frz o u) := fun _ e => by cases e
theorem nt_sx {mg : Mg} {a : Addr} {l : List Str} : NT (SxO mg a l) := fun _ e => by cases e
theorem nt_xd {x} : NT (.xd x) := fun _ e => by cases e
theorem Cold.rd (c : Cold Z H Z' H') {a : Addr} {u : HO} (r : Rd H a u) (hz : ¬ Z a) (nt : NT u) : Rd H' a u ∧ ¬ Z' a := by
  rcases r with r | ⟨o, r⟩
  · obtain ⟨h1, h2⟩ := c.at_ r hz nt
    exact ⟨.inl h1, h2⟩
  · obtain ⟨h1, h2⟩ := c.at_ r hz nt_frz
    exact ⟨.inr ⟨o, h1⟩, h2⟩
theorem Cold.coL (c : Cold Z H Z' H') {a : Addr} {xs : List V} (r : CoL K Z H a xs) : CoL K Z' H' a xs := by
  rcases r with ⟨r, hz⟩ | r
  · exact .inl (c.rd r hz nt_lst)
  · exact .inr r
theorem Cold.coT (c : Cold Z H Z' H') {a : Addr} {xs : List V} (r : CoT K Z H a xs) : CoT K Z' H' a xs := by
  rcases r with ⟨r, hz⟩ | r
  · exact .inl (c.rd r hz nt_tup)
  · exact .inr r
theorem CoL.sq {a : Addr} {xs : List V} (r : CoL K Z H a xs) : SqL K H a xs := by
  rcases r with ⟨r, _⟩ | r
  · exact .inl r
  · exact .inr r
theorem CoT.sq {a : Addr} {xs : List V} (r : CoT K Z H a xs) : SqT K H a xs := by
  rcases r with ⟨r, _⟩ | r
  · exact .inl r
  · exact .inr r
mutual
theorem Rp.move (c : Cold Z H Z' H') : ∀ {v : V} {p : P}, Rp K mg Z H v p → Rp K mg Z' H' v p
  | _, _, .non => .non
  | _, _, .bl b => .bl b
  | _, _, .int b => .int b
  | _, _, .str b h => .str b h
  | _, _, .lst h hz hl r => .lst (c.at_ h hz nt_lst).1 (c.at_ h hz nt_lst).2 hl (RpL.move c r)
  | _, _, .tup h hz hl r => .tup (c.at_ h hz nt_tup).1 (c.at_ h hz nt_tup).2 hl (RpL.move c r)
  | _, _, .lsf h hl r => .lsf (c.coL h) hl (RpL.move c r)
  | _, _, .tpk h hl r => .tpk (c.coT h) hl (RpL.move c r)
  | _, _, .dK h hz r => .dK (c.rd h hz nt_dK).1 (c.rd h hz nt_dK).2 (RpK.move c r)
  | _, _, .dT h hz r => .dT (c.rd h hz nt_dT).1 (c.rd h hz nt_dT).2 (RpT.move c r)
  | _, _, .set h hz ok => .set (c.at_ h hz nt_sx).1 (c.at_ h hz nt_sx).2 ok
  | _, _, .fn h => .fn h
  | _, _, .ins h hd hz hzd hc r => .ins (c.at_ h hz nt_ins).1 (c.at_ hd hzd nt_own).1 (c.at_ h hz nt_ins).2 (c.at_ hd hzd nt_own).2 hc (RpF.move c r)
theorem RpL.move (c : Cold Z H Z' H') : ∀ {vs : List V} {ps : List P}, RpL K mg Z H vs ps → RpL K mg Z' H' vs ps
  | _, _, .nil => .nil
  | _, _, .cons r t => .cons (Rp.move c r) (RpL.move c t)
theorem RpK.move (c : Cold Z H Z' H') : ∀ {vs : List (Key × V)} {ps : List (Key × P)}, RpK K mg Z H vs ps → RpK K mg Z' H' vs ps
  | _, _, .nil => .nil
  | _, _, .cons r t => .cons (Rp.move c r) (RpK.move c t)
theorem RpT.move (c : Cold Z H Z' H') : ∀ {vs : List (List Key × V)} {ps : List (List Key × P)}, RpT K mg Z H vs ps → RpT K mg Z' H' vs ps
  | _, _, .nil => .nil
  | _, _, .cons r t => .cons (Rp.move c r) (RpT.move c t)
theorem RpF.move (c : Cold Z H Z' H') : ∀ {vs : List (Str × V)} {ps : List (Str × P)}, RpF K mg Z H vs ps → RpF K mg Z' H' vs ps
  | _, _, .nil => .nil
  | _, _, .cons r t => .cons (Rp.move c r) (RpF.move c t)
end
theorem RpL.len : ∀ {vs : List V} {ps : List P}, RpL K mg Z H vs ps → vs.length = ps.length
  | _, _, .nil => rfl
  | _, _, .cons _ t => congrArg Nat.succ (RpL.len t)
theorem RpL.get : ∀ {vs : List V} {ps : List P} {i : Nat} {v : V}, RpL K mg Z H vs ps → vs[i]? = some v → ∃ p, ps[i]? = some p ∧ Rp K mg Z H v p
  | _, _, _, _, .nil, e => by simp at e
  | _, _, 0, _, .cons r _, e => ⟨_, rfl, by simp at e; rw [← e]; exact r⟩
  | _, _, i + 1, _, .cons _ t, e => by
    obtain ⟨p, h, r⟩ := RpL.get (i := i) t (by simpa using e)
    exact ⟨p, by simpa using h, r⟩
theorem RpL.get' : ∀ {vs : List V} {ps : List P} {i : Nat} {p : P}, RpL K mg Z H vs ps → ps[i]? = some p → ∃ v, vs[i]? = some v ∧ Rp K mg Z H v p
  | _, _, _, _, .nil, e => by simp at e
  | _, _, 0, _, .cons r _, e => ⟨_, rfl, by simp at e; rw [← e]; exact r⟩
  | _, _, i + 1, _, .cons _ t, e => by
    obtain ⟨p, h, r⟩ := RpL.get' (i := i) t (by simpa using e)
    exact ⟨p, by simpa using h, r⟩
theorem RpL.app : ∀ {vs ws : List V} {ps qs : List P}, RpL K mg Z H vs ps → RpL K mg Z H ws qs → RpL K mg Z H (vs ++ ws) (ps ++ qs)
  | _, _, _, _, .nil, s => s
  | _, _, _, _, .cons r t, s => .cons r (RpL.app t s)
theorem RpL.take : ∀ {vs : List V} {ps : List P} (n : Nat), RpL K mg Z H vs ps → RpL K mg Z H (vs.take n) (ps.take n)
  | _, _, 0, _ => .nil
  | _, _, _ + 1, .nil => .nil
  | _, _, n + 1, .cons r t => .cons r (RpL.take n t)
theorem RpL.drop : ∀ {vs : List V} {ps : List P} (n : Nat), RpL K mg Z H vs ps → RpL K mg Z H (vs.drop n) (ps.drop n)
  | _, _, 0, r => r
  | _, _, _ + 1, .nil => .nil
  | _, _, n + 1, .cons r t => RpL.drop n t
theorem RpL.set {v : V} {p : P} (r : Rp K mg Z H v p) : ∀ {vs : List V} {ps : List P} (n : Nat), RpL K mg Z H vs ps → RpL K mg Z H (vs.set n v) (ps.set n p)
  | _, _, _, .nil => .nil
  | _, _, 0, .cons _ t => .cons r t
  | _, _, n + 1, .cons q t => .cons q (RpL.set r n t)
theorem RpL.strs : ∀ {vs : List V} {xs : List Str}, RpL K mg Z H vs (xs.map P.str) → vs = xs.map V.str
  | _, [], .nil => rfl
  | _, _ :: _, .cons (.str x _) t => by rw [RpL.strs t]; rfl
theorem RpL.ints : ∀ {vs : List V} {xs : List Int}, RpL K mg Z H vs (xs.map P.int) → vs = xs.map V.int
  | _, [], .nil => rfl
  | _, _ :: _, .cons (.int x) t => by rw [RpL.ints t]; rfl
theorem RpL.bls : ∀ {vs : List V} {xs : List Bool}, RpL K mg Z H vs (xs.map P.bl) → vs = xs.map V.bl
  | _, [], .nil => rfl
  | _, _ :: _, .cons (.bl x) t => by rw [RpL.bls t]; rfl
theorem RpL.ofStrs : ∀ (xs : List Str), (∀ x ∈ xs, PySem.PyData.strOk x = true) → RpL K mg Z H (xs.map V.str) (xs.map P.str)
  | [], _ => .nil
  | x :: r, h => .cons (.str x (h x (by simp))) (RpL.ofStrs r fun y hy => h y (by simp [hy]))
theorem RpL.okStrs : ∀ {vs : List V} {xs : List Str}, RpL K mg Z H vs (xs.map P.str) → ∀ x ∈ xs, PySem.PyData.strOk x = true
  | _, [], .nil, x, hx => by simp at hx
  | _, _ :: _, .cons (.str x h) t, y, hy => by
    rcases List.mem_cons.mp hy with e | e
    · rw [e]; exact h
    · exact RpL.okStrs t y e
theorem RpL.ofInts : ∀ (xs : List Int), RpL K mg Z H (xs.map V.int) (xs.map P.int)
  | [] => .nil
  | x :: r => .cons (.int x) (RpL.ofInts r)
end

/-! ### the store -/
section
variable (K : PySem.W.Frag) (mg : Mg)
/-- a value over a store laid at m -/
inductive Rw (Z : Addr → Prop) (m : List Addr) (H : Hp) : V → Wv → Prop
  | p {v : V} {x : P} : Rp K mg Z H v x → Rw Z m H v (.p x)
  | loc {a : Addr} {n : Nat} : m[n]? = some a → Rw Z m H (.ref a) (.loc n)
inductive RwF (Z : Addr → Prop) (m : List Addr) (H : Hp) : List (Str × V) → List (Str × Wv) → Prop
  | nil : RwF Z m H [] []
  | cons {k : Str} {v : V} {p : Wv} {vs : List (Str × V)} {ps : List (Str × Wv)} : Rw K mg Z m H v p → RwF Z m H vs ps → RwF Z m H ((k, v) :: vs) ((k, p) :: ps)
/-- an object of the store, at its address -/
inductive RO (Z : Addr → Prop) (m : List Addr) (H : Hp) : HO → Ob → Prop
  | lst {xs : List V} {l : List P} : l.length ≤ sizeLine → RpL K mg Z H xs l → RO Z m H (.lst xs) (.lst l)
  | dK {xs : List (Key × V)} {l : List (Key × P)} : RpK K mg Z H xs l → RO Z m H (.dK xs) (.dK l)
  | dT {xs : List (List Key × V)} {l : List (List Key × P)} : RpT K mg Z H xs l → RO Z m H (.dT xs) (.dT l)
  | ins {C dx : Addr} {c : Str} {xs : List (Str × V)} {l : List (Str × Wv)} : mg.g c = some (.ref C) → RwF K mg Z m H xs l → RO Z m H (.ins C dx xs) (.ins c l)
/-- the tables of code objects of the defs -/
def tabAt (K : PySem.W.Frag) (c : Addr) : Option (Addr × Str) := match K.lookup c with
  | some ⟨.type "code", _, .fields vs, _⟩ => (match (vs[1]? : Option Value), (vs[11]? : Option Value) with
    | some (.str q _), some (.ref P) => if (K.lookup P).isNone = true then some (P, (q ++ ".<locals>.") ++ "<lambda>") else none
    | _, _ => none)
  | _ => none
def tabsOf (K : PySem.W.Frag) : List (Addr × Str) := K.filterMap fun p => tabAt K p.1
structure TabsK (K : PySem.W.Frag) (H : Hp) : Prop where
  tb : LamX.Tabs (tabsOf K) H
structure SOk (B Z : Addr → Prop) (m : List Addr) (H : Hp) (S : List Ob) : Prop where
  len : m.length = S.length
  nd : m.Nodup
  hot : ∀ (i : Nat) (a : Addr) (o : Ob), m[i]? = some a → S[i]? = some o → o ≠ .gone → Z a
  base : ∀ a, B a → Z a
  sep : ∀ a ∈ m, ¬ B a
  mdom : ∀ a ∈ m, Oc H a
  dom : ∀ a, Z a → Oc H a
  obj : ∀ (i : Nat) (a : Addr) (o : Ob), m[i]? = some a → S[i]? = some o → o ≠ .gone → ∃ h, H a = some h ∧ NT h ∧ RO K mg Z m H h o
  tabs : TabsK K H
end
/-- neither a table nor a code object -/
def Pl (u : HO) : Prop := NT u ∧ ∀ c q, u ≠ LamX.CodeO c q
theorem pl_lst {xs} : Pl (.lst xs) := ⟨nt_lst, fun c q e => by unfold LamX.CodeO at e; cases e⟩
theorem pl_dK {xs} : Pl (.dK xs) := ⟨nt_dK, fun c q e => by unfold LamX.CodeO at e; cases e⟩
theorem pl_dT {xs} : Pl (.dT xs) := ⟨nt_dT, fun c q e => by unfold LamX.CodeO at e; cases e⟩
theorem pl_ins {C d xs} : Pl (.ins C d xs) := ⟨nt_ins, fun c q e => by unfold LamX.CodeO at e; cases e⟩
theorem RO.pl {K : PySem.W.Frag} {mg : Mg} {Z : Addr → Prop} {m : List Addr} {H : Hp} {h : HO} {o : Ob} (r : RO K mg Z m H h o) : Pl h := by
  cases r <;> first | exact pl_lst | exact pl_dK | exact pl_dT | exact pl_ins
theorem TabsK.at_ {K : PySem.W.Frag} {H H' : Hp} (t : TabsK K H) (k : ∀ b u, H b = some u → ¬ Pl u → H' b = some u) : TabsK K H' := ⟨fun p hp => by
  obtain ⟨ps, h1, h2, h3⟩ := t.tb p hp
  refine ⟨ps, k _ _ h1 fun z => z.1 ps rfl, h2, fun pos cv hc => ?_⟩
  obtain ⟨c, e1, e2⟩ := h3 pos cv hc
  exact ⟨c, e1, k _ _ e2 fun z => z.2 c _ rfl⟩⟩
theorem upd_tbl {H : Hp} {a : Addr} {o : HO} (no : NT o) (b : Addr) (ps : Array Value) (e : L2.upd H a o b = some (.tbl ps)) : ∃ qs, H b = some (.tbl qs) := by
  by_cases q : b = a
  · rw [q, upd_same] at e
    cases e
    exact absurd rfl (no ps)
  · rw [upd_ne q] at e
    exact ⟨ps, e⟩
theorem TabsK.upd {K : PySem.W.Frag} {H : Hp} {a : Addr} {u o : HO} (t : TabsK K H) (h : H a = some u) (p : Pl u) (no : NT o) : TabsK K (L2.upd H a o) := t.at_ (fun b w e np => by
  rw [upd_ne fun q => ?_]
  · exact e
  · rw [q, h] at e
    cases e
    exact np p)
theorem TabsK.new {K : PySem.W.Frag} {H : Hp} {a : Addr} {o : HO} (t : TabsK K H) (h : H a = none) (no : NT o) : TabsK K (L2.upd H a o) := t.at_ (fun b w e _ => by
  rw [upd_ne (ne_of_none e h)]
  exact e)
/-- the frame goes on -/
structure Ext (B Z : Addr → Prop) (m : List Addr) (H : Hp) (Z' : Addr → Prop) (m' : List Addr) (H' : Hp) : Prop where
  pre : ∃ r, m' = m ++ r
  new : ∀ a, Z' a → Z a ∨ ¬ Oc H a
  mnew : ∀ a ∈ m', a ∈ m ∨ ¬ Oc H a
  same : ∀ a o, H a = some o → (¬ Z a ∨ B a) → NT o → H' a = some o
  dom : ∀ a, Oc H a → Oc H' a
section
variable {K : PySem.W.Frag} {mg : Mg} {B Z Z1 Z2 Z' : Addr → Prop} {m m1 m2 m' : List Addr} {H H1 H2 H' : Hp} {S S' : List Ob}
theorem Ext.refl : Ext B Z m H Z m H := ⟨⟨[], by simp⟩, fun _ z => .inl z, fun _ z => .inl z, fun _ _ e _ _ => e, fun _ z => z⟩
theorem Ext.cold (e : Ext B Z m H Z' m' H') : Cold Z H Z' H' := ⟨fun a o h hz nt => e.same a o h (.inl hz) nt, e.new⟩
theorem back_none {H H1 : Hp} (hd : ∀ a, Oc H a → Oc H1 a) {x : Addr} (q : ¬ Oc H1 x) : ¬ Oc H x := fun z => q (hd x z)
theorem Ext.trans (a : Ext B Z m H Z1 m1 H1) (b : Ext B Z1 m1 H1 Z2 m2 H2) : Ext B Z m H Z2 m2 H2 := by
  obtain ⟨r1, e1⟩ := a.pre
  obtain ⟨r2, e2⟩ := b.pre
  refine ⟨⟨r1 ++ r2, by rw [e2, e1, List.append_assoc]⟩, fun x z => ?_, fun x z => ?_, fun x o h hm nt => ?_, fun x z => b.dom x (a.dom x z)⟩
  · rcases b.new x z with q | q
    · exact a.new x q
    · exact .inr (back_none a.dom q)
  · rcases b.mnew x z with q | q
    · exact a.mnew x q
    · exact .inr (back_none a.dom q)
  · refine b.same x o (a.same x o h hm nt) ?_ nt
    rcases hm with q | q
    · left
      intro z
      rcases a.new x z with r | r
      · exact q r
      · exact absurd ⟨_, h, nt⟩ r
    · exact .inr q
theorem Ext.get (e : Ext B Z m H Z' m' H') {n : Nat} {a : Addr} (h : m[n]? = some a) : m'[n]? = some a := by
  obtain ⟨r, q⟩ := e.pre
  obtain ⟨hl, _⟩ := List.getElem?_eq_some_iff.mp h
  rw [q, List.getElem?_append_left hl]
  exact h
theorem Rw.move (e : Ext B Z m H Z' m' H') {v : V} {w : Wv} (r : Rw K mg Z m H v w) : Rw K mg Z' m' H' v w := by
  cases r with
  | p r => exact .p (r.move e.cold)
  | loc h => exact .loc (e.get h)
theorem RwF.move (e : Ext B Z m H Z' m' H') : ∀ {vs : List (Str × V)} {ps : List (Str × Wv)}, RwF K mg Z m H vs ps → RwF K mg Z' m' H' vs ps
  | _, _, .nil => .nil
  | _, _, .cons r t => .cons (r.move e) (RwF.move e t)
theorem RO.move (e : Ext B Z m H Z' m' H') {h : HO} {o : Ob} (r : RO K mg Z m H h o) : RO K mg Z' m' H' h o := by
  have c := e.cold
  cases r with
  | lst hl r => exact .lst hl (r.move c)
  | dK r => exact .dK (r.move c)
  | dT r => exact .dT (r.move c)
  | ins h r => exact .ins h (r.move e)
theorem dom_upd {p : Addr} {o : HO} (no : NT o) (a : Addr) (z : Oc H a) : Oc (upd H p o) a := by
  by_cases q : a = p
  · exact ⟨o, by rw [q, upd_same], no⟩
  · unfold Oc; rw [upd_ne q]; exact z
theorem dom_new {p : Addr} {o : HO} (hp : H p = none) (a : Addr) (z : Oc H a) : Oc (upd H p o) a := by
  have q : a ≠ p := fun q => noc hp (q ▸ z)
  unfold Oc; rw [upd_ne q]; exact z
/-- nothing of the store is touched, a new cold object at p -/
theorem ext_new {p : Addr} {o : HO} (hp : H p = none) : Ext B Z m H Z m (upd H p o) :=
  ⟨⟨[], by simp⟩, fun _ z => .inl z, fun _ z => .inl z, fun a u h _ _ => by rw [upd_ne (ne_of_none h hp)]; exact h, fun a z => dom_new hp a z⟩
theorem SOk.stay {B' : Addr → Prop} (s : SOk K mg B Z m H S) (hk : ∀ a o, H a = some o → a ∈ m → NT o → H' a = some o) (e : Ext B' Z m H Z m H') (tb : TabsK K H') : SOk K mg B Z m H' S :=
  ⟨s.len, s.nd, s.hot, s.base, s.sep, fun a z => e.dom a (s.mdom a z), fun a z => e.dom a (s.dom a z), fun i a o h1 h2 h3 => by
    obtain ⟨h, q1, q2, q3⟩ := s.obj i a o h1 h2 h3
    exact ⟨h, hk a h q1 (List.mem_of_getElem? h1) q2, q2, q3.move e⟩, tb⟩
theorem SOk.new (s : SOk K mg B Z m H S) {p : Addr} {o : HO} (hp : H p = none) (no : NT o := by (first | assumption | exact nt_lst | exact nt_tup | exact nt_dK | exact nt_dT | exact nt_ins | exact nt_own | exact nt_sx | exact nt_xd | (intro _ e; cases e))) : SOk K mg B Z m (upd H p o) S :=
  s.stay (B' := B) (fun a u h _ _ => by rw [upd_ne (ne_of_none h hp)]; exact h) (ext_new hp) (s.tabs.new hp no)
/-- a new object that becomes a place of the store -/
theorem ext_push {p : Addr} {o : HO} (hp : H p = none) : Ext B Z m H (fun a => Z a ∨ a = p) (m ++ [p]) (upd H p o) := ⟨⟨[p], rfl⟩, fun a z => z.elim .inl fun e => .inr (e ▸ noc hp),
  fun a z => by
    rcases List.mem_append.mp z with q | q
    · exact .inl q
    · rw [List.mem_singleton.mp q]; exact .inr (noc hp), fun a u h _ _ => by rw [upd_ne (ne_of_none h hp)]; exact h, fun a z => dom_new hp a z⟩
theorem SOk.push (s : SOk K mg B Z m H S) {p : Addr} {o : HO} {ob : Ob} (hp : H p = none) (nt : NT o) (r : RO K mg Z m H o ob) : SOk K mg B (fun a => Z a ∨ a = p) (m ++ [p]) (upd H p o) (S ++ [ob]) := by
  have hpm : p ∉ m := fun q => noc hp (s.mdom p q)
  have e : Ext B Z m H (fun a => Z a ∨ a = p) (m ++ [p]) (upd H p o) := ext_push hp
  have cases_ : ∀ (i : Nat) (a : Addr) (ob' : Ob), (m ++ [p])[i]? = some a → (S ++ [ob])[i]? = some ob' → (m[i]? = some a ∧ S[i]? = some ob') ∨ (a = p ∧ ob' = ob) := fun i a ob' h1 h2 => by
    by_cases hi : i < m.length
    · rw [List.getElem?_append_left hi] at h1
      rw [List.getElem?_append_left (by rw [← s.len]; exact hi)] at h2
      exact .inl ⟨h1, h2⟩
    · have hi' : i = m.length := by
        have := (List.getElem?_eq_some_iff.mp h1).1
        rw [List.length_append, List.length_singleton] at this
        omega
      subst hi'
      rw [List.getElem?_append_right (Nat.le_refl _), Nat.sub_self] at h1
      rw [List.getElem?_append_right (by rw [s.len]; exact Nat.le_refl _), s.len, Nat.sub_self] at h2
      cases h1; cases h2
      exact .inr ⟨rfl, rfl⟩
  refine ⟨by rw [List.length_append, List.length_append, s.len]; rfl, nd_snoc s.nd hpm, fun i a o' h1 h2 h3 => ?_, fun a q => .inl (s.base a q), fun a q => ?_, fun a q => ?_, fun a q => ?_, fun i a o' h1 h2 h3 => ?_, s.tabs.new hp nt⟩
  · rcases cases_ i a o' h1 h2 with ⟨q1, q2⟩ | ⟨q1, _⟩
    · exact .inl (s.hot i a o' q1 q2 h3)
    · exact .inr q1
  · rcases List.mem_append.mp q with q | q
    · exact s.sep a q
    · rw [List.mem_singleton.mp q]; exact fun z => noc hp (s.dom p (s.base p z))
  · rcases List.mem_append.mp q with q | q
    · exact e.dom a (s.mdom a q)
    · exact ⟨o, by rw [List.mem_singleton.mp q, upd_same], nt⟩
  · rcases q with q | q
    · exact e.dom a (s.dom a q)
    · exact ⟨o, by rw [q, upd_same], nt⟩
  · rcases cases_ i a o' h1 h2 with ⟨q1, q2⟩ | ⟨q1, q2⟩
    · obtain ⟨h, z1, z2, z3⟩ := s.obj i a o' q1 q2 h3
      exact ⟨h, by rw [upd_ne (ne_of_none z1 hp)]; exact z1, z2, z3.move e⟩
    · rw [q1, q2]
      exact ⟨o, upd_same, nt, r.move e⟩
/-- an object of the store is written -/
theorem SOk.ext_set (s : SOk K mg B Z m H S) {i : Nat} {a : Addr} {o : HO} {ob : Ob} (hi : m[i]? = some a) (h2 : S[i]? = some ob) (h3 : ob ≠ .gone) (no : NT o) : Ext B Z m H Z m (upd H a o) :=
  ⟨⟨[], by simp⟩, fun _ z => .inl z, fun _ z => .inl z, fun b u h hb _ => by
    have nb : b ≠ a := fun q => by
      rw [q] at hb
      rcases hb with z | z
      · exact z (s.hot i a ob hi h2 h3)
      · exact s.sep a (List.mem_of_getElem? hi) z
    rw [upd_ne nb]; exact h, fun b z => dom_upd no b z⟩
theorem SOk.put (s : SOk K mg B Z m H S) {i : Nat} {a : Addr} {o : HO} {ob ob0 : Ob} (hi : m[i]? = some a) (h20 : S[i]? = some ob0) (h30 : ob0 ≠ .gone) (nt : NT o) (r : RO K mg Z m H o ob) : SOk K mg B Z m (upd H a o) (S.set i ob) := by
  have e : Ext B Z m H Z m (upd H a o) := s.ext_set hi h20 h30 nt
  have za := s.hot i a ob0 hi h20 h30
  have cases_ : ∀ (j : Nat) (b : Addr) (ob' : Ob), m[j]? = some b → (S.set i ob)[j]? = some ob' → (b ≠ a ∧ S[j]? = some ob') ∨ (b = a ∧ ob' = ob) := fun j b ob' h1 h2 => by
    by_cases hj : j = i
    · subst hj
      rw [hi] at h1; cases h1
      rw [List.getElem?_set_self (List.getElem?_eq_some_iff.mp h20).1] at h2
      cases h2
      exact .inr ⟨rfl, rfl⟩
    · rw [List.getElem?_set_ne (Ne.symm hj)] at h2
      exact .inl ⟨fun q => hj (nd_ix s.nd (q ▸ h1) hi), h2⟩
  refine ⟨by rw [List.length_set]; exact s.len, s.nd, fun j b o' h1 h2 h3 => ?_, s.base, s.sep, fun b z => e.dom b (s.mdom b z), fun b z => e.dom b (s.dom b z), fun j b o' h1 h2 h3 => ?_, by
      obtain ⟨h, z1, _, z3⟩ := s.obj i a ob0 hi h20 h30
      exact s.tabs.upd z1 z3.pl nt⟩
  · rcases cases_ j b o' h1 h2 with ⟨_, q⟩ | ⟨q, _⟩
    · exact s.hot j b o' h1 q h3
    · rw [q]; exact za
  · rcases cases_ j b o' h1 h2 with ⟨q0, q⟩ | ⟨q, q2⟩
    · obtain ⟨h, q1, q2, q3⟩ := s.obj j b o' h1 q h3
      exact ⟨h, by rw [upd_ne q0]; exact q1, q2, q3.move e⟩
    · rw [q, q2]
      exact ⟨o, upd_same, nt, r.move e⟩
theorem SOk.has (s : SOk K mg B Z m H S) {i : Nat} {ob : Ob} (h2 : S[i]? = some ob) : ∃ a, m[i]? = some a := by
  have := (List.getElem?_eq_some_iff.mp h2).1
  rw [← s.len] at this
  exact ⟨_, List.getElem?_eq_getElem this⟩
theorem SOk.cold_new (s : SOk K mg B Z m H S) {p : Addr} (hp : H p = none) : ¬ Z p := fun z => noc hp (s.dom p z)
theorem new_lst (s : SOk K mg B Z m H S) {p : Addr} {xs : List V} {l : List P} (hp : H p = none) (hl : l.length ≤ sizeLine) (r : RpL K mg Z H xs l) : Rp K mg Z (upd H p (.lst xs)) (.ref p) (.lst l) :=
  .lst upd_same (s.cold_new hp) hl (r.move (ext_new (B := B) (m := m) hp).cold)
theorem new_tup (s : SOk K mg B Z m H S) {p : Addr} {xs : List V} {l : List P} (hp : H p = none) (hl : l.length ≤ sizeLine) (r : RpL K mg Z H xs l) : Rp K mg Z (upd H p (.tup xs)) (.ref p) (.tup l) :=
  .tup upd_same (s.cold_new hp) hl (r.move (ext_new (B := B) (m := m) hp).cold)
end
end Wr

set_option maxHeartbeats 4000000
/-! A2: what an expression is worth over data: the judgement, names, constants, the joining of parts. -/
namespace Wr
open PySem PySem.Spec PyProof.Rows L2

/-- an outcome: a value, or an error of the class of that name with its fields -/
inductive Rs (α : Type) where
  | ok (a : α) | exc (c : Str) (fs : List (Str × P))
abbrev Vars := List (Option Wv)
abbrev F (α : Type) := Vars → List Ob → Option (Rs α × List Ob)
/-- one after the other -/
def bindF {α β : Type} (fa : F α) (g : α → F β) : F β := fun ρ S =>
  match fa ρ S with
  | none => none
  | some (.exc c fs, S1) => some (.exc c fs, S1)
  | some (.ok a, S1) => g a ρ S1
def retF {α : Type} (a : α) : F α := fun _ S => some (.ok a, S)
def failF {α : Type} : F α := fun _ _ => none
def optF {α : Type} (o : Option α) : F α := fun _ S => o.map fun a => (.ok a, S)

def EnvOk (K : PySem.W.Frag) (mg : Mg) (Z : Addr → Prop) (m : List Addr) (H : Hp) (σ : L2.St) (ρ : Vars) : Prop :=
  ρ.length = σ.length ∧ ∀ (i : Nat) (w : Wv), ρ[i]? = some (some w) → ∃ v, σ[i]? = some (some v) ∧ Rw K mg Z m H v w
def ExR (K : PySem.W.Frag) (mg : Mg) (Z : Addr → Prop) (H : Hp) (c : Str) (fs : List (Str × P)) (cls : Value) (d : Option Addr) : Prop :=
  ∃ C, mg.g c = some (.ref C) ∧ cls = .ref C ∧ (fs = [] ∨ ∃ dx xs, d = some dx ∧ ¬ Z dx ∧ H dx = some (.xd xs) ∧ ∀ f p, fs.lookup f = some p → ∃ v, xs.lookup f = some v ∧ Rp K mg Z H v p)

abbrev Rel (α β : Type) := PySem.W.Frag → Mg → (Addr → Prop) → List Addr → Hp → β → α → Prop
def relW : Rel Wv V := fun K mg Z m H v w => Rw K mg Z m H v w
inductive RwL (K : PySem.W.Frag) (mg : Mg) (Z : Addr → Prop) (m : List Addr) (H : Hp) : List V → List Wv → Prop
  | nil : RwL K mg Z m H [] []
  | cons {v : V} {w : Wv} {vs : List V} {ws : List Wv} : Rw K mg Z m H v w → RwL K mg Z m H vs ws → RwL K mg Z m H (v :: vs) (w :: ws)
def relL : Rel (List Wv) (List V) := fun K mg Z m H v w => RwL K mg Z m H v w
def relB : Rel Bool Bool := fun _ _ _ _ _ b a => b = a

section
variable {α β γ δ : Type} (rel : Rel α β) (X : Cx) (W : WX)
def Out (σ : L2.St) (Q : β → Hp → Prop) (Z : Addr → Prop) (m : List Addr) (H : Hp) : Rs α → Prop
  | .ok a => ∀ b, rel X.K X.gl Z m H b a → Q b H
  | .exc c fs => ∀ cls d, ExR X.K X.gl Z H c fs cls d → W cls d σ H
def Goal (B : Addr → Prop) (σ : L2.St) (Q : β → Hp → Prop) (Z : Addr → Prop) (m : List Addr) (H : Hp) (r : Rs α) (S' : List Ob) : Prop :=
  ∀ Z' m' H', Ext B Z m H Z' m' H' → SOk X.K X.gl B Z' m' H' S' → Out rel X W σ Q Z' m' H' r
def tG (f : F α) : L2.St → Hp → (β → Hp → Prop) → Prop := fun σ H Q =>
  ∃ B Z m ρ S r S', SOk X.K X.gl B Z m H S ∧ EnvOk X.K X.gl Z m H σ ρ ∧ f ρ S = some (r, S') ∧ Goal rel X W B σ Q Z m H r S'
end
abbrev tW (X : Cx) (W : WX) (f : F Wv) : TE := tG relW X W f
/-- an expression is worth f -/
def SE (X : Cx) (W : WX) (e : Expr) (f : F Wv) : Prop := PE X e (tG relW X W f)
def ST (X : Cx) (W : WX) (e : Expr) (f : F Bool) : Prop := PT X e (tG relB X W f)
def SA (X : Cx) (W : WX) (es : List Expr) (f : F (List Wv)) : Prop := PA X es (tG relL X W f)

theorem pe_weak {X : Cx} {e : Expr} {t t' : TE} (h : PE X e t) (k : ∀ σ H Q, t' σ H Q → t σ H Q) : PE X e t' := ⟨fun pins s σ H Q I q => h.run pins s σ H Q I (k σ H Q q)⟩
theorem pt_weak {X : Cx} {e : Expr} {t t' : TT} (h : PT X e t) (k : ∀ σ H Q, t' σ H Q → t σ H Q) : PT X e t' := ⟨fun pins s σ H Q I q => h.run pins s σ H Q I (k σ H Q q)⟩
theorem pa_weak {X : Cx} {e : List Expr} {t t' : TA} (h : PA X e t) (k : ∀ σ H Q, t' σ H Q → t σ H Q) : PA X e t' := ⟨fun pos pins s σ H Q I q => h.run pos pins s σ H Q I (k σ H Q q)⟩

section
variable {K : PySem.W.Frag} {mg : Mg} {B Z Z' : Addr → Prop} {m m' : List Addr} {H H' : Hp}
theorem EnvOk.move {σ : L2.St} {ρ : Vars} (e : Ext B Z m H Z' m' H') (h : EnvOk K mg Z m H σ ρ) : EnvOk K mg Z' m' H' σ ρ :=
  ⟨h.1, fun i w q => by
    obtain ⟨v, h1, h2⟩ := h.2 i w q
    exact ⟨v, h1, h2.move e⟩⟩
theorem RwL.move (e : Ext B Z m H Z' m' H') : ∀ {vs : List V} {ws : List Wv}, RwL K mg Z m H vs ws → RwL K mg Z' m' H' vs ws
  | _, _, .nil => .nil
  | _, _, .cons r t => .cons (r.move e) (RwL.move e t)
theorem RwL.len : ∀ {vs : List V} {ws : List Wv}, RwL K mg Z m H vs ws → vs.length = ws.length
  | _, _, .nil => rfl
  | _, _, .cons r t => congrArg Nat.succ (RwL.len t)
end
section
variable {α β γ δ : Type} {rel1 : Rel α β} {rel : Rel γ δ} {X : Cx} {W : WX} {B Z Z1 : Addr → Prop} {m m1 : List Addr} {H H1 : Hp} {σ : L2.St} {ρ : Vars} {S S' : List Ob} {r : Rs γ} {Q : δ → Hp → Prop}
theorem Goal.move (k : Goal rel X W B σ Q Z m H r S') (e : Ext B Z m H Z1 m1 H1) : Goal rel X W B σ Q Z1 m1 H1 r S' := fun Z' m' H' e' s => k Z' m' H' (e.trans e') s
/-- a part is reckoned, then the rest -/
theorem tG_bind {fa : F α} {g : α → F γ} {R : β → Hp → Prop} (s : SOk X.K X.gl B Z m H S) (v : EnvOk X.K X.gl Z m H σ ρ) (eq : bindF fa g ρ S = some (r, S')) (k : Goal rel X W B σ Q Z m H r S')
    (hk : ∀ Z1 m1 H1 S1 a b, Ext B Z m H Z1 m1 H1 → SOk X.K X.gl B Z1 m1 H1 S1 → EnvOk X.K X.gl Z1 m1 H1 σ ρ → rel1 X.K X.gl Z1 m1 H1 b a → g a ρ S1 = some (r, S') → Goal rel X W B σ Q Z1 m1 H1 r S' → R b H1) :
    tG rel1 X W fa σ H R := by
  unfold bindF at eq
  cases h : fa ρ S with
  | none => rw [h] at eq; cases eq
  | some q =>
    obtain ⟨ra, S1⟩ := q
    rw [h] at eq
    refine ⟨B, Z, m, ρ, S, ra, S1, s, v, h, fun Z1 m1 H1 e1 s1 => ?_⟩
    cases ra with
    | ok a => exact fun b rb => hk Z1 m1 H1 S1 a b e1 s1 (v.move e1) rb eq (k.move e1)
    | exc c fs =>
      cases eq
      exact fun cls d x => k Z1 m1 H1 e1 s1 cls d x
/-- the end: the value stands -/
theorem Goal.fin {a : γ} {b : δ} (k : Goal rel X W B σ Q Z m H (.ok a) S) (s : SOk X.K X.gl B Z m H S) (r : rel X.K X.gl Z m H b a) : Q b H := k Z m H Ext.refl s b r
theorem Goal.fin' {Z' : Addr → Prop} {m' : List Addr} {H' : Hp} {a : γ} {b : δ} (k : Goal rel X W B σ Q Z m H (.ok a) S') (e : Ext B Z m H Z' m' H') (s : SOk X.K X.gl B Z' m' H' S') (r : rel X.K X.gl Z' m' H' b a) : Q b H' := k Z' m' H' e s b r
end

/-! ### names and constants -/
section
variable {X : Cx} {W : WX} {pos : Pos}
def fVar (i : Nat) : F Wv := fun ρ S => match ρ[i]? with | some (some w) => some (.ok w, S) | _ => none
theorem se_var {i : Nat} {x : Str} (hN : X.N[i]? = some x) (hv : Vis X.env.scope x) (hd : (x == ("__debug__" : Str)) = false) (hcd : (x == ("__classdict__" : Str)) = false) : SE X W (.Name x pos) (fVar i) := by
  refine pe_weak (pe_var hN hv hd hcd) fun σ H Q ⟨B, Z, m, ρ, S, r, S', s, v, eq, k⟩ => ?_
  unfold fVar at eq
  split at eq
  · rename_i w hw
    cases eq
    obtain ⟨u, h1, h2⟩ := v.2 i w hw
    exact ⟨u, h1, k.fin s h2⟩
  · cases eq
def fC (p : P) : F Wv := retF (.p p)
theorem se_int {i j} : SE X W (.Constant (.int i) j pos) (fC (.int i)) := by
  refine pe_weak pe_int fun σ H Q ⟨B, Z, m, ρ, S, r, S', s, v, eq, k⟩ => ?_
  cases eq
  exact k.fin s (.p (.int i))
theorem se_str {i j} (hi : PySem.PyData.strOk i = true) : SE X W (.Constant (.str i) j pos) (fC (.str i)) := by
  refine pe_weak pe_str fun σ H Q ⟨B, Z, m, ρ, S, r, S', s, v, eq, k⟩ => ?_
  cases eq
  exact k.fin s (.p (.str i hi))
theorem se_bl {i j} : SE X W (.Constant (.bool i) j pos) (fC (.bl i)) := by
  refine pe_weak pe_bl fun σ H Q ⟨B, Z, m, ρ, S, r, S', s, v, eq, k⟩ => ?_
  cases eq
  exact k.fin s (.p (.bl i))
theorem se_non {j} : SE X W (.Constant .none j pos) (fC .non) := by
  refine pe_weak pe_non fun σ H Q ⟨B, Z, m, ρ, S, r, S', s, v, eq, k⟩ => ?_
  cases eq
  exact k.fin s (.p .non)
/-- a module's constant or def -/
theorem se_glob {x : Str} {v : V} {u : Value} {p : P} (hg : Gl X x) (hm : X.mg x = some u) (r : RelV v u) (hr : ∀ Z H, Rp X.K X.gl Z H v p) (hd : (x == ("__debug__" : Str)) = false) : SE X W (.Name x pos) (fC p) := by
  refine pe_weak (pe_glob hg hm r hd) fun σ H Q ⟨B, Z, m, ρ, S, r, S', s, v, eq, k⟩ => ?_
  cases eq
  exact k.fin s (.p (hr Z H))

/-! ### the argument list -/
def fNil : F (List Wv) := retF []
def fCons (fa : F Wv) (fr : F (List Wv)) : F (List Wv) := bindF fa fun a => bindF fr fun r => retF (a :: r)
theorem sa_nil : SA X W [] fNil := by
  refine pa_weak pa_nil fun σ H Q ⟨B, Z, m, ρ, S, r, S', s, v, eq, k⟩ => ?_
  cases eq
  exact k.fin s .nil
theorem sa_cons {e : Expr} {es : List Expr} {fa : F Wv} {fr : F (List Wv)} (ha : SE X W e fa) (hr : SA X W es fr) (hs : starEach (e :: es) X.env = (false, eval e X.env) :: starEach es X.env) : SA X W (e :: es) (fCons fa fr) := by
  refine pa_weak (pa_cons ha hr hs) fun σ H Q ⟨B, Z, m, ρ, S, r, S', s, v, eq, k⟩ => ?_
  refine tG_bind s v eq k fun Z1 m1 H1 S1 a b e1 s1 v1 ra eq1 k1 => ?_
  refine tG_bind s1 v1 eq1 k1 fun Z2 m2 H2 S2 as bs e2 s2 v2 rs eq2 k2 => ?_
  cases eq2
  exact k2.fin s2 (.cons (ra.move e2) rs)

/-! ### tests by truth, and, or, not, if -/
/-- what is read of a value: data, or the object at its place -/
def view (w : Wv) (S : List Ob) : Option P := match w with
  | .p x => some x
  | .loc n => match S[n]? with
    | some (.lst l) => some (.lst l)
    | some (.dK l) => some (.dK l)
    | some (.dT l) => some (.dT l)
    | _ => none
/-- v can be read as x -/
inductive RV (K : PySem.W.Frag) (mg : Mg) (Z : Addr → Prop) (H : Hp) : V → P → Prop
  | cold {v : V} {x : P} : Rp K mg Z H v x → RV K mg Z H v x
  | lst {a : Addr} {xs : List V} {l : List P} : H a = some (.lst xs) → l.length ≤ sizeLine → RpL K mg Z H xs l → RV K mg Z H (.ref a) (.lst l)
  | dK {a : Addr} {xs : List (Key × V)} {l : List (Key × P)} : H a = some (.dK xs) → RpK K mg Z H xs l → RV K mg Z H (.ref a) (.dK l)
  | dT {a : Addr} {xs : List (List Key × V)} {l : List (List Key × P)} : H a = some (.dT xs) → RpT K mg Z H xs l → RV K mg Z H (.ref a) (.dT l)
end
section
variable {K : PySem.W.Frag} {mg : Mg} {B Z Z' : Addr → Prop} {m m' : List Addr} {H H' : Hp} {S : List Ob}
theorem view_ok {v : V} {w : Wv} {x : P} (s : SOk K mg B Z m H S) (r : Rw K mg Z m H v w) (h : view w S = some x) : RV K mg Z H v x := by
  cases r with
  | p r =>
    cases h
    exact .cold r
  | @loc a n hm =>
    unfold view at h
    simp only at h
    split at h
    · rename_i l hl
      cases h
      obtain ⟨ho, e1, _, r⟩ := s.obj n a _ hm hl (by intro z; cases z)
      cases r with
      | lst hz r => exact .lst e1 hz r
    · rename_i l hl
      cases h
      obtain ⟨ho, e1, _, r⟩ := s.obj n a _ hm hl (by intro z; cases z)
      cases r with
      | dK r => exact .dK e1 r
    · rename_i l hl
      cases h
      obtain ⟨ho, e1, _, r⟩ := s.obj n a _ hm hl (by intro z; cases z)
      cases r with
      | dT r => exact .dT e1 r
    · cases h
theorem RV.lstI {v : V} {l : List P} (r : RV K mg Z H v (.lst l)) : ∃ a xs, v = .ref a ∧ H a = some (.lst xs) ∧ RpL K mg Z H xs l := by
  cases r with
  | cold r =>
    cases r with
    | lst h hz _ r => exact ⟨_, _, rfl, h, r⟩
  | lst h _ r => exact ⟨_, _, rfl, h, r⟩
theorem RV.lsfI {v : V} {l : List P} (r : RV K mg Z H v (.lsf l)) : ∃ a xs, v = .ref a ∧ SqL K H a xs ∧ RpL K mg Z H xs l := by
  cases r with
  | cold r =>
    cases r with
    | lsf h _ r => exact ⟨_, _, rfl, h.sq, r⟩
theorem RV.tupI {v : V} {l : List P} (r : RV K mg Z H v (.tup l)) : ∃ a xs, v = .ref a ∧ H a = some (.tup xs) ∧ RpL K mg Z H xs l := by
  cases r with
  | cold r =>
    cases r with
    | tup h hz _ r => exact ⟨_, _, rfl, h, r⟩
theorem RV.tpkI {v : V} {l : List P} (r : RV K mg Z H v (.tpk l)) : ∃ a xs, v = .ref a ∧ SqT K H a xs ∧ RpL K mg Z H xs l := by
  cases r with
  | cold r =>
    cases r with
    | tpk h _ r => exact ⟨_, _, rfl, h.sq, r⟩
/-- a list or a tuple, whatever it is -/
def asL : P → Option (List P)
  | .lst l => some l
  | .lsf l => some l
  | _ => none
def asT : P → Option (List P)
  | .tup l => some l
  | .tpk l => some l
  | _ => none
theorem RV.asL {v : V} {x : P} {l : List P} (r : RV K mg Z H v x) (h : asL x = some l) : ∃ a xs, v = .ref a ∧ SqL K H a xs ∧ RpL K mg Z H xs l := by
  cases x <;> simp only [Wr.asL] at h <;> first | (cases h; done) | skip
  · cases h
    obtain ⟨a, xs, e, h, r⟩ := r.lstI
    exact ⟨a, xs, e, SqL.of h, r⟩
  · cases h
    exact r.lsfI
theorem RV.asT {v : V} {x : P} {l : List P} (r : RV K mg Z H v x) (h : asT x = some l) : ∃ a xs, v = .ref a ∧ SqT K H a xs ∧ RpL K mg Z H xs l := by
  cases x <;> simp only [Wr.asT] at h <;> first | (cases h; done) | skip
  · cases h
    obtain ⟨a, xs, e, h, r⟩ := r.tupI
    exact ⟨a, xs, e, SqT.of h, r⟩
  · cases h
    exact r.tpkI
theorem RV.lenL {v : V} {x : P} {l : List P} (r : RV K mg Z H v x) (h : Wr.asL x = some l ∨ Wr.asT x = some l) : l.length ≤ sizeLine := by
  cases r with
  | cold r =>
    cases r <;> simp only [Wr.asL, Wr.asT] at h <;> first | (rcases h with h | h <;> cases h; done) | skip
    all_goals
      rcases h with h | h <;> cases h <;> assumption
  | lst _ hl _ =>
    simp only [Wr.asL, Wr.asT] at h
    rcases h with h | h <;> cases h
    exact hl
  | dK _ _ => simp only [Wr.asL, Wr.asT] at h; rcases h with h | h <;> cases h
  | dT _ _ => simp only [Wr.asL, Wr.asT] at h; rcases h with h | h <;> cases h
theorem RV.intI {v : V} {i : Int} (r : RV K mg Z H v (.int i)) : v = .int i := by
  cases r with
  | cold r => cases r; rfl
theorem RV.blI {v : V} {i : Bool} (r : RV K mg Z H v (.bl i)) : v = .bl i := by
  cases r with
  | cold r => cases r; rfl
theorem RV.strI {v : V} {i : Str} (r : RV K mg Z H v (.str i)) : v = .str i := by
  cases r with
  | cold r => cases r; rfl
theorem RV.nonI {v : V} (r : RV K mg Z H v .non) : v = .non := by
  cases r with
  | cold r => cases r; rfl
end
end Wr

set_option maxHeartbeats 4000000
/-! A3: operators, comparisons, truth over data. -/
namespace Wr
open PySem PySem.Spec PyProof.Rows L2

mutual
/-- plain data that == knows: no dict, no object, no def -/
def dat : P → Bool
  | .non => true
  | .bl _ => true
  | .int _ => true
  | .str _ => true
  | .lst l => datL l
  | .tup l => datL l
  | .lsf l => datL l
  | .tpk l => datL l
  | .dK _ => false
  | .dT _ => false
  | .ins _ _ => false
  | .fn _ => false
  | .set _ => false
def datL : List P → Bool
  | [] => true
  | x :: r => dat x && datL r
end
mutual
def dep : P → Nat
  | .non => 0
  | .bl _ => 0
  | .int _ => 0
  | .str _ => 0
  | .lst l => depL l + 1
  | .tup l => depL l + 1
  | .lsf l => depL l + 1
  | .tpk l => depL l + 1
  | .dK _ => 0
  | .dT _ => 0
  | .ins _ _ => 0
  | .fn _ => 0
  | .set _ => 0
def depL : List P → Nat
  | [] => 0
  | x :: r => max (dep x) (depL r)
end
mutual
def toPy : P → PyData
  | .non => .none
  | .bl b => .bool b
  | .int i => .int i
  | .str x => .str x
  | .lst l => .list (toPyL l)
  | .tup l => .tuple (toPyL l)
  | .lsf l => .list (toPyL l)
  | .tpk l => .tuple (toPyL l)
  | .dK _ => .none
  | .dT _ => .none
  | .ins _ _ => .none
  | .fn _ => .none
  | .set _ => .none
def toPyL : List P → List PyData
  | [] => []
  | x :: r => toPy x :: toPyL r
end
mutual
/-- x == y of plain data -/
def eqP : P → P → Bool
  | .non, .non => true
  | .bl a, .bl b => a == b
  | .bl a, .int j => (if a then 1 else 0) == j
  | .int i, .bl b => i == (if b then 1 else 0)
  | .int i, .int j => i == j
  | .str x, .str y => x == y
  | .lst l, .lst k => eqL l k
  | .lst l, .lsf k => eqL l k
  | .lsf l, .lst k => eqL l k
  | .lsf l, .lsf k => eqL l k
  | .tup l, .tup k => eqL l k
  | .tup l, .tpk k => eqL l k
  | .tpk l, .tup k => eqL l k
  | .tpk l, .tpk k => eqL l k
  | _, _ => false
def eqL : List P → List P → Bool
  | [], [] => true
  | x :: xs, y :: ys => eqP x y && eqL xs ys
  | _, _ => false
end
mutual
theorem dep_py : ∀ x : P, dat x = true → (toPy x).depth = dep x
  | .non, _ => by simp [toPy, dep, PyData.depth]
  | .bl _, _ => by simp [toPy, dep, PyData.depth]
  | .int _, _ => by simp [toPy, dep, PyData.depth]
  | .str _, _ => by simp [toPy, dep, PyData.depth]
  | .lst l, h => by simp only [dat] at h; simp [toPy, dep, PyData.depth, depL_py l h]
  | .tup l, h => by simp only [dat] at h; simp [toPy, dep, PyData.depth, depL_py l h]
  | .lsf l, h => by simp only [dat] at h; simp [toPy, dep, PyData.depth, depL_py l h]
  | .tpk l, h => by simp only [dat] at h; simp [toPy, dep, PyData.depth, depL_py l h]
  | .dK _, h => by simp [dat] at h
  | .dT _, h => by simp [dat] at h
  | .ins _ _, h => by simp [dat] at h
  | .fn _, h => by simp [dat] at h
  | .set _, h => by simp [dat] at h
theorem depL_py : ∀ l : List P, datL l = true → PyData.depthAll (toPyL l) = depL l
  | [], _ => by simp [toPyL, depL, PyData.depthAll]
  | x :: r, h => by
    simp only [datL, Bool.and_eq_true] at h
    simp [toPyL, depL, PyData.depthAll, dep_py x h.1, depL_py r h.2]
end
mutual
theorem eq_py : ∀ x y : P, dat x = true → dat y = true → PyData.eqv (toPy x) (toPy y) = eqP x y := fun x y hx hy => by
  cases x <;> cases y <;> first | (simp [dat] at hx; done) | (simp [dat] at hy; done) | (simp [toPy, PyData.eqv, eqP]; done) | (simp only [dat] at hx hy; simp only [toPy, PyData.eqv, eqP]; exact eqL_py _ _ hx hy)
theorem eqL_py : ∀ x y : List P, datL x = true → datL y = true → PyData.eqvAll (toPyL x) (toPyL y) = eqL x y
  | [], [], _, _ => by simp [toPyL, PyData.eqvAll, eqL]
  | [], _ :: _, _, _ => by simp [toPyL, PyData.eqvAll, eqL]
  | _ :: _, [], _, _ => by simp [toPyL, PyData.eqvAll, eqL]
  | x :: xs, y :: ys, hx, hy => by
    simp only [datL, Bool.and_eq_true] at hx hy
    simp only [toPyL, PyData.eqvAll, eqL]
    rw [eq_py x y hx.1 hy.1, eqL_py xs ys hx.2 hy.2]
end
section
variable {K : PySem.W.Frag} {mg : Mg} {B Z Z' : Addr → Prop} {m m' : List Addr} {H H' : Hp} {S : List Ob}
mutual
theorem Rp.dp : ∀ {v : V} {x : P}, Rp K mg Z H v x → dat x = true → Dp K H v (toPy x) ∧ (toPy x).canLay0 = true
  | _, _, .non, _ => ⟨.non, by simp [toPy, PyData.canLay0]⟩
  | _, _, .bl b, _ => ⟨.bl b, by simp [toPy, PyData.canLay0]⟩
  | _, _, .int b, _ => ⟨.int b, by simp [toPy, PyData.canLay0]⟩
  | _, _, .str b h, _ => ⟨.str b, by simpa [toPy, PyData.canLay0] using h⟩
  | _, _, .lst h hz _ r, q => by
    simp only [dat] at q
    obtain ⟨h1, h2⟩ := RpL.dp r q
    exact ⟨.lst (SqL.of h) h1, by simpa [toPy, PyData.canLay0] using h2⟩
  | _, _, .tup h hz _ r, q => by
    simp only [dat] at q
    obtain ⟨h1, h2⟩ := RpL.dp r q
    exact ⟨.tup (SqT.of h) h1, by simpa [toPy, PyData.canLay0] using h2⟩
  | _, _, .lsf h _ r, q => by
    simp only [dat] at q
    obtain ⟨h1, h2⟩ := RpL.dp r q
    exact ⟨.lst h.sq h1, by simpa [toPy, PyData.canLay0] using h2⟩
  | _, _, .tpk h _ r, q => by
    simp only [dat] at q
    obtain ⟨h1, h2⟩ := RpL.dp r q
    exact ⟨.tup h.sq h1, by simpa [toPy, PyData.canLay0] using h2⟩
  | _, _, .dK _ _ _, q => by simp [dat] at q
  | _, _, .dT _ _ _, q => by simp [dat] at q
  | _, _, .fn _, q => by simp [dat] at q
  | _, _, .set _ _ _, q => by simp [dat] at q
  | _, _, .ins _ _ _ _ _ _, q => by simp [dat] at q
theorem RpL.dp : ∀ {v : List V} {x : List P}, RpL K mg Z H v x → datL x = true → DpAll K H v (toPyL x) ∧ PyData.canLayAll0 (toPyL x) = true
  | _, _, .nil, _ => ⟨.nil, by simp [toPyL, PyData.canLayAll0]⟩
  | _, _, .cons r t, q => by
    simp only [datL, Bool.and_eq_true] at q
    obtain ⟨h1, h2⟩ := Rp.dp r q.1
    obtain ⟨h3, h4⟩ := RpL.dp t q.2
    exact ⟨.cons h1 h3, by simp [toPyL, PyData.canLayAll0, h2, h4]⟩
end
theorem RV.dp {v : V} {x : P} (r : RV K mg Z H v x) (q : dat x = true) : Dp K H v (toPy x) ∧ (toPy x).canLay0 = true := by
  cases r with
  | cold r => exact r.dp q
  | lst h _ r =>
    simp only [dat] at q
    obtain ⟨h1, h2⟩ := r.dp q
    exact ⟨.lst (SqL.of h) h1, by simpa [toPy, PyData.canLay0] using h2⟩
  | dK _ _ => simp [dat] at q
  | dT _ _ => simp [dat] at q
end

/-! ### an operator on two values -/
/-- r holds wherever the function says a value -/
def OpOk (X : Cx) (r : R2) (fo : P → P → Option P) : Prop :=
  ∀ (B Z : Addr → Prop) (m : List Addr) (H : Hp) (S : List Ob) (v w : V) (x y z : P) (Q : VK), SOk X.K X.gl B Z m H S → RV X.K X.gl Z H v x → RV X.K X.gl Z H w y → fo x y = some z →
    (∀ H' u, Ext B Z m H Z m H' → SOk X.K X.gl B Z m H' S → Rp X.K X.gl Z H' u z → Q u H') → r v w H Q
def f2 (fo : P → P → Option P) (fa fb : F Wv) : F Wv := bindF fa fun a => bindF fb fun b => fun _ S =>
  match view a S, view b S with
  | some x, some y => (fo x y).map fun z => (.ok (.p z), S)
  | _, _ => none
section
variable {X : Cx} {W : WX} {a b : Expr} {fa fb : F Wv} {pos : Pos}
/-- the general step: two operands, then a rule by values -/
theorem two_ok {r : R2} {fo : P → P → Option P} (ok : OpOk X r fo) {σ : L2.St} {H : Hp} {Q : VK} (h : tG relW X W (f2 fo fa fb) σ H Q) :
    tG relW X W fa σ H fun x H1 => tG relW X W fb σ H1 fun y H2 => r x y H2 Q := by
  obtain ⟨B, Z, m, ρ, S, rr, S', s, v, eq, k⟩ := h
  refine tG_bind s v eq k fun Z1 m1 H1 S1 x vx e1 s1 v1 rx eq1 k1 => ?_
  refine tG_bind s1 v1 eq1 k1 fun Z2 m2 H2 S2 y vy e2 s2 v2 ry eq2 k2 => ?_
  have rx2 := Rw.move e2 rx
  split at eq2
  · rename_i p q hp hq
    cases hz : fo p q with
    | none => rw [hz] at eq2; cases eq2
    | some z =>
      rw [hz] at eq2
      cases eq2
      exact ok B Z2 m2 H2 _ vx vy p q z Q s2 (view_ok s2 rx2 hp) (view_ok s2 ry hq) hz fun H' u e' s' ru => k2.fin' e' s' (.p ru)
  · cases eq2
theorem se_bin {op : Operator} {r : R2} {fo : P → P → Option P} (ho : OpR X (binaryOp op) r) (ok : OpOk X r fo) (ha : SE X W a fa) (hb : SE X W b fb) : SE X W (.BinOp a op b pos) (f2 fo fa fb) :=
  pe_weak (pe_op ho ha hb) fun _ _ _ h => two_ok ok h
theorem se_cmp {op : CmpOp} {r : R2} {fo : P → P → Option P} (ho : OpR X (compareOp op) r) (ok : OpOk X r fo) (ha : SE X W a fa) (hb : SE X W b fb) (hm : behindInMarks op b = false) : SE X W (.Compare a [op] [b] pos) (f2 fo fa fb) :=
  pe_weak (pe_cmpR ho ha hb hm) fun _ _ _ h => two_ok ok h
theorem OpOk.or {r r' : R2} {fo fo' : P → P → Option P} (h : OpOk X r fo) (h' : OpOk X r' fo') : OpOk X (fun x y H Q => r x y H Q ∨ r' x y H Q) (fun x y => (fo x y).or (fo' x y)) := by
  intro B Z m H S v w x y z Q s rv rw_ e k
  replace e : (fo x y).or (fo' x y) = some z := e
  cases hf : fo x y with
  | some z' =>
    rw [hf] at e
    cases e
    exact .inl (h B Z m H S v w x y _ Q s rv rw_ hf k)
  | none =>
    rw [hf] at e
    exact .inr (h' B Z m H S v w x y z Q s rv rw_ e k)

/-! ### numbers -/
def intOp (g : Int → Int → Option Int) : P → P → Option P
  | .int i, .int j => (g i j).map .int
  | _, _ => none
theorem ok_rI {C : Int → Int → Prop} {g : Int → Int → Int} {g' : Int → Int → Option Int} (hg : ∀ i j z, g' i j = some z → C i j ∧ z = g i j) : OpOk X (rI C fun i j => .int (g i j)) (intOp g') := by
  intro B Z m H S v w x y z Q s rv rw_ e k
  cases x <;> cases y <;> simp only [intOp] at e <;> first | (cases e; done) | skip
  rename_i i j
  cases hz : g' i j with
  | none => rw [hz] at e; cases e
  | some z' =>
    rw [hz] at e
    cases e
    obtain ⟨c, rfl⟩ := hg i j z' hz
    exact ⟨i, j, rv.intI, rw_.intI, c, k H _ Ext.refl s (.int _)⟩
theorem ok_rI0 {g : Int → Int → Int} : OpOk X (rI0 fun i j => .int (g i j)) (intOp fun i j => some (g i j)) := by
  intro B Z m H S v w x y z Q s rv rw_ e k
  cases x <;> cases y <;> simp only [intOp] at e <;> first | (cases e; done) | skip
  cases e
  exact ⟨_, _, rv.intI, rw_.intI, k H _ Ext.refl s (.int _)⟩
def cmpI (g : Int → Int → Bool) : P → P → Option P
  | .int i, .int j => some (.bl (g i j))
  | _, _ => none
theorem ok_cmpI {g : Int → Int → Bool} : OpOk X (rI0 fun i j => .bl (g i j)) (cmpI g) := by
  intro B Z m H S v w x y z Q s rv rw_ e k
  cases x <;> cases y <;> simp only [cmpI] at e <;> first | (cases e; done) | skip
  cases e
  exact ⟨_, _, rv.intI, rw_.intI, k H _ Ext.refl s (.bl _)⟩
/-! ### texts, lists, tuples joined -/
def catStr : P → P → Option P
  | .str x, .str y => if x.length + y.length ≤ sizeLine then some (.str (x ++ y)) else none
  | _, _ => none
theorem strOk_app {x y : Str} (hx : PySem.PyData.strOk x = true) (hy : PySem.PyData.strOk y = true) : PySem.PyData.strOk (x ++ y) = true := by
  unfold PySem.PyData.strOk at *
  show ((x.cps ++ y.cps).all fun c => decide (c < 0x110000)) = true
  rw [Array.all_append, hx, hy]
  rfl
theorem RV.strO {K : PySem.W.Frag} {mg : Mg} {Z : Addr → Prop} {H : Hp} {v : V} {i : Str} (r : RV K mg Z H v (.str i)) : PySem.PyData.strOk i = true := by
  cases r with
  | cold r => cases r; assumption
theorem ok_catStr : OpOk X (fun x y H Q => ∃ i j, x = .str i ∧ y = .str j ∧ i.length + j.length ≤ sizeLine ∧ Q (.str (i ++ j)) H) catStr := by
  intro B Z m H S v w x y z Q s rv rw_ e k
  cases x <;> cases y <;> simp only [catStr] at e <;> first | (cases e; done) | skip
  split at e
  · rename_i hl
    cases e
    exact ⟨_, _, rv.strI, rw_.strI, hl, k H _ Ext.refl s (.str _ (strOk_app rv.strO rw_.strO))⟩
  · cases e
def catLst : P → P → Option P
  | .lst x, .lst y => if x.length + y.length ≤ sizeLine then some (.lst (x ++ y)) else none
  | _, _ => none
theorem ok_catLst : OpOk X rCat catLst := by
  intro B Z m H S v w x y z Q s rv rw_ e k
  cases x <;> cases y <;> simp only [catLst] at e <;> first | (cases e; done) | skip
  split at e
  · rename_i hl
    cases e
    obtain ⟨a, xs, rfl, ha, ra⟩ := rv.lstI
    obtain ⟨b, ys, rfl, hb, rb⟩ := rw_.lstI
    refine ⟨a, b, xs, ys, rfl, rfl, ha, hb, by rw [ra.len, rb.len]; exact hl, fun p hp => ?_⟩
    exact k _ _ (ext_new hp) (s.new hp) (new_lst s hp (by rw [List.length_append]; exact hl) (ra.app rb))
  · cases e
def catTup : P → P → Option P
  | .tup x, .tup y => if x.length + y.length ≤ sizeLine then some (.tup (x ++ y)) else none
  | _, _ => none
theorem RV.tupC {K : PySem.W.Frag} {mg : Mg} {Z : Addr → Prop} {H : Hp} {v : V} {l : List P} (r : RV K mg Z H v (.tup l)) : Rp K mg Z H v (.tup l) := by
  cases r with
  | cold r => exact r
theorem ok_catTup : OpOk X (rCatA X.K) catTup := by
  intro B Z m H S v w x y z Q s rv rw_ e k
  cases x <;> cases y <;> simp only [catTup] at e <;> first | (cases e; done) | skip
  split at e
  · rename_i hl
    cases e
    obtain ⟨a, xs, rfl, ha, ra⟩ := rv.tupI
    obtain ⟨b, ys, rfl, hb, rb⟩ := rw_.tupI
    refine ⟨a, b, xs, ys, rfl, rfl, SqT.of ha, SqT.of hb, by rw [ra.len, rb.len]; exact hl, fun e1 => ?_, fun _ e1 => ?_, fun _ _ p hp => ?_⟩
    · subst e1
      cases ra
      exact k _ _ Ext.refl s rw_.tupC
    · subst e1
      cases rb
      rw [List.append_nil] at k
      exact k _ _ Ext.refl s rv.tupC
    · exact k _ _ (ext_new hp) (s.new hp) (new_tup s hp (by rw [List.length_append]; exact hl) (ra.app rb))
  · cases e
def repLst : P → P → Option P
  | .lst x, .int j => if -(2 ^ 63) ≤ j ∧ j < 2 ^ 63 ∧ x.length * j.toNat ≤ sizeLine then some (.lst (List.replicate j.toNat x).flatten) else none
  | _, _ => none
theorem RpL.rep {K : PySem.W.Frag} {mg : Mg} {Z : Addr → Prop} {H : Hp} {vs : List V} {ps : List P} (r : RpL K mg Z H vs ps) : ∀ n : Nat, RpL K mg Z H (List.replicate n vs).flatten (List.replicate n ps).flatten
  | 0 => .nil
  | n + 1 => by
    rw [List.replicate_succ, List.replicate_succ, List.flatten_cons, List.flatten_cons]
    exact r.app (RpL.rep r n)
theorem ok_repLst : OpOk X rRep repLst := by
  intro B Z m H S v w x y z Q s rv rw_ e k
  cases x <;> cases y <;> simp only [repLst] at e <;> first | (cases e; done) | skip
  split at e
  · rename_i hl
    cases e
    obtain ⟨a, xs, rfl, ha, ra⟩ := rv.lstI
    refine ⟨a, _, xs, rfl, rw_.intI, ha, hl.1, hl.2.1, by rw [ra.len]; exact hl.2.2, fun p hp => ?_⟩
    exact k _ _ (ext_new hp) (s.new hp) (new_lst s hp (by rw [List.length_flatten, List.map_replicate, List.sum_replicate_nat, Nat.mul_comm]; exact hl.2.2) (ra.rep _))
  · cases e

/-! ### comparisons -/
def eqF (x y : P) : Option P := if dat x && dat y && decide (min (dep x) (dep y) ≤ 64) then some (.bl (eqP x y)) else none
def neF (x y : P) : Option P := if dat x && dat y && decide (min (dep x) (dep y) ≤ 64) then some (.bl (!eqP x y)) else none
/-- == of data, the less deep of the two bounded -/
def rEqM (K : PySem.W.Frag) (neg : Bool) : R2 := fun x y H Q => ∃ d e, Dp K H x d ∧ Dp K H y e ∧ d.canLay0 = true ∧ e.canLay0 = true ∧ min d.depth e.depth ≤ 64 ∧ Q (.bl (if neg then !PyData.eqv d e else PyData.eqv d e)) H
theorem op_eqM (hu : X.A.units + 64 < cLine) : OpR X (compareOp .Eq) (rEqM X.K false) := by
  intro pins s σ H x y v u Q I rx ry h
  obtain ⟨d, e, hd, he, c1, c2, hm, q⟩ := h
  obtain ⟨as, r1⟩ := Dp.reads I d x v hd rx
  obtain ⟨bs, r2⟩ := Dp.reads I e y u he ry
  exact SeqAt.compareEq_reads r1 r2 c1 c2 (by omega) ⟨.bl _, H, I, rfl, q⟩
theorem op_neM (hu : X.A.units + 64 < cLine) : OpR X (compareOp .NotEq) (rEqM X.K true) := by
  intro pins s σ H x y v u Q I rx ry h
  obtain ⟨d, e, hd, he, c1, c2, hm, q⟩ := h
  obtain ⟨as, r1⟩ := Dp.reads I d x v hd rx
  obtain ⟨bs, r2⟩ := Dp.reads I e y u he ry
  exact SeqAt.compareNe_reads r1 r2 c1 c2 (by omega) ⟨.bl _, H, I, rfl, q⟩
theorem ok_eq : OpOk X (rEqM X.K false) eqF := by
  intro B Z m H S v w x y z Q s rv rw_ e k
  unfold eqF at e
  split at e
  · rename_i hc
    cases e
    simp only [Bool.and_eq_true, decide_eq_true_eq] at hc
    obtain ⟨d1, c1⟩ := rv.dp hc.1.1
    obtain ⟨d2, c2⟩ := rw_.dp hc.1.2
    refine ⟨_, _, d1, d2, c1, c2, by rw [dep_py _ hc.1.1, dep_py _ hc.1.2]; exact hc.2, ?_⟩
    rw [eq_py _ _ hc.1.1 hc.1.2]
    exact k H _ Ext.refl s (.bl _)
  · cases e
theorem ok_ne : OpOk X (rEqM X.K true) neF := by
  intro B Z m H S v w x y z Q s rv rw_ e k
  unfold neF at e
  split at e
  · rename_i hc
    cases e
    simp only [Bool.and_eq_true, decide_eq_true_eq] at hc
    obtain ⟨d1, c1⟩ := rv.dp hc.1.1
    obtain ⟨d2, c2⟩ := rw_.dp hc.1.2
    refine ⟨_, _, d1, d2, c1, c2, by rw [dep_py _ hc.1.1, dep_py _ hc.1.2]; exact hc.2, ?_⟩
    rw [eq_py _ _ hc.1.1 hc.1.2]
    exact k H _ Ext.refl s (.bl _)
  · cases e
def ltStr : P → P → Option P
  | .str x, .str y => some (.bl (decide (x.cps.toList < y.cps.toList)))
  | _, _ => none
theorem ok_ltStr : OpOk X (fun x y H Q => ∃ i j, x = .str i ∧ y = .str j ∧ Q (.bl (decide (i.cps.toList < j.cps.toList))) H) ltStr := by
  intro B Z m H S v w x y z Q s rv rw_ e k
  cases x <;> cases y <;> simp only [ltStr] at e <;> first | (cases e; done) | skip
  cases e
  exact ⟨_, _, rv.strI, rw_.strI, k H _ Ext.refl s (.bl _)⟩
def isN : P → Bool
  | .non => true
  | _ => false
theorem RV.isN {K : PySem.W.Frag} {mg : Mg} {Z : Addr → Prop} {H : Hp} {v : V} {x : P} (r : RV K mg Z H v x) : decide (v = .non) = isN x := by
  cases r with
  | cold r => cases r <;> simp [Wr.isN]
  | lst _ _ _ => simp [Wr.isN]
  | dK _ _ => simp [Wr.isN]
  | dT _ _ => simp [Wr.isN]
def isF (neg : Bool) : P → P → Option P
  | x, .non => some (.bl (if neg then !isN x else isN x))
  | _, _ => none
theorem ok_is : OpOk X (fun x y H Q => y = .non ∧ Q (.bl (decide (x = .non))) H) (isF false) := by
  intro B Z m H S v w x y z Q s rv rw_ e k
  cases y <;> simp only [isF] at e <;> first | (cases e; done) | skip
  cases e
  refine ⟨rw_.nonI, ?_⟩
  rw [rv.isN]
  exact k H _ Ext.refl s (.bl _)
theorem ok_isnot : OpOk X (fun x y H Q => y = .non ∧ Q (.bl (!decide (x = .non))) H) (isF true) := by
  intro B Z m H S v w x y z Q s rv rw_ e k
  cases y <;> simp only [isF] at e <;> first | (cases e; done) | skip
  cases e
  refine ⟨rw_.nonI, ?_⟩
  rw [rv.isN]
  exact k H _ Ext.refl s (.bl _)
end
end Wr

set_option maxHeartbeats 4000000
/-! A4: places, slices, membership, truth, tests, displays. -/
namespace Wr
open PySem PySem.Spec PyProof.Rows L2

section
variable {K : PySem.W.Frag} {mg : Mg} {B Z Z' : Addr → Prop} {m m' : List Addr} {H H' : Hp} {S : List Ob}
theorem RpL.atI {vs : List V} {ps : List P} (r : RpL K mg Z H vs ps) {i : Int} {p : P} (h : L2.atI ps i = some p) : ∃ v, L2.atI vs i = some v ∧ Rp K mg Z H v p := by
  unfold L2.atI at h ⊢
  rw [r.len]
  cases hx : ixN ps.length i with
  | none => rw [hx] at h; cases h
  | some j =>
    rw [hx] at h
    obtain ⟨v, h1, h2⟩ := r.get' (i := j) h
    exact ⟨v, h1, h2⟩
/-! ### keys -/
def keyP : P → Option Key
  | .int i => some (.inl i)
  | .str x => some (.inr x)
  | _ => none
def keyTo : Key → P
  | .inl i => .int i
  | .inr x => .str x
def keysP : List P → Option (List Key)
  | [] => some []
  | x :: r => match keyP x, keysP r with
    | some k, some ks => some (k :: ks)
    | _, _ => none
theorem RV.key {v : V} {x : P} {k : Key} (r : RV K mg Z H v x) (h : keyP x = some k) : v = kV k := by
  cases x <;> simp only [keyP] at h <;> first | (cases h; done) | skip
  · cases h; exact r.intI
  · cases h; exact r.strI
theorem RpL.keys : ∀ {vs : List V} {xs : List P} {ks : List Key}, RpL K mg Z H vs xs → keysP xs = some ks → vs = ks.map kV
  | _, _, _, .nil, h => by cases h; rfl
  | _, _, _, .cons (p := p) (ps := ps) r t, h => by
    simp only [keysP] at h
    cases hk : keyP p with
    | none => simp [hk] at h
    | some k =>
      cases hr : keysP ps with
      | none => simp [hk, hr] at h
      | some ks =>
        simp only [hk, hr, Option.some.injEq] at h
        rw [← h, List.map_cons, RV.key (.cold r) hk, RpL.keys t hr]
/-- what a table of data holds -/
def valP {κ : Type} [DecidableEq κ] (l : List (κ × P)) (k : κ) : Option P := (l.find? fun kv => decide (kv.1 = k)).map (·.2)
theorem RpK.val : ∀ {xs : List (Key × V)} {l : List (Key × P)} (k : Key), RpK K mg Z H xs l → (∀ p, valP l k = some p → ∃ v, valV xs k = some v ∧ Rp K mg Z H v p) ∧ (valP l k = none → valV xs k = none)
  | _, _, k, .nil => ⟨fun p h => (by cases h), fun _ => rfl⟩
  | _, _, k, .cons (k := k0) (v := v0) (p := p0) (vs := vs) (ps := ps) r t => by
    obtain ⟨i1, i2⟩ := RpK.val k t
    by_cases e : k0 = k
    · refine ⟨fun p h => ?_, fun h => ?_⟩
      · unfold valP at h
        rw [List.find?_cons_of_pos (by simp [e])] at h
        cases h
        exact ⟨v0, valV_pos (p := (k0, v0)) e, r⟩
      · unfold valP at h
        rw [List.find?_cons_of_pos (by simp [e])] at h
        cases h
    · have q : valP ((k0, p0) :: ps) k = valP ps k := by unfold valP; rw [List.find?_cons_of_neg (by simp [e])]
      rw [q, valV_neg (p := (k0, v0)) e]
      exact ⟨i1, i2⟩
theorem RpT.val : ∀ {xs : List (List Key × V)} {l : List (List Key × P)} (k : List Key), RpT K mg Z H xs l → (∀ p, valP l k = some p → ∃ v, valV xs k = some v ∧ Rp K mg Z H v p) ∧ (valP l k = none → valV xs k = none)
  | _, _, k, .nil => ⟨fun p h => (by cases h), fun _ => rfl⟩
  | _, _, k, .cons (k := k0) (v := v0) (p := p0) (vs := vs) (ps := ps) r t => by
    obtain ⟨i1, i2⟩ := RpT.val k t
    by_cases e : k0 = k
    · refine ⟨fun p h => ?_, fun h => ?_⟩
      · unfold valP at h
        rw [List.find?_cons_of_pos (by simp [e])] at h
        cases h
        exact ⟨v0, valV_pos (p := (k0, v0)) e, r⟩
      · unfold valP at h
        rw [List.find?_cons_of_pos (by simp [e])] at h
        cases h
    · have q : valP ((k0, p0) :: ps) k = valP ps k := by unfold valP; rw [List.find?_cons_of_neg (by simp [e])]
      rw [q, valV_neg (p := (k0, v0)) e]
      exact ⟨i1, i2⟩
theorem RV.dKI {v : V} {l : List (Key × P)} (r : RV K mg Z H v (.dK l)) : ∃ a xs, v = .ref a ∧ Rd H a (.dK xs) ∧ RpK K mg Z H xs l := by
  cases r with
  | cold r => cases r with | dK h _ r => exact ⟨_, _, rfl, h, r⟩
  | dK h r => exact ⟨_, _, rfl, .inl h, r⟩
theorem RV.dTI {v : V} {l : List (List Key × P)} (r : RV K mg Z H v (.dT l)) : ∃ a xs, v = .ref a ∧ Rd H a (.dT xs) ∧ RpT K mg Z H xs l := by
  cases r with
  | cold r => cases r with | dT h _ r => exact ⟨_, _, rfl, h, r⟩
  | dT h r => exact ⟨_, _, rfl, .inl h, r⟩
/-- what the dict holds at the key: none if it cannot be asked -/
def dGetP : P → P → Option (Option P)
  | .dK l, y => (keyP y).map fun k => valP l k
  | .dT l, .tup ys => (keysP ys).map fun ks => valP l ks
  | _, _ => none
theorem dGet_ok {v w : V} {x y : P} {o : Option P} (rv : RV K mg Z H v x) (rw_ : RV K mg Z H w y) (h : dGetP x y = some o) :
    ∃ a ov, v = .ref a ∧ DGet H a w ov ∧ ov.isSome = o.isSome ∧ ∀ p, o = some p → ∃ u, ov = some u ∧ Rp K mg Z H u p := by
  cases x <;> simp only [dGetP] at h <;> first | (cases h; done) | skip
  · rename_i l
    obtain ⟨a, xs, rfl, ha, r⟩ := rv.dKI
    cases hk : keyP y with
    | none => rw [hk] at h; cases h
    | some k =>
      rw [hk] at h
      cases h
      obtain ⟨i1, i2⟩ := r.val k
      refine ⟨a, valV xs k, rfl, .inl ⟨xs, k, ha, rw_.key hk, rfl⟩, ?_, fun p hp => ?_⟩
      · show _ = (valP l k).isSome
        cases hv : valP l k with
        | none => rw [i2 hv]; rfl
        | some p => obtain ⟨u, e, _⟩ := i1 p hv; rw [e]; rfl
      · exact i1 p hp
  · rename_i l
    cases y <;> simp only at h <;> first | (cases h; done) | skip
    rename_i ys
    obtain ⟨a, xs, rfl, ha, r⟩ := rv.dTI
    obtain ⟨b, us, rfl, hb, rb⟩ := rw_.tupI
    cases hk : keysP ys with
    | none => rw [hk] at h; cases h
    | some ks =>
      rw [hk] at h
      cases h
      obtain ⟨i1, i2⟩ := r.val ks
      refine ⟨a, valV xs ks, rfl, .inr ⟨xs, ks, b, ha, rfl, by rw [hb, rb.keys hk], rfl⟩, ?_, fun p hp => ?_⟩
      · show _ = (valP l ks).isSome
        cases hv : valP l ks with
        | none => rw [i2 hv]; rfl
        | some p => obtain ⟨u, e, _⟩ := i1 p hv; rw [e]; rfl
      · exact i1 p hp
end

/-! ### a[i] -/
def ixP (x y : P) : Option P := match y with
  | .int i => match asL x with
    | some l => L2.atI l i
    | none => match asT x with
      | some l => L2.atI l i
      | none => (dGetP x y).join
  | _ => (dGetP x y).join
def rIxD : R2 := fun x y H Q => ∃ a v, x = .ref a ∧ DGet H a y (some v) ∧ Q v H
section
variable {X : Cx} {W : WX} {a b c : Expr} {fa fb fc : F Wv} {pos : Pos}
theorem ix_dict (hu : X.A.units + 1 < cLine) : IxR X rIxD := by
  intro value slice pins s σ H x y v u Q I rx ry h hs
  obtain ⟨d, z, rfl, g, q⟩ := h
  cases rx
  exact tail_any (dict_typeIs I g) PySem.F.slot_dict_getitem.lookup (d_getItem hu I g ry fun w' s3 I3 rw' => ⟨z, H, I3, rw', q⟩) hs
def rIxA (K : PySem.W.Frag) : R2 := fun x y H Q => rIxL K x y H Q ∨ rIxT K x y H Q ∨ rIxD x y H Q
theorem ix_any (hu : X.A.units + 1 < cLine) : IxR X (rIxA X.K) := ix_list.or (ix_tup.or (ix_dict hu))
theorem ok_ix : OpOk X (rIxA X.K) ixP := by
  intro B Z m H S v w x y z Q s rv rw_ e k
  have dict : (dGetP x y).join = some z → rIxD v w H Q := fun e => by
    cases hd : dGetP x y with
    | none => rw [hd] at e; cases e
    | some o =>
      rw [hd] at e
      obtain ⟨d, ov, rfl, g, _, h⟩ := dGet_ok rv rw_ hd
      obtain ⟨u, rfl, ru⟩ := h z e
      exact ⟨d, u, rfl, g, k H u Ext.refl s ru⟩
  unfold ixP at e
  split at e
  · split at e
    · rename_i l hl
      obtain ⟨d, xs, rfl, hd, r⟩ := rv.asL hl
      obtain ⟨u, h1, h2⟩ := r.atI e
      exact .inl ⟨d, xs, _, u, rfl, rw_.intI, hd, h1, k H u Ext.refl s h2⟩
    · split at e
      · rename_i l hl
        obtain ⟨d, xs, rfl, hd, r⟩ := rv.asT hl
        obtain ⟨u, h1, h2⟩ := r.atI e
        exact .inr (.inl ⟨d, xs, _, u, rfl, rw_.intI, hd, h1, k H u Ext.refl s h2⟩)
      · exact .inr (.inr (dict e))
  · exact .inr (.inr (dict e))
theorem se_ix (hu : X.A.units + 1 < cLine) (ha : SE X W a fa) (hb : SE X W b fb) (hs : PlainIx b) : SE X W (.Subscript a b pos) (f2 ixP fa fb) :=
  pe_weak (pe_ix (ix_any hu) ha hb hs) fun _ _ _ h => two_ok ok_ix h

/-! ### x in xs -/
def flatP : P → Bool
  | .non => true
  | .bl _ => true
  | .int _ => true
  | .str _ => true
  | _ => false
theorem RV.flat {K : PySem.W.Frag} {mg : Mg} {Z : Addr → Prop} {H : Hp} {v : V} {x : P} (r : RV K mg Z H v x) (h : flatP x = true) : flatV v = true ∧ ∀ {w : V} {y : P}, RV K mg Z H w y → flatP y = true → eqV w v = eqP y x := by
  cases r with
  | cold r =>
    cases r <;> first | (simp [flatP] at h; done) | skip
    all_goals
      refine ⟨rfl, fun {w y} r2 h2 => ?_⟩
      cases r2 with
      | cold r2 => cases r2 <;> first | (simp [flatP] at h2; done) | (simp [eqV, eqP]; done)
      | lst _ _ _ => simp [flatP] at h2
      | dK _ _ => simp [flatP] at h2
      | dT _ _ => simp [flatP] at h2
  | lst _ _ _ => simp [flatP] at h
  | dK _ _ => simp [flatP] at h
  | dT _ _ => simp [flatP] at h
def inL (x : P) (l : List P) : Bool := l.any fun y => eqP y x
theorem RpL.flat {K : PySem.W.Frag} {mg : Mg} {Z : Addr → Prop} {H : Hp} {v : V} {x : P} (r : RV K mg Z H v x) (h : flatP x = true) : ∀ {vs : List V} {l : List P}, RpL K mg Z H vs l → l.all flatP = true → vs.all flatV = true ∧ inV v vs = inL x l
  | _, _, .nil, _ => ⟨rfl, rfl⟩
  | _, _, .cons q t, hl => by
    simp only [List.all_cons, Bool.and_eq_true] at hl
    obtain ⟨i1, i2⟩ := RpL.flat r h t hl.2
    obtain ⟨j1, j2⟩ := RV.flat (.cold q) hl.1
    obtain ⟨k1, k2⟩ := r.flat h
    refine ⟨by simp [j1, i1], ?_⟩
    unfold inV inL at *
    rw [List.any_cons, List.any_cons, i2, k2 (.cold q) hl.1]
def inF (neg : Bool) (x y : P) : Option P :=
  match asL y, asT y with
  | some l, _ => if flatP x && l.all flatP then some (.bl (if neg then !inL x l else inL x l)) else none
  | _, some l => if flatP x && l.all flatP then some (.bl (if neg then !inL x l else inL x l)) else none
  | _, _ => (dGetP y x).map fun o => .bl (if neg then !o.isSome else o.isSome)
def rInD (neg : Bool) : R2 := fun y x H Q => ∃ a o, x = .ref a ∧ DGet H a y o ∧ Q (.bl (if neg then !o.isSome else o.isSome)) H
theorem op_inDict (hu : X.A.units + 1 < cLine) : OpR X (compareOp .In) (rInD false) := by
  intro pins s σ H x y v u Q I rx ry h
  obtain ⟨d, o, rfl, g, q⟩ := h
  cases ry
  exact d_in hu I g rx fun s3 I3 => ⟨.bl o.isSome, H, I3, rfl, q⟩
theorem op_notInDict (hu : X.A.units + 1 < cLine) : OpR X (compareOp .NotIn) (rInD true) := by
  intro pins s σ H x y v u Q I rx ry h
  obtain ⟨d, o, rfl, g, q⟩ := h
  cases ry
  exact d_notIn hu I g rx fun s3 I3 => ⟨.bl (!o.isSome), H, I3, rfl, q⟩
theorem ok_in (neg : Bool) : OpOk X (fun x y H Q => rIn X.K neg x y H Q ∨ rInD neg x y H Q) (inF neg) := by
  intro B Z m H S v w x y z Q s rv rw_ e k
  unfold inF at e
  split at e
  · rename_i l hl
    split at e
    · rename_i hc
      cases e
      simp only [Bool.and_eq_true] at hc
      obtain ⟨d, xs, rfl, hd, r⟩ := rw_.asL hl
      obtain ⟨h1, h2⟩ := RpL.flat rv hc.1 r hc.2
      refine .inl ⟨d, xs, rfl, .inl hd, (rv.flat hc.1).1, h1, ?_⟩
      rw [h2]
      exact k H _ Ext.refl s (.bl _)
    · cases e
  · rename_i l hl _
    split at e
    · rename_i hc
      cases e
      simp only [Bool.and_eq_true] at hc
      obtain ⟨d, xs, rfl, hd, r⟩ := rw_.asT hl
      obtain ⟨h1, h2⟩ := RpL.flat rv hc.1 r hc.2
      refine .inl ⟨d, xs, rfl, .inr hd, (rv.flat hc.1).1, h1, ?_⟩
      rw [h2]
      exact k H _ Ext.refl s (.bl _)
    · cases e
  · cases hd : dGetP y x with
    | none => rw [hd] at e; cases e
    | some o =>
      rw [hd] at e
      cases e
      obtain ⟨d, ov, rfl, g, hi, _⟩ := dGet_ok rw_ rv hd
      refine .inr ⟨d, ov, rfl, g, ?_⟩
      rw [hi]
      exact k H _ Ext.refl s (.bl _)
theorem op_inAll (hu : X.A.units + 1 < cLine) : OpR X (compareOp .In) (fun x y H Q => rIn X.K false x y H Q ∨ rInD false x y H Q) := op_in_seq.or (op_inDict hu)
theorem op_notInAll (hu : X.A.units + 1 < cLine) : OpR X (compareOp .NotIn) (fun x y H Q => rIn X.K true x y H Q ∨ rInD true x y H Q) := op_notIn_seq.or (op_notInDict hu)

/-! ### truth -/
def truP : P → Option Bool
  | .non => some false
  | .bl b => some b
  | .int i => some (i != 0)
  | .str x => if x.length ≤ sizeLine then some ((x.length : Int) != 0) else none
  | .lst l => some (!l.isEmpty)
  | .lsf l => some (!l.isEmpty)
  | .tup l => some (!l.isEmpty)
  | .tpk l => some (!l.isEmpty)
  | _ => none
theorem RpL.emp {K : PySem.W.Frag} {mg : Mg} {Z : Addr → Prop} {H : Hp} {vs : List V} {l : List P} (r : RpL K mg Z H vs l) : vs.isEmpty = l.isEmpty := by cases r <;> rfl
theorem tru_of {K : PySem.W.Frag} {mg : Mg} {Z : Addr → Prop} {H : Hp} {v : V} {x : P} {b : Bool} (r : RV K mg Z H v x) (h : truP x = some b) : TruV K v H b := by
  cases x <;> simp only [truP] at h <;> first | (cases h; done) | skip
  · cases h; rw [r.nonI]; rfl
  · cases h; rw [r.blI]; rfl
  · cases h; rw [r.intI]; rfl
  · split at h
    · rename_i hl
      cases h; rw [r.strI]; exact ⟨hl, rfl⟩
    · cases h
  · cases h
    obtain ⟨a, xs, rfl, ha, r⟩ := r.lstI
    exact .inl ⟨xs, SqL.of ha, by rw [r.emp]⟩
  · cases h
    obtain ⟨a, xs, rfl, ha, r⟩ := r.tupI
    exact .inr (.inl ⟨xs, SqT.of ha, by rw [r.emp]⟩)
  · cases h
    obtain ⟨a, xs, rfl, ha, r⟩ := r.lsfI
    exact .inl ⟨xs, ha, by rw [r.emp]⟩
  · cases h
    obtain ⟨a, xs, rfl, ha, r⟩ := r.tpkI
    exact .inr (.inl ⟨xs, ha, by rw [r.emp]⟩)
/-- a value's truth -/
def fTru (fa : F Wv) : F Bool := bindF fa fun a => fun _ S => match view a S with
  | some x => (truP x).map fun b => (.ok b, S)
  | none => none
theorem st_tru (ha : SE X W a fa) (he : ∀ whole, isTrue a X.env whole = (do let v ← whole; standAt a.pos; holding [v] (truthy v))) : ST X W a (fTru fa) := by
  refine pt_weak (pt_truth ha he) fun σ H Q ⟨B, Z, m, ρ, S, r, S', s, v, eq, k⟩ => ?_
  refine tG_bind s v eq k fun Z1 m1 H1 S1 x vx e1 s1 v1 rx eq1 k1 => ?_
  split at eq1
  · rename_i p hp
    cases hz : truP p with
    | none => rw [hz] at eq1; cases eq1
    | some b =>
      rw [hz] at eq1
      cases eq1
      exact ⟨b, tru_of (view_ok s1 rx hp) hz, k1.fin s1 rfl⟩
  · cases eq1
/-- a comparison's outcome as a test -/
def asB (fa : F Wv) : F Bool := bindF fa fun a => match a with
  | .p (.bl b) => retF b
  | _ => failF
theorem asB_ok {σ : L2.St} {H : Hp} {Q : Bool → Hp → Prop} (h : tG relB X W (asB fa) σ H Q) : tG relW X W fa σ H fun x H' => ∃ k, x = .bl k ∧ Q k H' := by
  obtain ⟨B, Z, m, ρ, S, r, S', s, v, eq, k⟩ := h
  refine tG_bind s v eq k fun Z1 m1 H1 S1 x vx e1 s1 v1 rx eq1 k1 => ?_
  split at eq1
  · cases eq1
    cases rx with
    | p rx =>
      cases rx
      exact ⟨_, rfl, k1.fin s1 rfl⟩
  · cases eq1
theorem st_cmp {op : CmpOp} {r : R2} {fo : P → P → Option P} (ho : OpR X (compareOp op) r) (ok : OpOk X r fo) (ha : SE X W a fa) (hb : SE X W b fb) (hm : behindInMarks op b = false) : ST X W (.Compare a [op] [b] pos) (asB (f2 fo fa fb)) :=
  pt_weak (pt_cmpR ho ha hb hm) fun _ _ _ h => two_ok ok (asB_ok h)
/-- a op b op' c -/
def fChain (fo fo' : P → P → Option P) (fa fb fc : F Wv) : F Wv := bindF fa fun a => bindF fb fun b => fun ρ S =>
  match view a S, view b S with
  | some x, some y => match fo x y with
    | some (.bl true) => bindF fc (fun c => fun _ S2 => match view b S2, view c S2 with
      | some y, some z => (fo' y z).map fun u => (.ok (.p u), S2)
      | _, _ => none) ρ S
    | some (.bl false) => some (.ok (.p (.bl false)), S)
    | _ => none
  | _, _ => none
theorem chain_ok {r r' : R2} {fo fo' : P → P → Option P} (ok : OpOk X r fo) (ok' : OpOk X r' fo') {σ : L2.St} {H : Hp} {Q : VK} (h : tG relW X W (fChain fo fo' fa fb fc) σ H Q) :
    tChain r r' (tG relW X W fa) (tG relW X W fb) (tG relW X W fc) σ H Q := by
  obtain ⟨B, Z, m, ρ, S, rr, S', s, v, eq, k⟩ := h
  refine tG_bind s v eq k fun Z1 m1 H1 S1 x vx e1 s1 v1 rx eq1 k1 => ?_
  refine tG_bind s1 v1 eq1 k1 fun Z2 m2 H2 S2 y vy e2 s2 v2 ry eq2 k2 => ?_
  have rx2 := Rw.move e2 rx
  split at eq2
  · rename_i p q hp hq
    split at eq2
    · rename_i hf
      refine ok B Z2 m2 H2 _ vx vy p q _ _ s2 (view_ok s2 rx2 hp) (view_ok s2 ry hq) hf fun H3 u e3 s3 ru => ?_
      cases ru
      refine ⟨true, rfl, iteT ?_⟩
      refine tG_bind s3 (v2.move e3) eq2 (k2.move e3) fun Z4 m4 H4 S4 c vc e4 s4 v4 rc eq4 k4 => ?_
      have ry4 := Rw.move e4 (Rw.move e3 ry)
      split at eq4
      · rename_i y2 z2 hy hz
        cases hu : fo' y2 z2 with
        | none => rw [hu] at eq4; cases eq4
        | some u =>
          rw [hu] at eq4
          cases eq4
          exact ok' B Z4 m4 H4 _ vy vc y2 z2 u Q s4 (view_ok s4 ry4 hy) (view_ok s4 rc hz) hu fun H' u e' s' ru => k4.fin' e' s' (.p ru)
      · cases eq4
    · rename_i hf
      cases eq2
      refine ok B Z2 m2 H2 _ vx vy p q _ _ s2 (view_ok s2 rx2 hp) (view_ok s2 ry hq) hf fun H3 u e3 s3 ru => ?_
      cases ru
      refine ⟨false, rfl, iteF ?_⟩
      exact k2.fin' e3 s3 (.p (.bl false))
    · cases eq2
  · cases eq2
theorem se_chain {op op' : CmpOp} {r r' : R2} {fo fo' : P → P → Option P} (ho : OpR X (compareOp op) r) (ok : OpOk X r fo) (ho' : OpR X (compareOp op') r') (ok' : OpOk X r' fo') (ha : SE X W a fa) (hb : SE X W b fb) (hc : SE X W c fc)
    (hm : lastMarks [op, op'] [b, c] = false) : SE X W (.Compare a [op, op'] [b, c] pos) (fChain fo fo' fa fb fc) :=
  pe_weak (pe_chain ho ho' ha hb hc hm) fun _ _ _ h => chain_ok ok ok' h
theorem st_chain {op op' : CmpOp} {r r' : R2} {fo fo' : P → P → Option P} (ho : OpR X (compareOp op) r) (ok : OpOk X r fo) (ho' : OpR X (compareOp op') r') (ok' : OpOk X r' fo') (ha : SE X W a fa) (hb : SE X W b fb) (hc : SE X W c fc)
    (hm : lastMarks [op, op'] [b, c] = false) : ST X W (.Compare a [op, op'] [b, c] pos) (asB (fChain fo fo' fa fb fc)) :=
  pt_weak (pt_chain ho ho' ha hb hc hm) fun σ H Q h => by
    obtain ⟨B, Z, m, ρ, S, rr, S', s, v, eq, k⟩ := asB_ok h
    exact chain_ok ok ok' ⟨B, Z, m, ρ, S, rr, S', s, v, eq, k⟩

/-! ### and, or, not, a if t else b -/
variable {rest : List Expr} {ft fu : F Bool}
def SW (X : Cx) (W : WX) (e : Expr) (f : F Bool) : Prop := PW X e (tG relB X W f)
def fAndT (ft fu : F Bool) : F Bool := bindF ft fun b => if b = true then fu else retF false
def fOrT (ft fu : F Bool) : F Bool := bindF ft fun b => if b = true then retF true else fu
def fNotT (ft : F Bool) : F Bool := bindF ft fun b => retF (!b)
theorem pw_weak {e : Expr} {t t' : TT} (h : PW X e t) (k : ∀ σ H Q, t' σ H Q → t σ H Q) : PW X e t' := ⟨fun wh pins s σ H Q I q => h.run wh pins s σ H Q I (k σ H Q q)⟩
theorem sw_and1 (ha : ST X W a ft) : SW X W (.BoolOp .And [a] pos) ft := pw_and1 ha
theorem sw_or1 (ha : ST X W a ft) : SW X W (.BoolOp .Or [a] pos) ft := pw_or1 ha
theorem sw_and (ha : ST X W a ft) (hb : SW X W (.BoolOp .And (b :: rest) pos) fu) : SW X W (.BoolOp .And (a :: b :: rest) pos) (fAndT ft fu) := by
  refine pw_weak (pw_and ha hb) fun σ H Q ⟨B, Z, m, ρ, S, r, S', s, v, eq, k⟩ => ?_
  refine tG_bind s v eq k fun Z1 m1 H1 S1 x vx e1 s1 v1 rx eq1 k1 => ?_
  cases rx
  cases x with
  | true => exact iteT ⟨B, Z1, m1, ρ, S1, r, S', s1, v1, eq1, k1⟩
  | false =>
    cases eq1
    exact iteF (k1.fin s1 rfl)
theorem sw_or (ha : ST X W a ft) (hb : SW X W (.BoolOp .Or (b :: rest) pos) fu) : SW X W (.BoolOp .Or (a :: b :: rest) pos) (fOrT ft fu) := by
  refine pw_weak (pw_or ha hb) fun σ H Q ⟨B, Z, m, ρ, S, r, S', s, v, eq, k⟩ => ?_
  refine tG_bind s v eq k fun Z1 m1 H1 S1 x vx e1 s1 v1 rx eq1 k1 => ?_
  cases rx
  cases x with
  | false => exact iteF ⟨B, Z1, m1, ρ, S1, r, S', s1, v1, eq1, k1⟩
  | true =>
    cases eq1
    exact iteT (k1.fin s1 rfl)
theorem st_sw {e : Expr} {f : F Bool} (h : SW X W e f) : ST X W e f := PW.pt h
theorem st_not (ha : ST X W a ft) : ST X W (.UnaryOp .Not a pos) (fNotT ft) := by
  refine pt_weak (pt_not ha) fun σ H Q ⟨B, Z, m, ρ, S, r, S', s, v, eq, k⟩ => ?_
  refine tG_bind s v eq k fun Z1 m1 H1 S1 x vx e1 s1 v1 rx eq1 k1 => ?_
  cases eq1
  cases rx
  exact k1.fin s1 rfl
/-- .. as values, of truth values -/
def fAnd (fa fb : F Wv) : F Wv := bindF fa fun a => match a with
  | .p (.bl true) => fb
  | .p (.bl false) => retF (.p (.bl false))
  | _ => failF
def fOr (fa fb : F Wv) : F Wv := bindF fa fun a => match a with
  | .p (.bl true) => retF (.p (.bl true))
  | .p (.bl false) => fb
  | _ => failF
theorem se_one {op} (ha : SE X W a fa) : SE X W (.BoolOp op [a] pos) fa := pe_one ha
theorem se_and (ha : SE X W a fa) (hb : SE X W (.BoolOp .And (b :: rest) pos) fb) : SE X W (.BoolOp .And (a :: b :: rest) pos) (fAnd fa fb) := by
  refine pe_weak (pe_and ha hb) fun σ H Q ⟨B, Z, m, ρ, S, r, S', s, v, eq, k⟩ => ?_
  refine tG_bind s v eq k fun Z1 m1 H1 S1 x vx e1 s1 v1 rx eq1 k1 => ?_
  split at eq1
  · cases rx with
    | p rx =>
      cases rx
      exact ⟨true, rfl, iteT ⟨B, Z1, m1, ρ, S1, r, S', s1, v1, eq1, k1⟩⟩
  · cases rx with
    | p rx =>
      cases rx
      cases eq1
      exact ⟨false, rfl, iteF (k1.fin s1 (.p (.bl false)))⟩
  · cases eq1
theorem se_or (ha : SE X W a fa) (hb : SE X W (.BoolOp .Or (b :: rest) pos) fb) : SE X W (.BoolOp .Or (a :: b :: rest) pos) (fOr fa fb) := by
  refine pe_weak (pe_or ha hb) fun σ H Q ⟨B, Z, m, ρ, S, r, S', s, v, eq, k⟩ => ?_
  refine tG_bind s v eq k fun Z1 m1 H1 S1 x vx e1 s1 v1 rx eq1 k1 => ?_
  split at eq1
  · cases rx with
    | p rx =>
      cases rx
      cases eq1
      exact ⟨true, rfl, iteT (k1.fin s1 (.p (.bl true)))⟩
  · cases rx with
    | p rx =>
      cases rx
      exact ⟨false, rfl, iteF ⟨B, Z1, m1, ρ, S1, r, S', s1, v1, eq1, k1⟩⟩
  · cases eq1
def fNot (fa : F Wv) : F Wv := bindF fa fun a => match a with
  | .p (.bl b) => retF (.p (.bl (!b)))
  | _ => failF
theorem se_not (ha : SE X W a fa) : SE X W (.UnaryOp .Not a pos) (fNot fa) := by
  refine pe_weak (pe_not ha) fun σ H Q ⟨B, Z, m, ρ, S, r, S', s, v, eq, k⟩ => ?_
  refine tG_bind s v eq k fun Z1 m1 H1 S1 x vx e1 s1 v1 rx eq1 k1 => ?_
  split at eq1
  · cases rx with
    | p rx =>
      cases rx
      cases eq1
      exact ⟨_, rfl, k1.fin s1 (.p (.bl _))⟩
  · cases eq1
def fIf (ft : F Bool) (fa fb : F Wv) : F Wv := bindF ft fun b => if b = true then fa else fb
theorem se_if {t : Expr} (ht : ST X W t ft) (ha : SE X W a fa) (hb : SE X W b fb) : SE X W (.IfExp t a b pos) (fIf ft fa fb) := by
  refine pe_weak (pe_ifExp ht ha hb) fun σ H Q ⟨B, Z, m, ρ, S, r, S', s, v, eq, k⟩ => ?_
  refine tG_bind s v eq k fun Z1 m1 H1 S1 x vx e1 s1 v1 rx eq1 k1 => ?_
  cases rx
  cases x with
  | true => exact iteT ⟨B, Z1, m1, ρ, S1, r, S', s1, v1, eq1, k1⟩
  | false => exact iteF ⟨B, Z1, m1, ρ, S1, r, S', s1, v1, eq1, k1⟩
end

/-! ### new objects: cold data, or a place of the store -/
def allP : List Wv → Option (List P)
  | [] => some []
  | .p x :: r => (allP r).map fun l => x :: l
  | .loc _ :: _ => none
section
variable {K : PySem.W.Frag} {mg : Mg} {B Z Z' : Addr → Prop} {m m' : List Addr} {H H' : Hp} {S : List Ob}
theorem RwL.all : ∀ {vs : List V} {ws : List Wv} {l : List P}, RwL K mg Z m H vs ws → allP ws = some l → RpL K mg Z H vs l
  | _, _, _, .nil, h => by cases h; exact .nil
  | _, _, _, .cons (.p r) (ws := ws) t, h => by
    simp only [allP] at h
    cases hw : allP ws with
    | none => rw [hw] at h; cases h
    | some l' =>
      rw [hw] at h
      cases h
      exact .cons r (RwL.all t hw)
  | _, _, _, .cons (.loc _) _, h => by simp [allP] at h
end
/-- a new list: own, it is a place of the store -/
def newL (own : Bool) (l : List P) (S : List Ob) : Option (Rs Wv × List Ob) := some (if own then (.ok (.loc S.length), S ++ [.lst l]) else (.ok (.p (.lst l)), S))
section
variable {X : Cx} {W : WX} {es : List Expr} {fs : F (List Wv)} {pos : Pos} {B Z : Addr → Prop} {m : List Addr} {H : Hp} {S S' : List Ob} {σ : L2.St} {Q : VK} {r : Rs Wv}
theorem newL_ok {own : Bool} {l : List P} {xs : List V} {p : Addr} (s : SOk X.K X.gl B Z m H S) (hz : l.length ≤ sizeLine) (rl : RpL X.K X.gl Z H xs l) (eq : newL own l S = some (r, S')) (k : Goal relW X W B σ Q Z m H r S') (hp : H p = none) : Q (.ref p) (upd H p (.lst xs)) := by
  unfold newL at eq
  cases own with
  | true =>
    cases eq
    refine k.fin' (ext_push hp) (s.push hp nt_lst (.lst hz rl)) (.loc ?_)
    rw [← s.len, List.getElem?_append_right (Nat.le_refl _), Nat.sub_self]
    rfl
  | false =>
    cases eq
    exact k.fin' (ext_new hp) (s.new hp) (.p (new_lst s hp hz rl))
def fTup (fs : F (List Wv)) : F Wv := bindF fs fun ws => fun _ S => match allP ws with
  | some l => if l.length ≤ 16777216 then some (.ok (.p (.tup l)), S) else none
  | none => none
def fLst (own : Bool) (fs : F (List Wv)) : F Wv := bindF fs fun ws => fun _ S => match allP ws with
  | some l => if l.length ≤ 16777216 then newL own l S else none
  | none => none
/-- at most so many values -/
def Most (n : Nat) (fs : F (List Wv)) : Prop := ∀ ρ S ws S', fs ρ S = some (.ok ws, S') → ws.length ≤ n
theorem RwL.allLen : ∀ {ws : List Wv} {ps : List P}, allP ws = some ps → ps.length = ws.length
  | [], _, h => by cases h; rfl
  | .p x :: r, ps, h => by
    simp only [allP] at h
    cases hr : allP r with
    | none => rw [hr] at h; cases h
    | some l =>
      rw [hr] at h
      cases h
      exact congrArg Nat.succ (RwL.allLen hr)
  | .loc _ :: _, _, h => by simp [allP] at h
theorem most_nil : Most 0 fNil := fun ρ S ws S' h => by cases h; exact Nat.le_refl _
theorem most_cons {fa : F Wv} {fr : F (List Wv)} {n : Nat} (h : Most n fr) : Most (n + 1) (fCons fa fr) := fun ρ S ws S' e => by
  unfold fCons bindF at e
  cases h1 : fa ρ S with
  | none => rw [h1] at e; cases e
  | some q =>
    obtain ⟨ra, S1⟩ := q
    rw [h1] at e
    cases ra with
    | exc c fs => cases e
    | ok a =>
      simp only at e
      cases h2 : fr ρ S1 with
      | none => rw [h2] at e; cases e
      | some q2 =>
        obtain ⟨rb, S2⟩ := q2
        rw [h2] at e
        cases rb with
        | exc c fs => cases e
        | ok b =>
          cases e
          exact Nat.succ_le_succ (h ρ S1 b _ h2)
theorem tG_bindE {α β γ δ : Type} {rel1 : Rel α β} {rel : Rel γ δ} {ρ : Vars} {r : Rs γ} {Q : δ → Hp → Prop} {fa : F α} {g : α → F γ} {R : β → Hp → Prop} (s : SOk X.K X.gl B Z m H S) (v : EnvOk X.K X.gl Z m H σ ρ) (eq : bindF fa g ρ S = some (r, S')) (k : Goal rel X W B σ Q Z m H r S')
    (hk : ∀ Z1 m1 H1 S1 a b, fa ρ S = some (.ok a, S1) → Ext B Z m H Z1 m1 H1 → SOk X.K X.gl B Z1 m1 H1 S1 → EnvOk X.K X.gl Z1 m1 H1 σ ρ → rel1 X.K X.gl Z1 m1 H1 b a → g a ρ S1 = some (r, S') → Goal rel X W B σ Q Z1 m1 H1 r S' → R b H1) :
    tG rel1 X W fa σ H R := by
  unfold bindF at eq
  cases h : fa ρ S with
  | none => rw [h] at eq; cases eq
  | some q =>
    obtain ⟨ra, S1⟩ := q
    rw [h] at eq
    refine ⟨B, Z, m, ρ, S, ra, S1, s, v, h, fun Z1 m1 H1 e1 s1 => ?_⟩
    cases ra with
    | ok a => exact fun b rb => hk Z1 m1 H1 S1 a b h e1 s1 (v.move e1) rb eq (k.move e1)
    | exc c fs =>
      cases eq
      exact fun cls d x => k Z1 m1 H1 e1 s1 cls d x
theorem se_tup {x1} (h : SA X W es fs) : SE X W (.Tuple es x1 pos) (fTup fs) := by
  refine pe_weak (pe_tup h) fun σ H Q ⟨B, Z, m, ρ, S, r, S', s, v, eq, k⟩ => ?_
  refine tG_bind s v eq k fun Z1 m1 H1 S1 x vx e1 s1 v1 rx eq1 k1 => ?_
  cases hl : allP x with
  | none => simp [hl] at eq1
  | some l =>
    simp only [hl] at eq1
    split at eq1
    · rename_i hz
      cases eq1
      have hz' : l.length ≤ sizeLine := by rw [sizeLine_eq]; exact hz
      refine ⟨by rw [rx.len, ← RwL.allLen hl]; exact hz', fun p hp => ?_⟩
      exact k1.fin' (ext_new hp) (s1.new hp) (.p (new_tup s1 hp hz' (rx.all hl)))
    · cases eq1
theorem se_lst {own : Bool} (h : SA X W es fs) : SE X W (.List es pos) (fLst own fs) := by
  refine pe_weak (pe_lst h) fun σ H Q ⟨B, Z, m, ρ, S, r, S', s, v, eq, k⟩ => ?_
  refine tG_bind s v eq k fun Z1 m1 H1 S1 x vx e1 s1 v1 rx eq1 k1 => ?_
  cases hl : allP x with
  | none => simp [hl] at eq1
  | some l =>
    simp only [hl] at eq1
    split at eq1
    · rename_i hz
      have hz' : l.length ≤ sizeLine := by rw [sizeLine_eq]; exact hz
      exact ⟨by rw [rx.len, ← RwL.allLen hl]; exact hz', fun p hp => newL_ok s1 hz' (rx.all hl) eq1 k1 hp⟩
    · cases eq1
end

/-! ### slices -/
def cutP (l : List P) (lo hi : Option Int) : List P := (l.drop (HT.sIx l.length 0 lo)).take (HT.sIx l.length l.length hi - HT.sIx l.length 0 lo)
theorem cutP_len {l : List P} {lo hi : Option Int} (h : l.length ≤ sizeLine) : (cutP l lo hi).length ≤ sizeLine := by
  unfold cutP
  rw [List.length_take, List.length_drop]
  omega
def relO : Rel (Option Int) (Option Int) := fun _ _ _ _ _ b a => b = a
def SO (X : Cx) (W : WX) (e : Option Expr) (f : F (Option Int)) : Prop := PO X e (tG relO X W f)
def fPart (fa : F Wv) : F (Option Int) := bindF fa fun a => match a with
  | .p (.int i) => retF (some i)
  | _ => failF
def fSl (own : Bool) (fa : F Wv) (fl fh : F (Option Int)) : F Wv := bindF fa fun a => bindF fl fun lo => bindF fh fun hi => fun _ S =>
  match view a S with
  | some (.lst l) => newL own (cutP l lo hi) S
  | some (.lsf l) => newL own (cutP l lo hi) S
  | some (.tup l) => some (.ok (.p (.tup (cutP l lo hi))), S)
  | _ => none
section
variable {X : Cx} {W : WX} {e : Expr} {fa : F Wv} {lo hi : Option Expr} {fl fh : F (Option Int)} {pos p2 : Pos}
theorem po_weak {e : Option Expr} {t t' : TO} (h : PO X e t) (k : ∀ σ H Q, t' σ H Q → t σ H Q) : PO X e t' := ⟨fun pins s σ H Q I q => h.run pins s σ H Q I (k σ H Q q)⟩
theorem so_none : SO X W none (retF none) := by
  refine po_weak po_none fun σ H Q ⟨B, Z, m, ρ, S, r, S', s, v, eq, k⟩ => ?_
  cases eq
  exact k.fin s rfl
theorem so_some (h : SE X W e fa) : SO X W (some e) (fPart fa) := by
  refine po_weak (po_some h) fun σ H Q ⟨B, Z, m, ρ, S, r, S', s, v, eq, k⟩ => ?_
  refine tG_bind s v eq k fun Z1 m1 H1 S1 x vx e1 s1 v1 rx eq1 k1 => ?_
  split at eq1
  · cases rx with
    | p rx =>
      cases rx
      cases eq1
      exact ⟨_, rfl, k1.fin s1 rfl⟩
  · cases eq1
theorem RpL.cut {K : PySem.W.Frag} {mg : Mg} {Z : Addr → Prop} {H : Hp} {vs : List V} {l : List P} (r : RpL K mg Z H vs l) (lo hi : Option Int) : RpL K mg Z H (cutV vs lo hi) (cutP l lo hi) := by
  unfold cutV cutP
  rw [r.len]
  exact (r.drop _).take _
theorem se_sl {own : Bool} (he : SE X W e fa) (hl : SO X W lo fl) (hh : SO X W hi fh) : SE X W (.Subscript e (.Slice lo hi none p2) pos) (fSl own fa fl fh) := by
  refine pe_weak (pe_slice (sl_list.or sl_tupA) he hl hh) fun σ H Q ⟨B, Z, m, ρ, S, r, S', s, v, eq, k⟩ => ?_
  refine tG_bind s v eq k fun Z1 m1 H1 S1 x vx e1 s1 v1 rx eq1 k1 => ?_
  refine tG_bind s1 v1 eq1 k1 fun Z2 m2 H2 S2 i vi e2 s2 v2 ri eq2 k2 => ?_
  refine tG_bind s2 v2 eq2 k2 fun Z3 m3 H3 S3 j vj e3 s3 v3 rj eq3 k3 => ?_
  cases ri
  cases rj
  have rx3 := Rw.move e3 (Rw.move e2 rx)
  split at eq3
  · rename_i l hl
    have hz := cutP_len (lo := i) (hi := j) ((view_ok s3 rx3 hl).lenL (l := l) (.inl rfl))
    obtain ⟨a, xs, rfl, ha, ra⟩ := (view_ok s3 rx3 hl).lstI
    exact .inl ⟨a, xs, rfl, SqL.of ha, fun p hp => newL_ok s3 hz (ra.cut i j) eq3 k3 hp⟩
  · rename_i l hl
    have hz := cutP_len (lo := i) (hi := j) ((view_ok s3 rx3 hl).lenL (l := l) (.inl rfl))
    obtain ⟨a, xs, rfl, ha, ra⟩ := (view_ok s3 rx3 hl).lsfI
    exact .inl ⟨a, xs, rfl, ha, fun p hp => newL_ok s3 hz (ra.cut i j) eq3 k3 hp⟩
  · rename_i l hl
    cases eq3
    have rv := view_ok s3 rx3 hl
    have hz := cutP_len (lo := i) (hi := j) (rv.lenL (l := l) (.inr rfl))
    obtain ⟨a, xs, rfl, ha, ra⟩ := rv.tupI
    refine .inr ⟨a, xs, rfl, SqT.of ha, fun hw => ?_, fun _ p hp => ?_⟩
    · refine k3.fin s3 (.p ?_)
      have e : cutP l i j = l := by
        unfold cutP
        rw [ra.len] at hw
        rw [hw.1, hw.2]
        simp
      rw [e]
      exact rv.tupC
    · exact k3.fin' (ext_new hp) (s3.new hp) (.p (new_tup s3 hp hz (ra.cut i j)))
  · cases eq3
end
end Wr

set_option maxHeartbeats 4000000
/-! A5: defs over data: what a def promises, calls of it, statements, a def by its body. -/
namespace Wr
open PySem PySem.Spec PyProof.Rows L2

/-- a def over data -/
abbrev Fm := List Wv → List Ob → Option (Rs P × List Ob)
def EndM (K : PySem.W.Frag) (mg : Mg) (Z : Addr → Prop) (H : Hp) (Q : VK) (E : XK) : Rs P → Prop
  | .ok p => ∀ v, Rp K mg Z H v p → Q v H
  | .exc c fs => ∀ cls d, ExR K mg Z H c fs cls d → E cls d H
/-- the def with n parameters does what f says -/
def spF (K : PySem.W.Frag) (mg : Mg) (n : Nat) (f : Fm) : Sp := fun vs H Q E =>
  ∃ B Z m S ws r S', SOk K mg B Z m H S ∧ RwL K mg Z m H vs ws ∧ ws.length = n ∧ f ws S = some (r, S') ∧
    ∀ Z' H', Ext B Z m H Z' m H' → SOk K mg B Z' m H' S' → EndM K mg Z' H' Q E r
theorem spF_len {K : PySem.W.Frag} {mg : Mg} {n : Nat} {f : Fm} {ps : List Str} (hn : ps.length = n) : ∀ vs H Q E, spF K mg n f vs H Q E → vs.length = ps.length := by
  intro vs H Q E h
  obtain ⟨B, Z, m, S, ws, r, S', _, rl, hl, _⟩ := h
  rw [rl.len, hl, hn]
/-- f as a function of data alone -/
def liftA (f : List P → Option (Rs P)) : Fm := fun ws S => match allP ws with
  | some ps => (f ps).map fun r => (r, S)
  | none => none
section
variable {K : PySem.W.Frag} {mg : Mg} {n : Nat}
theorem RpL.pureW {Z : Addr → Prop} {m : List Addr} {H : Hp} : ∀ {vs : List V} {ps : List P}, RpL K mg Z H vs ps → RwL K mg Z m H vs (ps.map .p)
  | _, _, .nil => .nil
  | _, _, .cons r t => .cons (.p r) (RpL.pureW t)
theorem allP_len : ∀ {ws : List Wv} {ps : List P}, allP ws = some ps → ps.length = ws.length
  | [], _, h => by cases h; rfl
  | .p x :: r, ps, h => by
    simp only [allP] at h
    cases hr : allP r with
    | none => rw [hr] at h; cases h
    | some l =>
      rw [hr] at h
      cases h
      exact congrArg Nat.succ (allP_len hr)
  | .loc _ :: _, _, h => by simp [allP] at h
/-- a def that is handed data alone runs over an empty store -/
theorem spF_pure {f : Fm} {g : List P → Option (Rs P)} (h : ∀ ps r, ps.length = n → g ps = some r → f (ps.map .p) [] = some (r, [])) : ∀ vs H Q E, spF K mg n (liftA g) vs H Q E → spF K mg n f vs H Q E := by
  intro vs H Q E ⟨B, Z, m, S, ws, r, S', s, rl, hl, eq, k⟩
  unfold liftA at eq
  cases hp : allP ws with
  | none => rw [hp] at eq; cases eq
  | some ps =>
    rw [hp] at eq
    simp only at eq
    cases hg : g ps with
    | none => rw [hg] at eq; cases eq
    | some r0 =>
      rw [hg] at eq
      cases eq
      have hlen : ps.length = n := by rw [allP_len hp, hl]
      refine ⟨Z, Z, [], [], ps.map .p, _, [], ⟨rfl, List.nodup_nil, fun i a o h => by simp at h, fun a z => z, fun a z => by simp at z, fun a z => by simp at z, s.dom, fun i a o h => by simp at h, s.tabs⟩, (rl.all hp).pureW, by rw [List.length_map]; exact hlen, h ps _ hlen hg, fun Z' H' e s' => ?_⟩
      have same : ∀ a o, H a = some o → NT o → H' a = some o := fun a o h nt => e.same a o h (Classical.em (Z a)).symm nt
      have e1 : Ext B Z m H Z m H' := ⟨⟨[], by simp⟩, fun _ z => .inl z, fun _ z => .inl z, fun a o h _ nt => same a o h nt, e.dom⟩
      have s1 : SOk K mg B Z m H' S := s.stay (B' := B) (fun a o h _ nt => same a o h nt) e1 s'.tabs
      have c : Cold Z' H' Z H' := ⟨fun _ _ h _ _ => h, fun a z => .inl (s'.base a z)⟩
      have z := k Z H' e1 s1
      cases r with
      | ok p => exact fun v rv => z v (rv.move c)
      | exc cc fs =>
        intro cls d ⟨C, h1, h2, h3⟩
        refine z cls d ⟨C, h1, h2, ?_⟩
        rcases h3 with h3 | ⟨dx, xs, h3, hnz, h4, h5⟩
        · exact .inl h3
        · refine .inr ⟨dx, xs, h3, fun z => (c.new dx z).elim hnz fun n => absurd ⟨_, h4, nt_xd⟩ n, h4, fun f p hf => ?_⟩
          obtain ⟨v, q1, q2⟩ := h5 f p hf
          exact ⟨v, q1, q2.move c⟩
end

/-! ### a call of a def -/
def fCall (f : Fm) (fs : F (List Wv)) : F Wv := bindF fs fun ws => fun _ S => match f ws S with
  | some (.ok p, S') => some (.ok (.p p), S')
  | some (.exc c e, S') => some (.exc c e, S')
  | none => none
section
variable {X : Cx} {W : WX} {k n : Nat} {fa : Addr} {fd : FuncData} {ps : List Str} {f : Fm} {x : Str} {p pos : Pos} {e : Expr} {es : List Expr} {fs : F (List Wv)}
theorem Goal.call {B Z Z' : Addr → Prop} {m : List Addr} {H H' : Hp} {σ : L2.St} {Q : VK} {r : Rs Wv} {r0 : Rs P} {S' : List Ob} (h : (match r0 with | .ok p => Rs.ok (Wv.p p) | .exc c e => Rs.exc c e) = r) (g : Goal relW X W B σ Q Z m H r S') (ex : Ext B Z m H Z' m H') (s : SOk X.K X.gl B Z' m H' S') :
    EndM X.K X.gl Z' H' Q (fun cls d H => W cls d σ H) r0 := by
  subst h
  cases r0 with
  | ok p => exact fun v rv => g.fin' ex s (.p rv)
  | exc c fs => exact fun cls d q => g Z' m H' ex s cls d q
theorem se_call (F0 : FnOk X.prog X.w X.K X.mg X.base (L2.CX X.prog X.w) k fa fd ps (spF X.K X.gl n f)) (hr : Room k X.A) (hg : Gl X x) (hm : X.mg x = some (.ref fa)) (hk : PySem.W.keepIn X.K (.ref fa) = true) (hb : Binds X.K fd ps []) (tk : Takes X W)
    (ha : SA X W (e :: es) fs) (hl : ∀ ρ S ws S', fs ρ S = some (.ok ws, S') → ws.length = n) (hdb : (x == ("__debug__" : Str)) = false) (he : starEach (e :: es) X.env = (false, eval e X.env) :: starEach es X.env) (hpl : (backTo pos (starEach es X.env)).any (·.1) = false) :
    SE X W (.Call (.Name x p) (e :: es) [] pos) (fCall f fs) := by
  refine pe_weak (pe_callS (E := WE W) F0 hr hg hm hk hb (passAt tk) ha hdb he hpl) fun σ H Q ⟨B, Z, m, ρ, S, r, S', s, v, eq, k⟩ => ?_
  refine tG_bindE s v eq k fun Z1 m1 H1 S1 ws vs hf e1 s1 v1 rl eq1 k1 => ?_
  cases hr0 : f ws S1 with
  | none => rw [hr0] at eq1; cases eq1
  | some q =>
    obtain ⟨r0, S0⟩ := q
    refine ⟨B, Z1, m1, S1, ws, r0, S0, s1, rl, hl _ _ _ _ hf, hr0, fun Z' H' ex s' => ?_⟩
    rw [hr0] at eq1
    cases r0 with
    | ok p0 =>
      cases eq1
      exact Goal.call (r0 := .ok p0) rfl k1 ex s'
    | exc c0 e0 =>
      cases eq1
      exact Goal.call (r0 := .exc c0 e0) rfl k1 ex s'
theorem se_call0 (F0 : FnOk X.prog X.w X.K X.mg X.base (L2.CX X.prog X.w) k fa fd ps (spF X.K X.gl 0 f)) (hr : Room k X.A) (hg : Gl X x) (hm : X.mg x = some (.ref fa)) (hk : PySem.W.keepIn X.K (.ref fa) = true) (hb : Binds X.K fd ps []) (hx : Passes (L2.CX X.prog X.w) X E0)
    (hok : ∀ S r S', f [] S = some (r, S') → ∃ p, r = .ok p) (hdb : (x == ("__debug__" : Str)) = false) : SE X W (.Call (.Name x p) [] [] pos) (fCall f fNil) := by
  refine pe_weak (pe_call0 F0 hr hg hm hk hb .nil hx hdb) fun σ H Q ⟨B, Z, m, ρ, S, r, S', s, v, eq, k⟩ => ?_
  show spF X.K X.gl 0 f [] H Q E0
  cases hr0 : f [] S with
  | none => unfold fCall bindF fNil retF at eq; simp only [hr0] at eq; cases eq
  | some q =>
    obtain ⟨r0, S0⟩ := q
    obtain ⟨p0, rfl⟩ := hok _ _ _ hr0
    refine ⟨B, Z, m, S, [], .ok p0, S0, s, .nil, rfl, hr0, fun Z' H' ex s' => ?_⟩
    unfold fCall bindF fNil retF at eq
    simp only [hr0] at eq
    cases eq
    exact Goal.call (r0 := .ok p0) rfl k ex s'
end

/-! ### statements -/
inductive Fl where
  | nx | brk | cont | ret (w : Wv)
inductive SR where
  | go (f : Fl) (ρ : Vars) | exc (c : Str) (fs : List (Str × P)) (ρ : Vars)
abbrev FS := Vars → List Ob → Option (SR × List Ob)
section
variable (X : Cx) (W : WX)
def OutS (D : Ends) (Z : Addr → Prop) (m : List Addr) (H : Hp) : SR → Prop
  | .go .nx ρ => ∀ σ, EnvOk X.K X.gl Z m H σ ρ → D.nx σ H
  | .go .brk ρ => ∀ σ, EnvOk X.K X.gl Z m H σ ρ → D.bk σ H
  | .go .cont ρ => ∀ σ, EnvOk X.K X.gl Z m H σ ρ → D.ct σ H
  | .go (.ret w) _ => ∀ v, Rw X.K X.gl Z m H v w → D.rt v H
  | .exc c fs ρ => ∀ cls d σ, EnvOk X.K X.gl Z m H σ ρ → ExR X.K X.gl Z H c fs cls d → W cls d σ H
def GoalS (B : Addr → Prop) (D : Ends) (Z : Addr → Prop) (m : List Addr) (H : Hp) (r : SR) (S' : List Ob) : Prop :=
  ∀ Z' m' H', Ext B Z m H Z' m' H' → SOk X.K X.gl B Z' m' H' S' → OutS X W D Z' m' H' r
def tS (f : FS) : TS := fun D σ H =>
  ∃ B Z m ρ S r S', SOk X.K X.gl B Z m H S ∧ EnvOk X.K X.gl Z m H σ ρ ∧ f ρ S = some (r, S') ∧ GoalS X W B D Z m H r S'
def SS (st : Stmt) (f : FS) : Prop := PS X st (tS X W f)
def SSs (sts : List Stmt) (f : FS) : Prop := PSs X sts (tS X W f)
end
theorem ps_weak {X : Cx} {e : Stmt} {t t' : TS} (h : PS X e t) (k : ∀ D σ H, t' D σ H → t D σ H) : PS X e t' := ⟨fun pins s σ H D I q => h.run pins s σ H D I (k D σ H q)⟩
theorem pss_weak {X : Cx} {e : List Stmt} {t t' : TS} (h : PSs X e t) (k : ∀ D σ H, t' D σ H → t D σ H) : PSs X e t' := ⟨fun pins s σ H D I q => h.run pins s σ H D I (k D σ H q)⟩
/-- an expression, then what is done with its value -/
def bindS {α : Type} (fa : F α) (g : α → FS) : FS := fun ρ S =>
  match fa ρ S with
  | none => none
  | some (.exc c fs, S1) => some (.exc c fs ρ, S1)
  | some (.ok a, S1) => g a ρ S1
def seqS (f g : FS) : FS := fun ρ S =>
  match f ρ S with
  | some (.go .nx ρ', S') => g ρ' S'
  | r => r
def skipS : FS := fun ρ S => some (.go .nx ρ, S)
section
variable {X : Cx} {W : WX} {B Z Z1 : Addr → Prop} {m m1 : List Addr} {H H1 : Hp} {σ : L2.St} {ρ : Vars} {S S' : List Ob} {r : SR} {D : Ends}
theorem GoalS.move (k : GoalS X W B D Z m H r S') (e : Ext B Z m H Z1 m1 H1) : GoalS X W B D Z1 m1 H1 r S' := fun Z' m' H' e' s => k Z' m' H' (e.trans e') s
theorem tS_bind {α β : Type} {rel1 : Rel α β} {fa : F α} {g : α → FS} {R : β → Hp → Prop} (s : SOk X.K X.gl B Z m H S) (v : EnvOk X.K X.gl Z m H σ ρ) (eq : bindS fa g ρ S = some (r, S')) (k : GoalS X W B D Z m H r S')
    (hk : ∀ Z1 m1 H1 S1 a b, Ext B Z m H Z1 m1 H1 → SOk X.K X.gl B Z1 m1 H1 S1 → EnvOk X.K X.gl Z1 m1 H1 σ ρ → rel1 X.K X.gl Z1 m1 H1 b a → g a ρ S1 = some (r, S') → GoalS X W B D Z1 m1 H1 r S' → R b H1) :
    tG rel1 X W fa σ H R := by
  unfold bindS at eq
  cases h : fa ρ S with
  | none => rw [h] at eq; cases eq
  | some q =>
    obtain ⟨ra, S1⟩ := q
    rw [h] at eq
    refine ⟨B, Z, m, ρ, S, ra, S1, s, v, h, fun Z1 m1 H1 e1 s1 => ?_⟩
    cases ra with
    | ok a => exact fun b rb => hk Z1 m1 H1 S1 a b e1 s1 (v.move e1) rb eq (k.move e1)
    | exc c fs =>
      cases eq
      exact fun cls d x => k Z1 m1 H1 e1 s1 cls d σ (v.move e1) x
theorem GoalS.fin {w : SR} (k : GoalS X W B D Z m H w S) (s : SOk X.K X.gl B Z m H S) : OutS X W D Z m H w := k Z m H Ext.refl s
variable {st : Stmt} {rest : List Stmt} {f g : FS} {e : Expr} {fa : F Wv} {ft : F Bool} {pos : Pos}
theorem ss_nil : SSs X W [] skipS := by
  refine pss_weak pss_nil fun D σ H ⟨B, Z, m, ρ, S, r, S', s, v, eq, k⟩ => ?_
  cases eq
  exact k.fin s σ v
/-- what is wanted of the first of two -/
theorem seq_ok {σ : L2.St} (h : tS X W (seqS f g) D σ H) : tS X W f { D with nx := tS X W g D } σ H := by
  obtain ⟨B, Z, m, ρ, S, r, S', s, v, eq, k⟩ := h
  unfold seqS at eq
  cases hf : f ρ S with
  | none => rw [hf] at eq; cases eq
  | some q =>
    obtain ⟨r1, S1⟩ := q
    rw [hf] at eq
    refine ⟨B, Z, m, ρ, S, r1, S1, s, v, hf, fun Z1 m1 H1 e1 s1 => ?_⟩
    match r1, eq with
    | .go .nx ρ1, eq => exact fun σ1 v1 => ⟨B, Z1, m1, ρ1, S1, r, S', s1, v1, eq, k.move e1⟩
    | .go .brk ρ1, eq => cases eq; exact fun σ1 v1 => k Z1 m1 H1 e1 s1 σ1 v1
    | .go .cont ρ1, eq => cases eq; exact fun σ1 v1 => k Z1 m1 H1 e1 s1 σ1 v1
    | .go (.ret w) ρ1, eq => cases eq; exact fun σ1 v1 => k Z1 m1 H1 e1 s1 σ1 v1
    | .exc c fs ρ1, eq => cases eq; exact fun cls d σ1 v1 x => k Z1 m1 H1 e1 s1 cls d σ1 v1 x
theorem ss_cons (h1 : SS X W st f) (h2 : SSs X W rest g) : SSs X W (st :: rest) (seqS f g) := pss_weak (pss_cons h1 h2) fun _ _ _ h => seq_ok h
theorem ss_pass : SS X W (.Pass pos) skipS := by
  refine ps_weak ps_pass fun D σ H ⟨B, Z, m, ρ, S, r, S', s, v, eq, k⟩ => ?_
  cases eq
  exact k.fin s σ v
theorem ss_doc {x j pos'} : SS X W (.Expr (.Constant (.str x) j pos) pos') skipS := by
  refine ps_weak ps_doc fun D σ H ⟨B, Z, m, ρ, S, r, S', s, v, eq, k⟩ => ?_
  cases eq
  exact k.fin s σ v
theorem ss_break : SS X W (.Break pos) (fun ρ S => some (.go .brk ρ, S)) := by
  refine ps_weak ps_break fun D σ H ⟨B, Z, m, ρ, S, r, S', s, v, eq, k⟩ => ?_
  cases eq
  exact k.fin s σ v
theorem ss_continue : SS X W (.Continue pos) (fun ρ S => some (.go .cont ρ, S)) := by
  refine ps_weak ps_continue fun D σ H ⟨B, Z, m, ρ, S, r, S', s, v, eq, k⟩ => ?_
  cases eq
  exact k.fin s σ v
def dropS (fa : F Wv) : FS := bindS fa fun _ => skipS
theorem ss_expr (he : SE X W e fa) (hs : swapsWith e none pos.line X.env = pure false) : SS X W (.Expr e pos) (dropS fa) := by
  refine ps_weak (ps_expr he hs) fun D σ H ⟨B, Z, m, ρ, S, r, S', s, v, eq, k⟩ => ?_
  refine tS_bind s v eq k fun Z1 m1 H1 S1 a b e1 s1 v1 ra eq1 k1 => ?_
  cases eq1
  exact k1.fin s1 σ v1
def fRet (fa : F Wv) : FS := bindS fa fun a => fun ρ S => some (.go (.ret a) ρ, S)
theorem ss_ret (he : SE X W e fa) : SS X W (.Return (some e) pos) (fRet fa) := by
  refine ps_weak (ps_ret he) fun D σ H ⟨B, Z, m, ρ, S, r, S', s, v, eq, k⟩ => ?_
  refine tS_bind s v eq k fun Z1 m1 H1 S1 a b e1 s1 v1 ra eq1 k1 => ?_
  cases eq1
  exact k1.fin s1 b ra
def fRetN : FS := fun ρ S => some (.go (.ret (.p .non)) ρ, S)
theorem ss_retN : SS X W (.Return none pos) fRetN := by
  refine ps_weak ps_retN fun D σ H ⟨B, Z, m, ρ, S, r, S', s, v, eq, k⟩ => ?_
  cases eq
  exact k.fin s _ (.p .non)
def fIfS (ft : F Bool) (f g : FS) : FS := bindS ft fun b => if b = true then f else g
theorem ss_if {c : Expr} {a b : List Stmt} (hc : ST X W c ft) (ha : SSs X W a f) (hb : SSs X W b g) : SS X W (.If c a b pos) (fIfS ft f g) := by
  refine ps_weak (ps_if hc ha hb) fun D σ H ⟨B, Z, m, ρ, S, r, S', s, v, eq, k⟩ => ?_
  refine tS_bind s v eq k fun Z1 m1 H1 S1 x b e1 s1 v1 ra eq1 k1 => ?_
  cases ra
  cases x with
  | true => exact iteT ⟨B, Z1, m1, ρ, S1, r, S', s1, v1, eq1, k1⟩
  | false => exact iteF ⟨B, Z1, m1, ρ, S1, r, S', s1, v1, eq1, k1⟩

/-! ### targets -/
/-- a target over data: the names behind it -/
abbrev FG := Wv → Vars → List Ob → Option Vars
/-- alike but at these slots -/
def Agree (is : List Nat) (σ σ' : L2.St) : Prop := σ'.length = σ.length ∧ ∀ j, j ∉ is → σ'[j]? = σ[j]?
theorem Agree.refl {is : List Nat} {σ : L2.St} : Agree is σ σ := ⟨rfl, fun _ _ => rfl⟩
theorem Agree.set {is : List Nat} {σ σ' : L2.St} {i : Nat} {v : Option V} (h : Agree is (σ.set i v) σ') : Agree (i :: is) σ σ' :=
  ⟨by rw [h.1, List.length_set], fun j hj => by
    rw [h.2 j (fun z => hj (List.mem_cons_of_mem _ z)), List.getElem?_set_ne (fun z => hj (by rw [z]; exact List.mem_cons_self))]⟩
def tGt (X : Cx) (is : List Nat) (f : FG) : TG := fun v σ H Q => ∃ B Z m ρ S w ρ', SOk X.K X.gl B Z m H S ∧ EnvOk X.K X.gl Z m H σ ρ ∧ Rw X.K X.gl Z m H v w ∧ f w ρ S = some ρ' ∧ ∀ σ', EnvOk X.K X.gl Z m H σ' ρ' → Agree is σ σ' → Q σ' H
def SG (X : Cx) (tg : Expr) (is : List Nat) (f : FG) : Prop := PG X tg (tGt X is f)
theorem pg_weak {X : Cx} {e : Expr} {t t' : TG} (h : PG X e t) (k : ∀ v σ H Q, t' v σ H Q → t v σ H Q) : PG X e t' := ⟨fun pins s σ H v u Q I r q => h.run pins s σ H v u Q I r (k v σ H Q q)⟩
def gNm (i : Nat) : FG := fun w ρ _ => if i < ρ.length then some (ρ.set i (some w)) else none
theorem EnvOk.set {K : PySem.W.Frag} {mg : Mg} {i : Nat} {v : V} {w : Wv} (h : EnvOk K mg Z m H σ ρ) (r : Rw K mg Z m H v w) : EnvOk K mg Z m H (σ.set i (some v)) (ρ.set i (some w)) := by
  refine ⟨by rw [List.length_set, List.length_set]; exact h.1, fun j w' hj => ?_⟩
  by_cases e : j = i
  · subst e
    have hl : j < ρ.length := by
      have := (List.getElem?_eq_some_iff.mp hj).1
      rw [List.length_set] at this
      exact this
    rw [List.getElem?_set_self hl] at hj
    cases hj
    exact ⟨v, by rw [List.getElem?_set_self (by rw [← h.1]; exact hl)], r⟩
  · rw [List.getElem?_set_ne (Ne.symm e)] at hj
    obtain ⟨u, h1, h2⟩ := h.2 j w' hj
    exact ⟨u, by rw [List.getElem?_set_ne (Ne.symm e)]; exact h1, h2⟩
theorem sg_name {i : Nat} {x : Str} (hN : X.N.Nodup) (hi : X.N[i]? = some x) (hx : Loc X.env.scope x) (hf : X.fn x = true ∨ X.env.scope.names.lookup x = some .local) : SG X (.Name x pos) [i] (gNm i) := by
  refine pg_weak (pg_name hN hi hx hf) fun v σ H Q ⟨B, Z, m, ρ, S, w, ρ', s, ve, rw_, eq, k⟩ => ?_
  unfold gNm at eq
  split at eq
  · cases eq
    exact k _ (ve.set rw_) (Agree.set Agree.refl)
  · cases eq
/-- names of a tuple's items, all plain -/
def gNms : List Nat → List P → Vars → Option Vars
  | [], [], ρ => some ρ
  | i :: is, x :: xs, ρ => if i < ρ.length then gNms is xs (ρ.set i (some (.p x))) else none
  | _, _, _ => none
def gTupN (is : List Nat) : FG := fun w ρ S => match view w S with
  | some x => match asT x with
    | some l => gNms is l ρ
    | none => none
  | none => none
/-- targets that are plain names at these slots -/
inductive NmsAt (X : Cx) : List Expr → List Nat → Prop
  | nil : NmsAt X [] []
  | cons {x : Str} {pos : Pos} {i : Nat} {es : List Expr} {is : List Nat} : X.N[i]? = some x → Loc X.env.scope x → (X.fn x = true ∨ X.env.scope.names.lookup x = some .local) → NmsAt X es is → NmsAt X (.Name x pos :: es) (i :: is)
def tGts (X : Cx) (is : List Nat) : TGs := fun vs σ H Q => ∃ B Z m ρ S l ρ', SOk X.K X.gl B Z m H S ∧ EnvOk X.K X.gl Z m H σ ρ ∧ RpL X.K X.gl Z H vs l ∧ gNms is l ρ = some ρ' ∧ ∀ σ', EnvOk X.K X.gl Z m H σ' ρ' → Agree is σ σ' → Q σ' H
theorem pgs_names (hN : X.N.Nodup) : ∀ {es : List Expr} {is : List Nat}, NmsAt X es is → PGs X es (tGts X is)
  | _, _, .nil => ⟨fun pins s σ H vs us Q I r ⟨B, Z, m, ρ, S, l, ρ', sk, ve, rl, eq, k⟩ => by
      cases rl with
      | nil =>
        cases eq
        exact pgs_nil.run pins s σ H [] us Q I r ⟨rfl, k σ ve Agree.refl⟩
      | cons _ _ => simp [gNms] at eq⟩
  | _, _, .cons hi hx hf t => ⟨fun pins s σ H vs us Q I r ⟨B, Z, m, ρ, S, l, ρ', sk, ve, rl, eq, k⟩ => by
      cases rl with
      | nil => simp [gNms] at eq
      | cons rp rt =>
        simp only [gNms] at eq
        split at eq
        · exact (pgs_cons (pg_name hN hi hx hf) (pgs_names hN t) rfl).run pins s σ H _ us Q I r ⟨_, _, rfl, ⟨B, Z, m, _, S, _, ρ', sk, ve.set (.p rp), rt, eq, fun σ' v' a => k σ' v' a.set⟩⟩
        · cases eq⟩
theorem NmsAt.len : ∀ {es : List Expr} {is : List Nat}, NmsAt X es is → (assignEach es X.env).length = is.length ∧ (assignEach es X.env).findIdx? (·.1) = none
  | _, _, .nil => ⟨rfl, rfl⟩
  | _, _, .cons _ _ _ t => by
    obtain ⟨h1, h2⟩ := NmsAt.len t
    refine ⟨congrArg Nat.succ h1, ?_⟩
    show List.findIdx? (·.1) ((false, _) :: assignEach _ X.env) = none
    rw [List.findIdx?_cons]
    simp [h2]
theorem gNms_len : ∀ {is : List Nat} {l : List P} {ρ ρ' : Vars}, gNms is l ρ = some ρ' → l.length = is.length
  | [], [], _, _, _ => rfl
  | [], _ :: _, _, _, h => by simp [gNms] at h
  | _ :: _, [], _, _, h => by simp [gNms] at h
  | i :: is, x :: xs, ρ, ρ', h => by
    simp only [gNms] at h
    split at h
    · exact congrArg Nat.succ (gNms_len h)
    · cases h
theorem sg_tup {es : List Expr} {j : Nat} {is : List Nat} (hN : X.N.Nodup) (hc : X.calm = true) (h : NmsAt X es is) : SG X (.Tuple es j pos) is (gTupN is) := by
  refine pg_weak (pg_tup hc (pgs_names hN h) h.len.1 h.len.2) fun v σ H Q ⟨B, Z, m, ρ, S, w, ρ', s, ve, rw_, eq, k⟩ => ?_
  unfold gTupN at eq
  split at eq
  · rename_i x hx
    split at eq
    · rename_i l hl
      obtain ⟨a, xs, rfl, ha, r⟩ := (view_ok s rw_ hx).asT hl
      exact ⟨a, xs, rfl, ha, by rw [r.len]; exact gNms_len eq, ⟨B, Z, m, ρ, S, l, ρ', s, ve, r, eq, k⟩⟩
    · cases eq
  · cases eq
/-- target = value -/
def fAsg (fa : F Wv) (g : FG) : FS := bindS fa fun a => fun ρ S => (g a ρ S).map fun ρ' => (.go .nx ρ', S)
theorem asg_ok {g : FG} {is : List Nat} {σ : L2.St} (h : tS X W (fAsg fa g) D σ H) : tG relW X W fa σ H fun x H1 => tGt X is g x σ H1 D.nx := by
  obtain ⟨B, Z, m, ρ, S, r, S', s, v, eq, k⟩ := h
  refine tS_bind s v eq k fun Z1 m1 H1 S1 a b e1 s1 v1 ra eq1 k1 => ?_
  cases hg : g a ρ S1 with
  | none => rw [hg] at eq1; cases eq1
  | some ρ' =>
    rw [hg] at eq1
    cases eq1
    exact ⟨B, Z1, m1, ρ, _, a, ρ', s1, v1, ra, hg, fun σ' ve _ => k1.fin s1 σ' ve⟩
theorem ss_set {i : Nat} {x : Str} {pos' : Pos} (hN : X.N.Nodup) (hi : X.N[i]? = some x) (hx : Loc X.env.scope x) (hf : X.fn x = true ∨ X.env.scope.names.lookup x = some .local) (he : SE X W e fa) (hs : swapsWith e (some (.Name x pos')) pos.line X.env = pure false) :
    SS X W (.Assign [.Name x pos'] e pos) (fAsg fa (gNm i)) := by
  refine ps_weak (ps_set hN hi hx he hs hf) fun D σ H h => ?_
  obtain ⟨B, Z, m, ρ, S, r, S', s, v, eq, k⟩ := h
  refine tS_bind s v eq k fun Z1 m1 H1 S1 a b e1 s1 v1 ra eq1 k1 => ?_
  unfold gNm at eq1
  split at eq1
  · cases eq1
    exact k1.fin s1 _ (v1.set ra)
  · cases eq1
theorem ss_asg {tg : Expr} {g : FG} {is : List Nat} (he : SE X W e fa) (hg : SG X tg is g) (hs : swapsWithSole [tg] e pos.line X.env = pure false) (hw : swappedStores [tg] e X.env = pure none) (h1 : (assignEach [tg] X.env).map (·.2) = [assign tg X.env]) :
    SS X W (.Assign [tg] e pos) (fAsg fa g) := ps_weak (ps_asg he hg hs hw h1) fun _ _ _ h => asg_ok h
end

/-! ### a def by its body -/
def closedW (k : Nat) : Wv → Bool
  | .p _ => true
  | .loc n => decide (n < k)
def closedO (k : Nat) : Ob → Bool
  | .ins _ l => l.all fun q => closedW k q.2
  | _ => true
/-- the value that is handed back, as data -/
def frz (k : Nat) (w : Wv) (S : List Ob) : Option P := match w with
  | .p x => some x
  | .loc n => if k ≤ n then view w S else none
def trunc (k : Nat) (S : List Ob) : Option (List Ob) := if (S.take k).all (closedO k) && decide (k ≤ S.length) then some (S.take k) else none
def endF (k : Nat) : Option (SR × List Ob) → Option (Rs P × List Ob)
  | some (.go (.ret w) _, S') => match frz k w S', trunc k S' with
    | some p, some S0 => some (.ok p, S0)
    | _, _ => none
  | some (.go .nx _, S') => (trunc k S').map fun S0 => (.ok .non, S0)
  | some (.exc c fs _, S') => (trunc k S').map fun S0 => (.exc c fs, S0)
  | _ => none
/-- n names, the first of which are the parameters -/
def defF (n : Nat) (f : FS) : Fm := fun ws S => endF S.length (f (ws.map some ++ List.replicate (n - ws.length) none) S)
section
variable {K : PySem.W.Frag} {mg : Mg} {B Z Z' : Addr → Prop} {m m' : List Addr} {H H' : Hp} {S S' S0 : List Ob}
theorem closed_F {k : Nat} (hk : m'.take k = m) (hkl : k ≤ m'.length) : ∀ {xs : List (Str × V)} {l : List (Str × Wv)}, (l.all fun q => closedW k q.2) = true → RwF K mg Z m' H' xs l → RwF K mg Z m H' xs l
  | _, _, _, .nil => .nil
  | _, _, hc, .cons r t => by
    simp only [List.all_cons, Bool.and_eq_true] at hc
    refine .cons ?_ (closed_F hk hkl hc.2 t)
    cases r with
    | p r => exact .p r
    | @loc a n h =>
      have hn : n < k := by simpa [closedW] using hc.1
      refine .loc ?_
      rw [← hk, List.getElem?_take_of_lt hn]
      exact h
theorem RwF.zmove (c : Cold Z' H' Z H') : ∀ {xs : List (Str × V)} {l : List (Str × Wv)}, RwF K mg Z' m' H' xs l → RwF K mg Z m' H' xs l
  | _, _, .nil => .nil
  | _, _, .cons (.p r) t => .cons (.p (r.move c)) (RwF.zmove c t)
  | _, _, .cons (.loc h) t => .cons (.loc h) (RwF.zmove c t)
/-- the state behind the def, without its own places -/
theorem leave (s : SOk K mg B Z m H S) (e : Ext B Z m H Z' m' H') (s' : SOk K mg B Z' m' H' S') (ht : trunc S.length S' = some S0) :
    ∃ Z0, Ext B Z m H Z0 m H' ∧ SOk K mg B Z0 m H' S0 ∧ Cold Z' H' Z0 H' ∧ ∀ a, Z0 a → B a ∨ a ∈ m := by
  unfold trunc at ht
  split at ht
  · rename_i hc
    cases ht
    simp only [Bool.and_eq_true, decide_eq_true_eq] at hc
    obtain ⟨hcl, hle⟩ := hc
    obtain ⟨r, hm⟩ := e.pre
    have hk : m'.take S.length = m := by rw [hm, ← s.len, List.take_left]
    have hkl : S.length ≤ m'.length := by rw [s'.len]; exact hle
    have at_ : ∀ (i : Nat) (a : Addr) (o : Ob), m[i]? = some a → (S'.take S.length)[i]? = some o → m'[i]? = some a ∧ S'[i]? = some o := fun i a o h1 h2 => by
      have hi : i < m.length := (List.getElem?_eq_some_iff.mp h1).1
      rw [s.len] at hi
      rw [List.getElem?_take_of_lt hi] at h2
      exact ⟨e.get h1, h2⟩
    let Z0 : Addr → Prop := fun a => B a ∨ ∃ (i : Nat) (o : Ob), m[i]? = some a ∧ (S'.take S.length)[i]? = some o ∧ o ≠ .gone
    have zz : ∀ a, Z0 a → Z' a := fun a z => by
      rcases z with z | ⟨i, o, h1, h2, h3⟩
      · exact s'.base a z
      · obtain ⟨q1, q2⟩ := at_ i a o h1 h2
        exact s'.hot i a o q1 q2 h3
    have c : Cold Z' H' Z0 H' := ⟨fun _ _ h _ _ => h, fun a z => .inl (zz a z)⟩
    refine ⟨Z0, ⟨⟨[], by simp⟩, fun a z => e.new a (zz a z), fun a z => .inl z, e.same, e.dom⟩, ⟨?_, s.nd, fun i a o h1 h2 h3 => .inr ⟨i, o, h1, h2, h3⟩, fun a z => .inl z, s.sep, fun a z => e.dom a (s.mdom a z), fun a z => s'.dom a (zz a z), fun i a o h1 h2 h3 => ?_, s'.tabs⟩, c, fun a z => ?_⟩
    · rw [List.length_take, s.len]; omega
    · obtain ⟨q1, q2⟩ := at_ i a o h1 h2
      obtain ⟨h, z1, z2, z3⟩ := s'.obj i a o q1 q2 h3
      refine ⟨h, z1, z2, ?_⟩
      cases z3 with
      | lst hl r => exact .lst hl (r.move c)
      | dK r => exact .dK (r.move c)
      | dT r => exact .dT (r.move c)
      | ins hcl' r =>
        have ho := List.all_eq_true.mp hcl _ (List.mem_of_getElem? h2)
        exact .ins hcl' (closed_F hk hkl (by simpa [closedO] using ho) (r.zmove c))
    · rcases z with z | ⟨i, o, h1, _⟩
      · exact .inl z
      · exact .inr (List.mem_of_getElem? h1)
  · cases ht
/-- the value that is handed back is data -/
theorem frz_ok {v : V} {w : Wv} {p : P} {Z0 : Addr → Prop} (s : SOk K mg B Z m H S) (e : Ext B Z m H Z' m' H') (s' : SOk K mg B Z' m' H' S') (r : Rw K mg Z' m' H' v w) (h : frz S.length w S' = some p) (c : Cold Z' H' Z0 H') (hz : ∀ a, Z0 a → B a ∨ a ∈ m) : Rp K mg Z0 H' v p := by
  cases r with
  | p r =>
    cases h
    exact r.move c
  | @loc a n hn =>
    unfold frz at h
    simp only at h
    split at h
    · rename_i hk
      have na : ¬ Z0 a := fun z => by
        rcases hz a z with q | q
        · exact s'.sep a (List.mem_of_getElem? hn) q
        · obtain ⟨r, hm⟩ := e.pre
          have hnd := s'.nd
          obtain ⟨i, hi⟩ := List.mem_iff_getElem?.mp q
          have h2 : m'[i]? = some a := e.get hi
          have h3 : i = n := nd_ix hnd h2 hn
          have h4 : i < m.length := (List.getElem?_eq_some_iff.mp hi).1
          rw [s.len] at h4
          omega
      unfold view at h
      simp only at h
      split at h
      · rename_i l hl
        cases h
        obtain ⟨ho, e1, _, r⟩ := s'.obj n a _ hn hl (by intro z; cases z)
        cases r with
        | lst hz r => exact .lst e1 na hz (r.move c)
      · rename_i l hl
        cases h
        obtain ⟨ho, e1, _, r⟩ := s'.obj n a _ hn hl (by intro z; cases z)
        cases r with
        | dK r => exact .dK (.inl e1) na (r.move c)
      · rename_i l hl
        cases h
        obtain ⟨ho, e1, _, r⟩ := s'.obj n a _ hn hl (by intro z; cases z)
        cases r with
        | dT r => exact .dT (.inl e1) na (r.move c)
      · cases h
    · cases h
end
theorem ExR.move {K : PySem.W.Frag} {mg : Mg} {Z Z' : Addr → Prop} {H : Hp} {c : Str} {fs : List (Str × P)} {cls : Value} {d : Option Addr} (h : ExR K mg Z H c fs cls d) (co : Cold Z H Z' H) : ExR K mg Z' H c fs cls d := by
  obtain ⟨C, h1, h2, h3⟩ := h
  refine ⟨C, h1, h2, ?_⟩
  rcases h3 with h3 | ⟨dx, xs, h3, hnz, h4, h5⟩
  · exact .inl h3
  · refine .inr ⟨dx, xs, h3, fun z => (co.new dx z).elim hnz fun n => absurd ⟨_, h4, nt_xd⟩ n, h4, fun f p hf => ?_⟩
    obtain ⟨v, q1, q2⟩ := h5 f p hf
    exact ⟨v, q1, q2.move co⟩
theorem start_env {K : PySem.W.Frag} {mg : Mg} {Z : Addr → Prop} {m : List Addr} {H : Hp} {N : List Str} {vs : List V} {ws : List Wv} (r : RwL K mg Z m H vs ws) : EnvOk K mg Z m H (L2.start N vs) (ws.map some ++ List.replicate (N.length - ws.length) none) := by
  have hl := r.len
  refine ⟨by unfold L2.start; simp [hl], fun i w h => ?_⟩
  unfold L2.start
  by_cases hi : i < ws.length
  · rw [List.getElem?_append_left (by simpa using hi)] at h
    rw [List.getElem?_append_left (by rw [List.length_map, hl]; exact hi)]
    rw [List.getElem?_map] at h ⊢
    clear hi
    induction r generalizing i with
    | nil => simp at h
    | cons r1 t ih =>
      cases i with
      | zero =>
        simp at h
        subst h
        exact ⟨_, by simp, r1⟩
      | succ i =>
        simp at h
        obtain ⟨v, h1, h2⟩ := ih (by simpa using hl) i (by simpa using h)
        exact ⟨v, by simpa using h1, h2⟩
  · rw [List.getElem?_append_right (by simpa using Nat.le_of_not_lt hi)] at h
    obtain ⟨_, e⟩ := List.getElem?_eq_some_iff.mp h
    simp at e
section
variable {P0 : Program} {w : World} {K : PySem.W.Frag} {mg : Str → Option Value} {base : Heap}
/-- a def that may raise, by its body; its code object is its own -/
theorem okC {x qual : Str} {st : Stmt} {fa : Addr} {fd : FuncData} {N ps : List Str} {k : Nat} {sp : Sp} (F : Fun K x qual st fa fd) (SC : FnScope N ps (defScope st)) (len : ∀ vs H Q E, sp vs H Q E → vs.length = ps.length)
    (hb : ∀ (cdv : Value), fd.code = cdv → ∀ (A : Around) (outer : List Env) (s : Shared) (H : Hp) (vs : List V) (Q : VK) (E : XK), Room k (A.deeper (envOfC qual (defScope st) s.heap.objs.size fa cdv)) → sp vs H Q E →
      ∃ t, PSs (cxOf (L2.CX P0 w) P0 w K mg base N qual (defScope st) fa cdv A outer s H E) (defBody st) t ∧ t { nx := fun _ H' => Q .non H', rt := Q } (L2.start N vs) H) : FnOk P0 w K mg base (L2.CX P0 w) (k + 1) fa fd ps sp := by
  obtain ⟨oc, od, kV, doc, pm, an, cdv, ct, osl, e, lk, hcd⟩ := F.ex
  subst e
  exact fn_of lk hcd SC len fun A outer s H vs Q E hr hsp => hb cdv rfl A outer s H vs Q E hr hsp
/-- THE RULE for a def: what its body is worth -/
theorem def_ok {x qual : Str} {st : Stmt} {fa : Addr} {fd : FuncData} {N ps : List Str} {k n : Nat} {f : FS} (F0 : Fun K x qual st fa fd) (SC : FnScope N ps (defScope st)) (hn : ps.length = n)
    (hbody : ∀ (cdv : Value), fd.code = cdv → ∀ (A : Around) (outer : List Env) (s : Shared) (H : Hp) (E : XK), Room k (A.deeper (envOfC qual (defScope st) s.heap.objs.size fa cdv)) →
      SSs (cxOf (L2.CX P0 w) P0 w K mg base N qual (defScope st) fa cdv A outer s H E) (fun cls d _ H => E cls d H) (defBody st) f) :
    FnOk P0 w K mg base (L2.CX P0 w) (k + 1) fa fd ps (spF K ⟨mg, P0, w⟩ n (defF N.length f)) := by
  refine okC F0 SC (spF_len hn) fun cdv hcd A outer s H vs Q E hr h => ?_
  obtain ⟨B, Z, m, S, ws, r, S0, sk, rl, hl, eq, kk⟩ := h
  refine ⟨_, hbody cdv hcd A outer s H E hr, ?_⟩
  unfold defF at eq
  cases hf : f (ws.map some ++ List.replicate (N.length - ws.length) none) S with
  | none => rw [hf] at eq; cases eq
  | some q =>
    obtain ⟨r1, S1⟩ := q
    rw [hf] at eq
    refine ⟨B, Z, m, _, S, r1, S1, sk, start_env rl, hf, fun Z1 m1 H1 e1 s1 => ?_⟩
    match r1, eq with
    | .go (.ret w0) ρ1, eq =>
      simp only [endF] at eq
      cases hz : frz S.length w0 S1 with
      | none => simp [hz] at eq
      | some p =>
        cases ht : trunc S.length S1 with
        | none => simp [hz, ht] at eq
        | some S2 =>
          simp only [hz, ht, Option.some.injEq, Prod.mk.injEq] at eq
          obtain ⟨rfl, rfl⟩ := eq
          obtain ⟨Z0, q1, q2, q3, q4⟩ := leave sk e1 s1 ht
          exact fun v rv => kk Z0 H1 q1 q2 v (frz_ok sk e1 s1 rv hz q3 q4)
    | .go .nx ρ1, eq =>
      simp only [endF] at eq
      cases ht : trunc S.length S1 with
      | none => simp [ht] at eq
      | some S2 =>
        simp only [ht, Option.map_some, Option.some.injEq, Prod.mk.injEq] at eq
        obtain ⟨rfl, rfl⟩ := eq
        obtain ⟨Z0, q1, q2, q3, q4⟩ := leave sk e1 s1 ht
        exact fun σ ve => kk Z0 H1 q1 q2 .non .non
    | .go .brk ρ1, eq => simp [endF] at eq
    | .go .cont ρ1, eq => simp [endF] at eq
    | .exc c fs ρ1, eq =>
      simp only [endF] at eq
      cases ht : trunc S.length S1 with
      | none => simp [ht] at eq
      | some S2 =>
        simp only [ht, Option.map_some, Option.some.injEq, Prod.mk.injEq] at eq
        obtain ⟨rfl, rfl⟩ := eq
        obtain ⟨Z0, q1, q2, q3, q4⟩ := leave sk e1 s1 ht
        exact fun cls d σ ve x => kk Z0 H1 q1 q2 cls d (x.move q3)
end
end Wr

set_option maxHeartbeats 4000000
/-! A6: built-in functions over data. -/
namespace Wr
open PySem PySem.Spec PyProof.Rows L2

def viewL : List Wv → List Ob → Option (List P)
  | [], _ => some []
  | w :: r, S => match view w S, viewL r S with
    | some x, some l => some (x :: l)
    | _, _ => none
inductive RVL (K : PySem.W.Frag) (mg : Mg) (Z : Addr → Prop) (H : Hp) : List V → List P → Prop
  | nil : RVL K mg Z H [] []
  | cons {v : V} {x : P} {vs : List V} {xs : List P} : RV K mg Z H v x → RVL K mg Z H vs xs → RVL K mg Z H (v :: vs) (x :: xs)
section
variable {K : PySem.W.Frag} {mg : Mg} {B Z Z' : Addr → Prop} {m m' : List Addr} {H H' : Hp} {S : List Ob}
theorem viewL_ok (s : SOk K mg B Z m H S) : ∀ {vs : List V} {ws : List Wv} {xs : List P}, RwL K mg Z m H vs ws → viewL ws S = some xs → RVL K mg Z H vs xs
  | _, _, _, .nil, h => by cases h; exact .nil
  | _, _, _, .cons (w := w) (ws := ws) r t, h => by
    simp only [viewL] at h
    cases h1 : view w S with
    | none => simp [h1] at h
    | some x =>
      cases h2 : viewL ws S with
      | none => simp [h1, h2] at h
      | some l =>
        simp only [h1, h2, Option.some.injEq] at h
        subst h
        exact .cons (view_ok s r h1) (viewL_ok s t h2)
end
/-- a built-in by values -/
def CallOk (X : Cx) (r : List V → Hp → VK → Prop) (fo : List P → Option P) : Prop :=
  ∀ (B Z : Addr → Prop) (m : List Addr) (H : Hp) (S : List Ob) (vs : List V) (xs : List P) (z : P) (Q : VK), SOk X.K X.gl B Z m H S → RVL X.K X.gl Z H vs xs → fo xs = some z →
    (∀ H' u, Ext B Z m H Z m H' → SOk X.K X.gl B Z m H' S → Rp X.K X.gl Z H' u z → Q u H') → r vs H Q
/-- .. that makes a list -/
def CallNew (X : Cx) (r : List V → Hp → VK → Prop) (fo : List P → Option (List P)) : Prop :=
  ∀ (B Z : Addr → Prop) (m : List Addr) (H : Hp) (S : List Ob) (vs : List V) (xs l : List P) (Q : VK), SOk X.K X.gl B Z m H S → RVL X.K X.gl Z H vs xs → fo xs = some l →
    (∀ p ys, H p = none → l.length ≤ sizeLine → RpL X.K X.gl Z H ys l → Q (.ref p) (upd H p (.lst ys))) → r vs H Q
def fB (fo : List P → Option P) (fs : F (List Wv)) : F Wv := bindF fs fun ws => fun _ S => match viewL ws S with
  | some xs => (fo xs).map fun z => (.ok (.p z), S)
  | none => none
def fBn (own : Bool) (fo : List P → Option (List P)) (fs : F (List Wv)) : F Wv := bindF fs fun ws => fun _ S => match viewL ws S with
  | some xs => match fo xs with
    | some l => newL own l S
    | none => none
  | none => none
section
variable {X : Cx} {W : WX} {fs : F (List Wv)} {r r' : List V → Hp → VK → Prop} {fo fo' : List P → Option P} {fn : List P → Option (List P)} {own : Bool} {ib T : String} {x : Str} {p pos : Pos} {e : Expr} {es : List Expr}
theorem fB_ok (ok : CallOk X r fo) {σ : L2.St} {H : Hp} {Q : VK} (h : tG relW X W (fB fo fs) σ H Q) : tG relL X W fs σ H fun vs H1 => r vs H1 Q := by
  obtain ⟨B, Z, m, ρ, S, rr, S', s, v, eq, k⟩ := h
  refine tG_bind s v eq k fun Z1 m1 H1 S1 ws vs e1 s1 v1 rl eq1 k1 => ?_
  cases hv : viewL ws S1 with
  | none => rw [hv] at eq1; cases eq1
  | some xs =>
    rw [hv] at eq1
    simp only at eq1
    cases hz : fo xs with
    | none => rw [hz] at eq1; cases eq1
    | some z =>
      rw [hz] at eq1
      cases eq1
      exact ok B Z1 m1 H1 _ vs xs z Q s1 (viewL_ok s1 rl hv) hz fun H' u e' s' ru => k1.fin' e' s' (.p ru)
theorem fBn_ok (ok : CallNew X r fn) {σ : L2.St} {H : Hp} {Q : VK} (h : tG relW X W (fBn own fn fs) σ H Q) : tG relL X W fs σ H fun vs H1 => r vs H1 Q := by
  obtain ⟨B, Z, m, ρ, S, rr, S', s, v, eq, k⟩ := h
  refine tG_bind s v eq k fun Z1 m1 H1 S1 ws vs e1 s1 v1 rl eq1 k1 => ?_
  cases hv : viewL ws S1 with
  | none => rw [hv] at eq1; cases eq1
  | some xs =>
    rw [hv] at eq1
    simp only at eq1
    cases hz : fn xs with
    | none => rw [hz] at eq1; cases eq1
    | some l =>
      rw [hz] at eq1
      exact ok B Z1 m1 H1 _ vs xs l Q s1 (viewL_ok s1 rl hv) hz fun q ys hq hz ry => newL_ok s1 hz ry eq1 k1 hq
theorem CallOk.or (h : CallOk X r fo) (h' : CallOk X r' fo') : CallOk X (fun x H Q => r x H Q ∨ r' x H Q) (fun x => (fo x).or (fo' x)) := by
  intro B Z m H S vs xs z Q s rl e k
  replace e : (fo xs).or (fo' xs) = some z := e
  cases hf : fo xs with
  | some z' =>
    rw [hf] at e
    cases e
    exact .inl (h B Z m H S vs xs _ Q s rl hf k)
  | none =>
    rw [hf] at e
    exact .inr (h' B Z m H S vs xs z Q s rl e k)
/-- f(e, ..), f a built-in -/
theorem se_B (hc : CallR X (.builtin ib) r) (ok : CallOk X r fo) (hg : Gl X x) (hm : X.mg x = none) (hv : bootBuiltins x = some (.builtin ib)) (ha : SA X W (e :: es) fs) (hn : x ≠ "__name__") (hdb : (x == ("__debug__" : Str)) = false)
    (he : starEach (e :: es) X.env = (false, eval e X.env) :: starEach es X.env) (hpl : (backTo pos (starEach es X.env)).any (·.1) = false) : SE X W (.Call (.Name x p) (e :: es) [] pos) (fB fo fs) :=
  pe_weak (pe_callB hc hg hm hv ha hn hdb he hpl) fun _ _ _ h => fB_ok ok h
theorem se_Bn (hc : CallR X (.builtin ib) r) (ok : CallNew X r fn) (hg : Gl X x) (hm : X.mg x = none) (hv : bootBuiltins x = some (.builtin ib)) (ha : SA X W (e :: es) fs) (hn : x ≠ "__name__") (hdb : (x == ("__debug__" : Str)) = false)
    (he : starEach (e :: es) X.env = (false, eval e X.env) :: starEach es X.env) (hpl : (backTo pos (starEach es X.env)).any (·.1) = false) : SE X W (.Call (.Name x p) (e :: es) [] pos) (fBn own fn fs) :=
  pe_weak (pe_callB hc hg hm hv ha hn hdb he hpl) fun _ _ _ h => fBn_ok ok h
theorem se_T (hc : CallR X (.type T) r) (ok : CallOk X r fo) (hg : Gl X x) (hm : X.mg x = none) (hv : bootBuiltins x = some (.type T)) (ha : SA X W (e :: es) fs) (hn : x ≠ "__name__") (hdb : (x == ("__debug__" : Str)) = false)
    (he : starEach (e :: es) X.env = (false, eval e X.env) :: starEach es X.env) (hpl : (backTo pos (starEach es X.env)).any (·.1) = false) : SE X W (.Call (.Name x p) (e :: es) [] pos) (fB fo fs) :=
  pe_weak (pe_callTy hc hg hm hv ha hn hdb he hpl) fun _ _ _ h => fB_ok ok h
theorem se_Tn (hc : CallR X (.type T) r) (ok : CallNew X r fn) (hg : Gl X x) (hm : X.mg x = none) (hv : bootBuiltins x = some (.type T)) (ha : SA X W (e :: es) fs) (hn : x ≠ "__name__") (hdb : (x == ("__debug__" : Str)) = false)
    (he : starEach (e :: es) X.env = (false, eval e X.env) :: starEach es X.env) (hpl : (backTo pos (starEach es X.env)).any (·.1) = false) : SE X W (.Call (.Name x p) (e :: es) [] pos) (fBn own fn fs) :=
  pe_weak (pe_callTy hc hg hm hv ha hn hdb he hpl) fun _ _ _ h => fBn_ok ok h

/-! ### len -/
def lenP : List P → Option P
  | [.str y] => if y.length ≤ sizeLine then some (.int y.length) else none
  | [.lst l] => some (.int l.length)
  | [.lsf l] => some (.int l.length)
  | [.tup l] => some (.int l.length)
  | [.tpk l] => some (.int l.length)
  | _ => none
theorem ok_len : CallOk X (fun xs H Q => ∃ x n, xs = [x] ∧ LenV X.K x H n ∧ Q (.int n) H) lenP := by
  intro B Z m H S vs xs z Q s rl e k
  unfold lenP at e
  split at e
  · split at e
    · rename_i hy
      cases e
      cases rl with
      | cons r t =>
        cases t
        exact ⟨_, _, rfl, by rw [r.strI]; exact ⟨hy, rfl⟩, k H _ Ext.refl s (.int _)⟩
    · cases e
  · cases e
    cases rl with
    | cons r t =>
      cases t
      obtain ⟨a, ys, rfl, ha, ra⟩ := r.lstI
      exact ⟨_, _, rfl, .inl ⟨ys, SqL.of ha, ra.len.symm⟩, k H _ Ext.refl s (.int _)⟩
  · cases e
    cases rl with
    | cons r t =>
      cases t
      obtain ⟨a, ys, rfl, ha, ra⟩ := r.lsfI
      exact ⟨_, _, rfl, .inl ⟨ys, ha, ra.len.symm⟩, k H _ Ext.refl s (.int _)⟩
  · cases e
    cases rl with
    | cons r t =>
      cases t
      obtain ⟨a, ys, rfl, ha, ra⟩ := r.tupI
      exact ⟨_, _, rfl, .inr ⟨ys, SqT.of ha, ra.len.symm⟩, k H _ Ext.refl s (.int _)⟩
  · cases e
    cases rl with
    | cons r t =>
      cases t
      obtain ⟨a, ys, rfl, ha, ra⟩ := r.tpkI
      exact ⟨_, _, rfl, .inr ⟨ys, ha, ra.len.symm⟩, k H _ Ext.refl s (.int _)⟩
  · cases e
/-! ### all, any, sum, tuple, list -/
def blsP : List P → Option (List Bool)
  | [] => some []
  | .bl b :: r => (blsP r).map fun l => b :: l
  | _ :: _ => none
def intsP : List P → Option (List Int)
  | [] => some []
  | .int b :: r => (intsP r).map fun l => b :: l
  | _ :: _ => none
theorem RpL.blsI {K : PySem.W.Frag} {mg : Mg} {Z : Addr → Prop} {H : Hp} : ∀ {vs : List V} {l : List P} {bs : List Bool}, RpL K mg Z H vs l → blsP l = some bs → vs = bs.map V.bl
  | _, _, _, .nil, h => by cases h; rfl
  | _, _, _, .cons (p := p) (ps := ps) r t, h => by
    cases p <;> simp only [blsP] at h <;> first | (cases h; done) | skip
    cases hb : blsP ps with
    | none => rw [hb] at h; cases h
    | some bs =>
      rw [hb] at h
      cases h
      cases r
      rw [RpL.blsI t hb]
      rfl
theorem RpL.intsI {K : PySem.W.Frag} {mg : Mg} {Z : Addr → Prop} {H : Hp} : ∀ {vs : List V} {l : List P} {bs : List Int}, RpL K mg Z H vs l → intsP l = some bs → vs = bs.map V.int
  | _, _, _, .nil, h => by cases h; rfl
  | _, _, _, .cons (p := p) (ps := ps) r t, h => by
    cases p <;> simp only [intsP] at h <;> first | (cases h; done) | skip
    cases hb : intsP ps with
    | none => rw [hb] at h; cases h
    | some bs =>
      rw [hb] at h
      cases h
      cases r
      rw [RpL.intsI t hb]
      rfl
def allPy (neg : Bool) : List P → Option P
  | [x] => match asL x with
    | some l => (blsP l).map fun bs => .bl (if neg then bs.any id else bs.all id)
    | none => none
  | _ => none
theorem ok_all : CallOk X (rAll X.K) (allPy false) := by
  intro B Z m H S vs xs z Q s rl e k
  unfold allPy at e
  split at e
  · split at e
    · rename_i x l hl
      cases hb : blsP l with
      | none => rw [hb] at e; cases e
      | some bs =>
        rw [hb] at e
        cases e
        cases rl with
        | cons r t =>
          cases t
          obtain ⟨a, ys, rfl, ha, ra⟩ := r.asL hl
          exact ⟨a, bs, rfl, by rw [← ra.blsI hb]; exact ha, k H _ Ext.refl s (.bl _)⟩
    · cases e
  · cases e
theorem ok_any : CallOk X (rAny X.K) (allPy true) := by
  intro B Z m H S vs xs z Q s rl e k
  unfold allPy at e
  split at e
  · split at e
    · rename_i x l hl
      cases hb : blsP l with
      | none => rw [hb] at e; cases e
      | some bs =>
        rw [hb] at e
        cases e
        cases rl with
        | cons r t =>
          cases t
          obtain ⟨a, ys, rfl, ha, ra⟩ := r.asL hl
          exact ⟨a, bs, rfl, by rw [← ra.blsI hb]; exact ha, k H _ Ext.refl s (.bl _)⟩
    · cases e
  · cases e
def sumPy : List P → Option P
  | [x] => match asL x with
    | some l => (intsP l).map fun bs => .int bs.sum
    | none => none
  | _ => none
theorem ok_sum : CallOk X (rSum X.K) sumPy := by
  intro B Z m H S vs xs z Q s rl e k
  unfold sumPy at e
  split at e
  · split at e
    · rename_i x l hl
      cases hb : intsP l with
      | none => rw [hb] at e; cases e
      | some bs =>
        rw [hb] at e
        cases e
        cases rl with
        | cons r t =>
          cases t
          obtain ⟨a, ys, rfl, ha, ra⟩ := r.asL hl
          exact ⟨a, bs, rfl, by rw [← ra.intsI hb]; exact ha, k H _ Ext.refl s (.int _)⟩
    · cases e
  · cases e
def tupPy : List P → Option P
  | [.lst l] => some (.tup l)
  | [.lsf l] => some (.tup l)
  | [.tup l] => some (.tup l)
  | _ => none
theorem ok_tuple : CallOk X (fun xs H Q => ∃ p ys, xs = [.ref p] ∧ ((SqL X.K H p ys ∧ ∀ l, H l = none → Q (.ref l) (upd H l (.tup ys))) ∨ (SqT X.K H p ys ∧ Q (.ref p) H))) tupPy := by
  intro B Z m H S vs xs z Q s rl e k
  unfold tupPy at e
  split at e
  · cases e
    cases rl with
    | cons r t =>
      cases t
      have hz := r.lenL (.inl rfl)
      obtain ⟨a, ys, rfl, ha, ra⟩ := r.lstI
      exact ⟨a, ys, rfl, .inl ⟨SqL.of ha, fun p hp => k _ _ (ext_new hp) (s.new hp) (new_tup s hp hz ra)⟩⟩
  · cases e
    cases rl with
    | cons r t =>
      cases t
      have hz := r.lenL (.inl rfl)
      obtain ⟨a, ys, rfl, ha, ra⟩ := r.lsfI
      exact ⟨a, ys, rfl, .inl ⟨ha, fun p hp => k _ _ (ext_new hp) (s.new hp) (new_tup s hp hz ra)⟩⟩
  · cases e
    cases rl with
    | cons r t =>
      cases t
      have r0 := r.tupC
      obtain ⟨a, ys, rfl, ha, ra⟩ := r.tupI
      exact ⟨a, ys, rfl, .inr ⟨SqT.of ha, k H _ Ext.refl s r0⟩⟩
  · cases e
def listPy : List P → Option (List P)
  | [x] => match asL x with
    | some l => some l
    | none => asT x
  | _ => none
theorem ok_list : CallNew X (fun xs H Q => ∃ p ys, xs = [.ref p] ∧ (SqL X.K H p ys ∨ SqT X.K H p ys) ∧ ∀ l, H l = none → Q (.ref l) (upd H l (.lst ys))) listPy := by
  intro B Z m H S vs xs l Q s rl e k
  unfold listPy at e
  split at e
  · split at e
    · rename_i x l' hl
      cases e
      cases rl with
      | cons r t =>
        cases t
        have hz := r.lenL (.inl hl)
        obtain ⟨a, ys, rfl, ha, ra⟩ := r.asL hl
        exact ⟨a, ys, rfl, .inl ha, fun p hp => k p ys hp hz ra⟩
    · rename_i x hn
      cases rl with
      | cons r t =>
        cases t
        have hz := r.lenL (.inr e)
        obtain ⟨a, ys, rfl, ha, ra⟩ := r.asT e
        exact ⟨a, ys, rfl, .inr ha, fun p hp => k p ys hp hz ra⟩
  · cases e
/-! ### int, str, abs -/
def intPy : List P → Option P
  | [.int i] => some (.int i)
  | [.bl b] => some (.int (if b then 1 else 0))
  | _ => none
theorem ok_int : CallOk X (fun xs H Q => (∃ i, xs = [.int i] ∧ Q (.int i) H) ∨ ∃ k, xs = [.bl k] ∧ Q (.int (if k then 1 else 0)) H) intPy := by
  intro B Z m H S vs xs z Q s rl e k
  unfold intPy at e
  split at e
  · cases e
    cases rl with
    | cons r t =>
      cases t
      exact .inl ⟨_, by rw [r.intI], k H _ Ext.refl s (.int _)⟩
  · cases e
    cases rl with
    | cons r t =>
      cases t
      exact .inr ⟨_, by rw [r.blI], k H _ Ext.refl s (.int _)⟩
  · cases e
/-! ### isinstance -/
def tyP : P → Option String
  | .non => some "NoneType"
  | .bl _ => some "bool"
  | .int _ => some "int"
  | .str _ => some "str"
  | .lst _ => some "list"
  | .lsf _ => some "list"
  | .tup _ => some "tuple"
  | .tpk _ => some "tuple"
  | .dK _ => some "dict"
  | _ => none
def subT (a b : String) : Bool := a == b || (a == "bool" && b == "int")
def isiNames : List String := ["int", "bool", "str", "list", "tuple", "dict"]
theorem subT_ok : (["NoneType", "bool", "int", "str", "list", "tuple", "dict"].all fun a => isiNames.all fun b => decide (kitB a b = some (subT a b))) = true := by decide +kernel
theorem RV.ty {K : PySem.W.Frag} {mg : Mg} {Z : Addr → Prop} {H : Hp} {v : V} {x : P} {t : String} (r : RV K mg Z H v x) (h : tyP x = some t) : TyX K H v (.type t) ∧ t ∈ ["NoneType", "bool", "int", "str", "list", "tuple", "dict"] := by
  cases x <;> simp only [tyP] at h <;> first | (cases h; done) | skip
  · cases h; rw [r.nonI]; exact ⟨.base .non, by simp⟩
  · cases h; rw [r.blI]; exact ⟨.base (.bl _), by simp⟩
  · cases h; rw [r.intI]; exact ⟨.base (.int _), by simp⟩
  · cases h; rw [r.strI]; exact ⟨.base (.str _), by simp⟩
  · cases h
    obtain ⟨a, ys, rfl, ha, _⟩ := r.lstI
    exact ⟨.base (.lst ha), by simp⟩
  · cases h
    obtain ⟨a, ys, rfl, ha, _⟩ := r.tupI
    exact ⟨.base (.tup ha), by simp⟩
  · cases h
    obtain ⟨a, ys, rfl, ha, _⟩ := r.lsfI
    rcases ha with (ha | ⟨o, ha⟩) | ⟨o, its, n, ha, hc, _⟩
    · exact ⟨.base (.lst ha), by simp⟩
    · exact ⟨.base (.frz ha), by simp⟩
    · exact ⟨.kList ha hc, by simp⟩
  · cases h
    obtain ⟨a, ys, rfl, ha, _⟩ := r.tpkI
    rcases ha with (ha | ⟨o, ha⟩) | ⟨o, its, n, ha, hc, _⟩
    · exact ⟨.base (.tup ha), by simp⟩
    · exact ⟨.fTuple ha, by simp⟩
    · exact ⟨.kTuple ha hc, by simp⟩
  · cases h
    obtain ⟨a, ys, rfl, ha, _⟩ := r.dKI
    rcases ha with ha | ⟨o, ha⟩
    · exact ⟨.base (.dK ha), by simp⟩
    · exact ⟨.fDict ha, by simp⟩
def isiP (T : String) (x : P) : Option P := (tyP x).map fun a => .bl (subT a T)
def isi2P (T U : String) (x : P) : Option P := (tyP x).map fun a => .bl (subT a T || subT a U)
theorem kit_sub {K : PySem.W.Frag} {a T : String} (ha : a ∈ ["NoneType", "bool", "int", "str", "list", "tuple", "dict"]) (hT : T ∈ isiNames) : PySem.W.kitOne K (.type a) (.type T) = some (subT a T) :=
  kit_ty (of_decide_eq_true (List.all_eq_true.mp (List.all_eq_true.mp subT_ok a ha) T hT))
def fOne (g : P → Option P) (fa : F Wv) : F Wv := bindF fa fun a => fun _ S => match view a S with
  | some x => (g x).map fun z => (.ok (.p z), S)
  | none => none
theorem se_isi {a : Expr} {fa : F Wv} {T : Str} {Ts : String} {p2 : Pos} (hT : Ts ∈ isiNames) (ha : SE X W a fa) (hg : Gl X "isinstance") (hm : X.mg "isinstance" = none) (hg2 : Gl X T) (hm2 : X.mg T = none) (hv2 : bootBuiltins T = some (.type Ts)) (hn : T ≠ "__name__") (hdb : (T == ("__debug__" : Str)) = false)
    (h1 : starEach [a, .Name T p2] X.env = (false, eval a X.env) :: starEach [.Name T p2] X.env) (h2 : (backTo pos (starEach [.Name T p2] X.env)).any (·.1) = false) :
    SE X W (.Call (.Name "isinstance" p) [a, .Name T p2] [] pos) (fOne (isiP Ts) fa) := by
  refine pe_weak (pe_callB (call_isi (X := X)) hg hm PyProof.Rows.boot_isinstance (pa_cons ha (pa_cons (pe_bltn (v := .ty Ts) hg2 hm2 hv2 rfl hn hdb) pa_nil rfl) h1) (by decide) (by decide) h1 h2) fun σ H Q ⟨B, Z, m, ρ, S, rr, S', s, v, eq, k⟩ => ?_
  refine tG_bind s v eq k fun Z1 m1 H1 S1 w u e1 s1 v1 rl eq1 k1 => ?_
  cases hv : view w S1 with
  | none => rw [hv] at eq1; cases eq1
  | some y =>
    rw [hv] at eq1
    simp only [isiP] at eq1
    cases ht : tyP y with
    | none => rw [ht] at eq1; cases eq1
    | some t =>
      rw [ht] at eq1
      cases eq1
      obtain ⟨ty, hin⟩ := (view_ok s1 rl hv).ty ht
      exact ⟨u, .ty Ts, .type t, .type Ts, _, rfl, .ty Ts, ty, kit_sub hin hT, k1.fin s1 (.p (.bl _))⟩
theorem se_isi2 {a : Expr} {fa : F Wv} {T U : Str} {Ts Us : String} {p2 p3 p4 : Pos} {j : Nat} (hT : Ts ∈ isiNames) (hU : Us ∈ isiNames) (ha : SE X W a fa) (hg : Gl X "isinstance") (hm : X.mg "isinstance" = none)
    (hg2 : Gl X T) (hm2 : X.mg T = none) (hv2 : bootBuiltins T = some (.type Ts)) (hn : T ≠ "__name__") (hdb : (T == ("__debug__" : Str)) = false) (hg3 : Gl X U) (hm3 : X.mg U = none) (hv3 : bootBuiltins U = some (.type Us)) (hn3 : U ≠ "__name__") (hdb3 : (U == ("__debug__" : Str)) = false)
    (h1 : starEach [a, .Tuple [.Name T p2, .Name U p3] j p4] X.env = (false, eval a X.env) :: starEach [.Tuple [.Name T p2, .Name U p3] j p4] X.env) (h2 : (backTo pos (starEach [.Tuple [.Name T p2, .Name U p3] j p4] X.env)).any (·.1) = false) :
    SE X W (.Call (.Name "isinstance" p) [a, .Tuple [.Name T p2, .Name U p3] j p4] [] pos) (fOne (isi2P Ts Us) fa) := by
  refine pe_weak (pe_callB (call_isiT (X := X)) hg hm PyProof.Rows.boot_isinstance (pa_cons ha (pa_cons (pe_tup (pa_cons (pe_bltn (v := .ty Ts) hg2 hm2 hv2 rfl hn hdb) (pa_cons (pe_bltn (v := .ty Us) hg3 hm3 hv3 rfl hn3 hdb3) pa_nil rfl) rfl)) pa_nil rfl) h1) (by decide) (by decide) h1 h2) fun σ H Q ⟨B, Z, m, ρ, S, rr, S', s, v, eq, k⟩ => ?_
  refine tG_bind s v eq k fun Z1 m1 H1 S1 w u e1 s1 v1 rl eq1 k1 => ?_
  refine ⟨by show 2 ≤ sizeLine; decide, fun q hq => ?_⟩
  cases hv : view w S1 with
  | none => rw [hv] at eq1; cases eq1
  | some y =>
    rw [hv] at eq1
    simp only [isi2P] at eq1
    cases ht : tyP y with
    | none => rw [ht] at eq1; cases eq1
    | some t =>
      rw [ht] at eq1
      cases eq1
      have e2 : Ext B Z1 m1 H1 Z1 m1 (upd H1 q (.tup [.ty Ts, .ty Us])) := ext_new hq
      have s2 := s1.new (o := .tup [.ty Ts, .ty Us]) hq
      obtain ⟨ty, hin⟩ := (view_ok s2 (Rw.move e2 rl) hv).ty ht
      refine ⟨u, q, [.ty Ts, .ty Us], .type t, [.type Ts, .type Us], _, rfl, upd_same, .cons (.ty Ts) (.cons (.ty Us) .nil), ty, kitAny_cons (kit_sub hin hT) (r := subT t Ts || subT t Us) (fun hb => ?_) (fun hb => by rw [hb]; rfl), k1.fin' e2 s2 (.p (.bl _))⟩
      rw [hb, Bool.false_or]
      exact kitAny_cons (kit_sub hin hU) (fun hb => by rw [hb]; exact kitAny_nil) (fun hb => hb)
end
end Wr

set_option maxHeartbeats 4000000
/-! A7: a place that becomes data; what is walked; for, while; comprehensions. -/
namespace Wr
open PySem PySem.Spec PyProof.Rows L2

/-! ### a place becomes data -/
section
variable {K : PySem.W.Frag} {mg : Mg} {B Z Z' : Addr → Prop} {m m' : List Addr} {H H' : Hp} {S : List Ob}
theorem freeze {n : Nat} {a : Addr} {x : P} (s : SOk K mg B Z m H S) (hn : m[n]? = some a) (hv : view (.loc n) S = some x) : ∃ Z', Ext B Z m H Z' m H ∧ SOk K mg B Z' m H (S.set n .gone) ∧ Rp K mg Z' H (.ref a) x := by
  have e : Ext B Z m H (fun b => Z b ∧ b ≠ a) m H := ⟨⟨[], by simp⟩, fun _ z => .inl z.1, fun _ z => .inl z, fun _ _ h _ _ => h, fun _ z => z⟩
  have na : ∀ b, B b → b ≠ a := fun b z q => s.sep a (List.mem_of_getElem? hn) (q ▸ z)
  have old : ∀ (i : Nat) (b : Addr) (o : Ob), m[i]? = some b → (S.set n .gone)[i]? = some o → o ≠ .gone → S[i]? = some o ∧ b ≠ a := fun i b o h1 h2 h3 => by
    by_cases hi : i = n
    · subst hi
      by_cases hl : i < S.length
      · rw [List.getElem?_set_self hl] at h2
        cases h2
        exact absurd rfl h3
      · rw [List.getElem?_eq_none (by simpa using hl)] at h2
        cases h2
    · rw [List.getElem?_set_ne (Ne.symm hi)] at h2
      exact ⟨h2, fun q => hi (nd_ix s.nd (q ▸ h1) hn)⟩
  refine ⟨_, e, ⟨by rw [List.length_set]; exact s.len, s.nd, fun i b o h1 h2 h3 => ?_, fun b z => ⟨s.base b z, na b z⟩, s.sep, s.mdom, fun b z => s.dom b z.1, fun i b o h1 h2 h3 => ?_, s.tabs⟩, ?_⟩
  · obtain ⟨q1, q2⟩ := old i b o h1 h2 h3
    exact ⟨s.hot i b o h1 q1 h3, q2⟩
  · obtain ⟨q1, q2⟩ := old i b o h1 h2 h3
    obtain ⟨h, z1, z2, z3⟩ := s.obj i b o h1 q1 h3
    exact ⟨h, z1, z2, z3.move e⟩
  · have nz : ¬ (Z a ∧ a ≠ a) := fun z => z.2 rfl
    unfold view at hv
    simp only at hv
    split at hv
    · rename_i l hl
      cases hv
      obtain ⟨ho, e1, _, r⟩ := s.obj n a _ hn hl (by intro z; cases z)
      cases r with
      | lst hz r => exact .lst e1 nz hz (r.move e.cold)
    · rename_i l hl
      cases hv
      obtain ⟨ho, e1, _, r⟩ := s.obj n a _ hn hl (by intro z; cases z)
      cases r with
      | dK r => exact .dK (.inl e1) nz (r.move e.cold)
    · rename_i l hl
      cases hv
      obtain ⟨ho, e1, _, r⟩ := s.obj n a _ hn hl (by intro z; cases z)
      cases r with
      | dT r => exact .dT (.inl e1) nz (r.move e.cold)
    · cases hv
end
def fFrz (fa : F Wv) : F Wv := bindF fa fun a => fun _ S => match a with
  | .p x => some (.ok (.p x), S)
  | .loc n => match view (.loc n) S with
    | some x => some (.ok (.p x), S.set n .gone)
    | none => none
section
variable {X : Cx} {W : WX} {a e : Expr} {fa : F Wv} {pos : Pos}
theorem se_frz (h : SE X W a fa) : SE X W a (fFrz fa) := by
  refine pe_weak h fun σ H Q ⟨B, Z, m, ρ, S, r, S', s, v, eq, k⟩ => ?_
  refine tG_bind s v eq k fun Z1 m1 H1 S1 x b e1 s1 v1 ra eq1 k1 => ?_
  cases ra with
  | p ra =>
    cases eq1
    exact k1.fin s1 (.p ra)
  | @loc a n hn =>
    simp only at eq1
    split at eq1
    · rename_i y hy
      cases eq1
      obtain ⟨Z', q1, q2, q3⟩ := freeze s1 hn hy
      exact k1.fin' q1 q2 (.p q3)
    · cases eq1
end

/-! ### what is walked -/
/-- the walk yields these -/
def Yields (K : PySem.W.Frag) (mg : Mg) (J : It) (l : List P) (Z : Addr → Prop) (H : Hp) : Prop :=
  ∀ Z1 H1, Cold Z H Z1 H1 → J.stop l.length H1 ∧ ∀ (i : Nat) (x : P), l[i]? = some x → J.go i H1 ∧ ∀ v H2, J.yld i H1 v H2 →
    (H2 = H1 ∧ Rp K mg Z1 H1 v x) ∨ ∃ T us ps, v = .ref T ∧ H1 T = none ∧ H2 = upd H1 T (.tup us) ∧ RpL K mg Z1 H1 us ps ∧ ps.length ≤ 2 ∧ x = .tup ps
def relI : Rel (List P) It := fun K mg Z _ H J l => l.length ≤ sizeLine ∧ Yields K mg J l Z H
def SI (X : Cx) (W : WX) (tg e : Expr) (f : F (List P)) : Prop := PI X tg e (tG relI X W f)
def itemsOf (w : Wv) : Option (List P) := match w with
  | .p x => match asL x with
    | some l => some l
    | none => asT x
  | .loc _ => none
def fItems (fa : F Wv) : F (List P) := bindF fa fun a => optF (itemsOf a)
section
variable {K : PySem.W.Frag} {mg : Mg} {Z Z' : Addr → Prop} {H H' : Hp}
theorem Rp.coL {v : V} {x : P} {l : List P} (r : Rp K mg Z H v x) (h : asL x = some l) : ∃ a xs, v = .ref a ∧ CoL K Z H a xs ∧ RpL K mg Z H xs l ∧ l.length ≤ sizeLine := by
  cases r <;> simp only [Wr.asL] at h <;> first | (cases h; done) | skip
  · cases h; rename_i h1 h2 h3 h4; exact ⟨_, _, rfl, .inl ⟨.inl h1, h2⟩, h4, h3⟩
  · cases h; rename_i h1 h2 h3; exact ⟨_, _, rfl, h1, h3, h2⟩
theorem Rp.coT {v : V} {x : P} {l : List P} (r : Rp K mg Z H v x) (h : asT x = some l) : ∃ a xs, v = .ref a ∧ CoT K Z H a xs ∧ RpL K mg Z H xs l ∧ l.length ≤ sizeLine := by
  cases r <;> simp only [Wr.asT] at h <;> first | (cases h; done) | skip
  · cases h; rename_i h1 h2 h3 h4; exact ⟨_, _, rfl, .inl ⟨.inl h1, h2⟩, h4, h3⟩
  · cases h; rename_i h1 h2 h3; exact ⟨_, _, rfl, h1, h3, h2⟩
theorem yields_list {a : Addr} {xs : List V} {l : List P} (h : CoL K Z H a xs) (r : RpL K mg Z H xs l) : Yields K mg (Itl K a) l Z H := fun Z1 H1 c => by
  have h1 := (c.coL h).sq
  have r1 := r.move c
  refine ⟨⟨xs, h1, by rw [r1.len]; exact Nat.le_refl _⟩, fun i x hx => ?_⟩
  obtain ⟨v, q1, q2⟩ := r1.get' hx
  exact ⟨⟨xs, v, h1, q1⟩, fun v' H2 ⟨e, y⟩ => .inl ⟨e, by have := y xs h1; rw [q1] at this; cases this; exact q2⟩⟩
theorem yields_tup {a : Addr} {xs : List V} {l : List P} (h : CoT K Z H a xs) (r : RpL K mg Z H xs l) : Yields K mg (Itt K a) l Z H := fun Z1 H1 c => by
  have h1 := (c.coT h).sq
  have r1 := r.move c
  refine ⟨⟨xs, h1, by rw [r1.len]; exact Nat.le_refl _⟩, fun i x hx => ?_⟩
  obtain ⟨v, q1, q2⟩ := r1.get' hx
  exact ⟨⟨xs, v, h1, q1⟩, fun v' H2 ⟨e, y⟩ => .inl ⟨e, by have := y xs h1; rw [q1] at this; cases this; exact q2⟩⟩
def rngP (lo : Int) (n : Nat) : List P := (List.range n).map fun i => .int (lo + (i : Nat))
theorem yields_range {lo : Int} {n : Nat} : Yields K mg (Itr lo n) (rngP lo n) Z H := fun Z1 H1 c => by
  refine ⟨by show n ≤ (rngP lo n).length; unfold rngP; simp, fun i x hx => ?_⟩
  unfold rngP at hx
  rw [List.getElem?_map] at hx
  by_cases hi : i < n
  · rw [List.getElem?_range hi] at hx
    cases hx
    exact ⟨hi, fun v H2 ⟨e, y⟩ => .inl ⟨e, by rw [y]; exact .int _⟩⟩
  · rw [List.getElem?_eq_none (by simpa using hi)] at hx
    cases hx
end
section
variable {X : Cx} {W : WX} {tg a b e : Expr} {fa fb : F Wv} {fs : F (List Wv)} {pos p : Pos}
theorem si_seq (ha : SE X W a fa) : SI X W tg a (fItems fa) := by
  refine ⟨fun pins s0 σ H R I ⟨B, Z, m, ρ, S, r, S', s, v, eq, k⟩ => ?_⟩
  have tup : (∃ x S1 l, fa ρ S = some (.ok (.p x), S1) ∧ asL x = none ∧ asT x = some l) ∨ ¬ ∃ x S1 l, fa ρ S = some (.ok (.p x), S1) ∧ asL x = none ∧ asT x = some l := Classical.em _
  rcases tup with ⟨x, S1, l, hf, hn, ht⟩ | no
  · refine (pi_tup ha).run pins s0 σ H R I ?_
    refine tG_bindE s v eq k fun Z1 m1 H1 S2 w u hf2 e1 s1 v1 ra eq1 k1 => ?_
    rw [hf] at hf2
    cases hf2
    cases ra with
    | p ra =>
      have e : optF (itemsOf (.p x)) ρ S1 = some (.ok l, S1) := by simp [optF, itemsOf, hn, ht]
      rw [e] at eq1
      cases eq1
      obtain ⟨a, xs, rfl, h1, h2, h3⟩ := ra.coT ht
      exact ⟨a, rfl, ⟨xs, h1.sq⟩, k1.fin s1 ⟨h3, yields_tup h1 h2⟩⟩
  · refine (pi_list ha).run pins s0 σ H R I ?_
    refine tG_bindE s v eq k fun Z1 m1 H1 S2 w u hf2 e1 s1 v1 ra eq1 k1 => ?_
    cases ra with
    | loc h => cases eq1
    | @p _ x ra =>
      cases hl : asL x with
      | none =>
        cases ht : asT x with
        | none =>
          have e : optF (itemsOf (.p x)) ρ S2 = none := by simp [optF, itemsOf, hl, ht]
          rw [e] at eq1
          cases eq1
        | some l => exact absurd ⟨x, S2, l, hf2, hl, ht⟩ no
      | some l =>
        have e : optF (itemsOf (.p x)) ρ S2 = some (.ok l, S2) := by simp [optF, itemsOf, hl]
        rw [e] at eq1
        cases eq1
        obtain ⟨a, xs, rfl, h1, h2, h3⟩ := ra.coL hl
        exact ⟨a, rfl, ⟨xs, h1.sq⟩, k1.fin s1 ⟨h3, yields_list h1 h2⟩⟩
def fRng1 (fs : F (List Wv)) : F (List P) := bindF fs fun ws => match ws with
  | [.p (.int j)] => if -1000000 ≤ j ∧ j ≤ 1000000 then retF (rngP 0 j.toNat) else failF
  | _ => failF
def fRng2 (fs : F (List Wv)) : F (List P) := bindF fs fun ws => match ws with
  | [.p (.int i), .p (.int j)] => if (-1000000 ≤ i ∧ i ≤ 1000000) ∧ (-1000000 ≤ j ∧ j ≤ 1000000) then retF (rngP i (j - i).toNat) else failF
  | _ => failF
theorem rng_len {lo : Int} {n : Nat} (h : n ≤ 3000000) : (rngP lo n).length ≤ sizeLine := by
  unfold rngP
  rw [List.length_map, List.length_range, sizeLine_eq]
  omega
theorem si_range1 (hg : Gl X "range") (hm : X.mg "range" = none) (ha : SA X W [a] fs) (hs : starEach [a] X.env = [(false, eval a X.env)]) : SI X W tg (.Call (.Name "range" p) [a] [] pos) (fRng1 fs) := by
  refine ⟨fun pins s0 σ H R I ⟨B, Z, m, ρ, S, r, S', s, v, eq, k⟩ => (pi_range1 hg hm ha hs).run pins s0 σ H R I ?_⟩
  refine tG_bind s v eq k fun Z1 m1 H1 S2 w u e1 s1 v1 ra eq1 k1 => ?_
  split at eq1
  · split at eq1
    · rename_i hj
      cases eq1
      cases ra with
      | cons r t =>
        cases t
        cases r with
        | p r =>
          cases r
          exact ⟨_, rfl, by omega, by omega, k1.fin s1 ⟨rng_len (by omega), yields_range⟩⟩
    · cases eq1
  · cases eq1
theorem si_range2 (hg : Gl X "range") (hm : X.mg "range" = none) (ha : SA X W [a, b] fs) (hs : starEach [a, b] X.env = [(false, eval a X.env), (false, eval b X.env)]) (hs2 : starEach [b] X.env = [(false, eval b X.env)]) : SI X W tg (.Call (.Name "range" p) [a, b] [] pos) (fRng2 fs) := by
  refine ⟨fun pins s0 σ H R I ⟨B, Z, m, ρ, S, r, S', s, v, eq, k⟩ => (pi_range2 hg hm ha hs hs2).run pins s0 σ H R I ?_⟩
  refine tG_bind s v eq k fun Z1 m1 H1 S2 w u e1 s1 v1 ra eq1 k1 => ?_
  split at eq1
  · split at eq1
    · rename_i hj
      cases eq1
      cases ra with
      | cons r t =>
        cases t with
        | cons r2 t =>
          cases t
          cases r with
          | p r =>
            cases r
            cases r2 with
            | p r2 =>
              cases r2
              exact ⟨_, _, rfl, by omega, k1.fin s1 ⟨rng_len (by omega), yields_range⟩⟩
    · cases eq1
  · cases eq1
/-! ### zip -/
def zipP : List P → List P → List P
  | x :: xs, y :: ys => .tup [x, y] :: zipP xs ys
  | _, _ => []
theorem zipP_len : ∀ (l k : List P), (zipP l k).length = min l.length k.length
  | [], k => by simp [zipP]
  | _ :: _, [] => by simp [zipP]
  | x :: xs, y :: ys => by
    simp only [zipP, List.length_cons, zipP_len xs ys]
    omega
theorem zipP_get : ∀ {l k : List P} {i : Nat} {z : P}, (zipP l k)[i]? = some z → ∃ x y, l[i]? = some x ∧ k[i]? = some y ∧ z = .tup [x, y]
  | [], k, i, z, h => by simp [zipP] at h
  | _ :: _, [], i, z, h => by simp [zipP] at h
  | x :: xs, y :: ys, 0, z, h => by simp [zipP] at h; exact ⟨x, y, rfl, rfl, h.symm⟩
  | x :: xs, y :: ys, i + 1, z, h => by
    simp only [zipP, List.getElem?_cons_succ] at h
    obtain ⟨u, w, h1, h2, h3⟩ := zipP_get (i := i) h
    exact ⟨u, w, by simpa using h1, by simpa using h2, h3⟩
theorem yields_zip {K : PySem.W.Frag} {mg : Mg} {Z : Addr → Prop} {H : Hp} {a b : Addr} {xs ys : List V} {l k : List P} (h : CoL K Z H a xs) (r : RpL K mg Z H xs l) (h' : CoL K Z H b ys) (r' : RpL K mg Z H ys k) : Yields K mg (Itz K a b) (zipP l k) Z H := fun Z1 H1 c => by
  have h1 := (c.coL h).sq
  have r1 := r.move c
  have h2 := (c.coL h').sq
  have r2 := r'.move c
  refine ⟨⟨xs, ys, h1, h2, by rw [r1.len, r2.len, zipP_len]; omega⟩, fun i z hz => ?_⟩
  obtain ⟨x, y, hx, hy, rfl⟩ := zipP_get hz
  obtain ⟨v, q1, q2⟩ := r1.get' hx
  obtain ⟨w, q3, q4⟩ := r2.get' hy
  refine ⟨⟨xs, ys, v, w, h1, h2, q1, q3⟩, fun t H2 ⟨T, v', w', e1, e2, e3, e4, e5⟩ => .inr ⟨T, [v', w'], [x, y], e1, e2, e3, ?_, by simp, rfl⟩⟩
  have f1 := e4 xs h1
  have f2 := e5 ys h2
  rw [q1] at f1
  rw [q3] at f2
  cases f1; cases f2
  exact .cons q2 (.cons q4 .nil)
theorem yields_zipT {K : PySem.W.Frag} {mg : Mg} {Z : Addr → Prop} {H : Hp} {a b : Addr} {xs ys : List V} {l k : List P} (h : CoT K Z H a xs) (r : RpL K mg Z H xs l) (h' : CoT K Z H b ys) (r' : RpL K mg Z H ys k) : Yields K mg (RZ.ItzT K a b) (zipP l k) Z H := fun Z1 H1 c => by
  have h1 := (c.coT h).sq
  have r1 := r.move c
  have h2 := (c.coT h').sq
  have r2 := r'.move c
  refine ⟨⟨xs, ys, h1, h2, by rw [r1.len, r2.len, zipP_len]; omega⟩, fun i z hz => ?_⟩
  obtain ⟨x, y, hx, hy, rfl⟩ := zipP_get hz
  obtain ⟨v, q1, q2⟩ := r1.get' hx
  obtain ⟨w, q3, q4⟩ := r2.get' hy
  refine ⟨⟨xs, ys, v, w, h1, h2, q1, q3⟩, fun t H2 ⟨T, v', w', e1, e2, e3, e4, e5⟩ => .inr ⟨T, [v', w'], [x, y], e1, e2, e3, ?_, by simp, rfl⟩⟩
  have f1 := e4 xs h1
  have f2 := e5 ys h2
  rw [q1] at f1
  rw [q3] at f2
  cases f1; cases f2
  exact .cons q2 (.cons q4 .nil)
def zipItems (x y : P) : Option (List P) :=
  match asL x, asL y with
  | some l, some k => some (zipP l k)
  | _, _ => match asT x, asT y with
    | some l, some k => some (zipP l k)
    | _, _ => none
theorem zipItems_ok {x y : P} {z : List P} (h : zipItems x y = some z) : (∃ l k, asL x = some l ∧ asL y = some k ∧ z = zipP l k) ∨ ∃ l k, asT x = some l ∧ asT y = some k ∧ z = zipP l k := by
  unfold zipItems at h
  cases hx : asL x <;> cases hy : asL y <;> cases hx' : asT x <;> cases hy' : asT y <;> simp only [hx, hy, hx', hy'] at h <;> cases h <;> simp
def fZip (fs : F (List Wv)) : F (List P) := bindF fs fun ws => match ws with
  | [.p x, .p y] => optF (zipItems x y)
  | _ => failF
end
section
variable {X : Cx} {W : WX} {tg a b e : Expr} {fa fb : F Wv} {fs : F (List Wv)} {pos p tpos : Pos} {elts : List Expr} {kk : Nat}
theorem si_zip (hg : Gl X "zip") (hm : X.mg "zip" = none) (ha : SA X W [a, b] fs) (hs : starEach [a, b] X.env = (false, eval a X.env) :: starEach [b] X.env) (hpl : (backTo pos (starEach [b] X.env)).any (·.1) = false) :
    SI X W (.Tuple elts kk tpos) (.Call (.Name "zip" p) [a, b] [] pos) (fZip fs) := by
  refine ⟨fun pins s0 σ H R I ⟨B, Z, m, ρ, S, r, S', s, v, eq, k⟩ => (RZ.pi_zipA hg hm ha hs hpl).run pins s0 σ H R I ?_⟩
  refine tG_bind s v eq k fun Z1 m1 H1 S2 w u e1 s1 v1 ra eq1 k1 => ?_
  split at eq1
  · rename_i x y
    cases ra with
    | cons r t =>
      cases t with
      | cons r2 t =>
        cases t
        cases r with
        | p r =>
          cases r2 with
          | p r2 =>
            cases hz : zipItems x y with
            | none => simp [optF, hz] at eq1
            | some z =>
              have e9 : optF (zipItems x y) ρ S2 = some (.ok z, S2) := by simp [optF, hz]
              rw [e9] at eq1
              cases eq1
              rcases zipItems_ok hz with ⟨l, k, hl, hk, rfl⟩ | ⟨l, k, hl, hk, rfl⟩
              · obtain ⟨c, xs, rfl, h1, h2, h3⟩ := r.coL hl
                obtain ⟨d, ys, rfl, h4, h5, h6⟩ := r2.coL hk
                exact ⟨c, d, xs, ys, rfl, .inl ⟨h1.sq, h4.sq, k1.fin s1 ⟨by rw [zipP_len]; omega, yields_zip h1 h2 h4 h5⟩⟩⟩
              · obtain ⟨c, xs, rfl, h1, h2, h3⟩ := r.coT hl
                obtain ⟨d, ys, rfl, h4, h5, h6⟩ := r2.coT hk
                exact ⟨c, d, xs, ys, rfl, .inr ⟨h1.sq, h4.sq, k1.fin s1 ⟨by rw [zipP_len]; omega, yields_zipT h1 h2 h4 h5⟩⟩⟩
  · cases eq1
end

/-! ### for -/
def forS (g : FG) (f : FS) : List P → FS
  | [] => skipS
  | x :: r => fun ρ S => match g (.p x) ρ S with
    | none => none
    | some ρ1 => match f ρ1 S with
      | some (.go .nx ρ2, S2) => forS g f r ρ2 S2
      | some (.go .cont ρ2, S2) => forS g f r ρ2 S2
      | some (.go .brk ρ2, S2) => some (.go .nx ρ2, S2)
      | q => q
/-- a state on the way from (Z, m, H), with what is left to do -/
def LoopAt (X : Cx) (B Z : Addr → Prop) (m : List Addr) (H : Hp) (rest : Vars → List Ob → Prop) (σ' : L2.St) (H' : Hp) : Prop :=
  ∃ Z' m' ρ' S', Ext B Z m H Z' m' H' ∧ SOk X.K X.gl B Z' m' H' S' ∧ EnvOk X.K X.gl Z' m' H' σ' ρ' ∧ rest ρ' S'
def fFor (fi : F (List P)) (g : FG) (f : FS) : FS := bindS fi fun l => forS g f l
section
variable {X : Cx} {W : WX} {B Z Z1 : Addr → Prop} {m m1 : List Addr} {H H1 H2 : Hp} {S S' : List Ob} {v : V} {x : P}
/-- an item has come -/
theorem yld_ok (s : SOk X.K X.gl B Z m H S) (h : (H2 = H ∧ Rp X.K X.gl Z H v x) ∨ ∃ T us ps, v = .ref T ∧ H T = none ∧ H2 = upd H T (.tup us) ∧ RpL X.K X.gl Z H us ps ∧ ps.length ≤ 2 ∧ x = .tup ps) :
    Ext B Z m H Z m H2 ∧ SOk X.K X.gl B Z m H2 S ∧ Rp X.K X.gl Z H2 v x := by
  rcases h with ⟨rfl, r⟩ | ⟨T, us, ps, rfl, hT, rfl, r, hl, rfl⟩
  · exact ⟨Ext.refl, s, r⟩
  · exact ⟨ext_new hT, s.new hT, new_tup s hT (Nat.le_trans hl (by decide)) r⟩
theorem ss_for {tg iter : Expr} {body : List Stmt} {fi : F (List P)} {g : FG} {is : List Nat} {f : FS} {pos : Pos} (hp : PassesOwn (model X.prog X.w) X.A X.env X.xe) (hc : X.calm = true) (hi : SI X W tg iter fi) (hg : SG X tg is g) (hb : SSs X W body f)
    (hs : ∀ x, foldedSetIterable iter X.env x = pure x) : SS X W (.For tg iter body [] pos) (fFor fi g f) := by
  refine ps_weak (ps_for hp hc hi hg hb hs) fun D σ H ⟨B, Z, m, ρ, S, r, S', s, v, eq, k⟩ => ?_
  refine tS_bind s v eq k fun Z1 m1 H1 S1 l J e1 s1 v1 ra eq1 k1 => ?_
  obtain ⟨hl, ya⟩ := ra
  refine ⟨fun i n σ' H' => n = l.length - i ∧ i ≤ l.length ∧ LoopAt X B Z1 m1 H1 (fun ρ' S2 => forS g f (l.drop i) ρ' S2 = some (r, S')) σ' H', ⟨l.length, by simp, Nat.zero_le _, Z1, m1, ρ, S1, Ext.refl, s1, v1, by simpa using eq1⟩, ?_⟩
  rintro i n σ' H' ⟨rfl, hi', Z', m', ρ', S2, e2, s2, v2, eq2⟩
  obtain ⟨hst, hgo⟩ := ya Z' H' e2.cold
  by_cases hlt : i < l.length
  · right
    have hx : l[i]? = some l[i] := List.getElem?_eq_getElem hlt
    obtain ⟨g1, g2⟩ := hgo i l[i] hx
    rw [List.drop_eq_getElem_cons hlt] at eq2
    unfold forS at eq2
    refine ⟨g1, LoopAt X B Z1 m1 H1 (fun ρ' S2 => forS g f (l.drop (i + 1)) ρ' S2 = some (r, S')), fun σ3 H3 h3 => ⟨l.length - (i + 1), by omega, rfl, hlt, h3⟩, fun u H2 hy => ?_⟩
    · obtain ⟨e3, s3, r3⟩ := yld_ok (X := X) s2 (g2 u H2 hy)
      cases hg1 : g (.p l[i]) ρ' S2 with
      | none => simp only [hg1] at eq2; cases eq2
      | some ρ1 =>
        simp only [hg1] at eq2
        refine ⟨B, Z', m', ρ', S2, .p l[i], ρ1, s3, v2.move e3, .p r3, hg1, fun σ3 v3 _ => ?_⟩
        cases hb1 : f ρ1 S2 with
        | none => simp only [hb1] at eq2; cases eq2
        | some q =>
          obtain ⟨r1, S3⟩ := q
          refine ⟨B, Z', m', ρ1, S2, r1, S3, s3, v3, hb1, fun Z4 m4 H4 e4 s4 => ?_⟩
          have e5 : Ext B Z1 m1 H1 Z4 m4 H4 := (e2.trans e3).trans e4
          simp only [hb1] at eq2
          match r1, eq2 with
          | .go .nx ρ2, eq2 => exact fun σ4 v4 => ⟨Z4, m4, ρ2, S3, e5, s4, v4, eq2⟩
          | .go .cont ρ2, eq2 => exact fun σ4 v4 => ⟨Z4, m4, ρ2, S3, e5, s4, v4, eq2⟩
          | .go .brk ρ2, eq2 => cases eq2; exact fun σ4 v4 => k1 Z4 m4 H4 e5 s4 σ4 v4
          | .go (.ret w) ρ2, eq2 => cases eq2; exact fun u ru => k1 Z4 m4 H4 e5 s4 u ru
          | .exc c fs ρ2, eq2 => cases eq2; exact fun cls d σ4 v4 x => k1 Z4 m4 H4 e5 s4 cls d σ4 v4 x
  · left
    have hie : i = l.length := by omega
    subst hie
    rw [List.drop_length] at eq2
    cases eq2
    exact ⟨hst, k1 Z' m' H' e2 s2 σ' v2⟩

/-! ### while -/
def whileS (ft : F Bool) (f : FS) : Nat → FS
  | 0 => fun _ _ => none
  | n + 1 => bindS ft fun b => if b = true then (fun ρ S => match f ρ S with
      | some (.go .nx ρ2, S2) => whileS ft f n ρ2 S2
      | some (.go .cont ρ2, S2) => whileS ft f n ρ2 S2
      | some (.go .brk ρ2, S2) => some (.go .nx ρ2, S2)
      | q => q) else skipS
theorem ss_while {c : Expr} {body : List Stmt} {ft : F Bool} {f : FS} {n : Nat} {pos : Pos} (hp : PassesOwn (model X.prog X.w) X.A X.env X.xe) (hc : ST X W c ft) (hb : SSs X W body f) : SS X W (.While c body [] pos) (whileS ft f n) := by
  refine ps_weak (ps_while hp hc hb) fun D σ H ⟨B, Z, m, ρ, S, r, S', s, v, eq, k⟩ => ?_
  refine ⟨fun n σ' H' => ∃ Z' m' ρ' S2, Ext B Z m H Z' m' H' ∧ SOk X.K X.gl B Z' m' H' S2 ∧ EnvOk X.K X.gl Z' m' H' σ' ρ' ∧ whileS ft f n ρ' S2 = some (r, S'), ⟨n, Z, m, ρ, S, Ext.refl, s, v, eq⟩, ?_⟩
  rintro n σ' H' ⟨Z', m', ρ', S2, e2, s2, v2, eq2⟩
  cases n with
  | zero => cases eq2
  | succ n =>
    unfold whileS at eq2
    refine tS_bind (D := D) s2 v2 eq2 (k.move e2) fun Z3 m3 H3 S3 b b' e3 s3 v3 rb eq3 k3 => ?_
    cases rb
    cases b with
    | false =>
      cases eq3
      exact iteF (k3.fin s3 σ' v3)
    | true =>
      simp only [if_true] at eq3
      refine iteT ⟨_, fun σ4 H4 h4 => ⟨n, Nat.lt_succ_self n, h4⟩, ?_⟩
      cases hb1 : f ρ' S3 with
      | none => simp only [hb1] at eq3; cases eq3
      | some q =>
        obtain ⟨r1, S4⟩ := q
        refine ⟨B, Z3, m3, ρ', S3, r1, S4, s3, v3, hb1, fun Z4 m4 H4 e4 s4 => ?_⟩
        have e5 : Ext B Z m H Z4 m4 H4 := (e2.trans e3).trans e4
        simp only [hb1] at eq3
        match r1, eq3 with
        | .go .nx ρ2, eq3 => exact fun σ4 v4 => ⟨Z4, m4, ρ2, S4, e5, s4, v4, eq3⟩
        | .go .cont ρ2, eq3 => exact fun σ4 v4 => ⟨Z4, m4, ρ2, S4, e5, s4, v4, eq3⟩
        | .go .brk ρ2, eq3 => cases eq3; exact fun σ4 v4 => k Z4 m4 H4 e5 s4 σ4 v4
        | .go (.ret w) ρ2, eq3 => cases eq3; exact fun u ru => k Z4 m4 H4 e5 s4 u ru
        | .exc c fs ρ2, eq3 => cases eq3; exact fun cls d σ4 v4 x => k Z4 m4 H4 e5 s4 cls d σ4 v4 x
end
end Wr

set_option maxHeartbeats 4000000
/-! A8: comprehensions over data. -/
namespace Wr
open PySem PySem.Spec PyProof.Rows L2

def wipeV (ρ : Vars) : List Nat → Vars
  | [] => ρ
  | v :: vs => (wipeV ρ vs).set v none
theorem wipe_in {σ : L2.St} {i : Nat} (hl : i < σ.length) : ∀ {vs : List Nat}, i ∈ vs → (wipe σ vs)[i]? = some none
  | v :: vs, h => by
    by_cases e : v = i
    · subst e
      show ((wipe σ vs).set v none)[v]? = _
      rw [List.getElem?_set_self (by rw [wipe_length]; exact hl)]
    · show ((wipe σ vs).set v none)[i]? = _
      rw [List.getElem?_set_ne e]
      exact wipe_in hl ((List.mem_cons.mp h).resolve_left (fun q => e q.symm))
theorem wipe_agree {is vs : List Nat} {σ σ' : L2.St} (h : Agree is (wipe σ vs) σ') (his : ∀ j ∈ is, j ∈ vs) : wipe σ' vs = wipe σ vs := by
  have hl : σ'.length = σ.length := by rw [h.1, wipe_length]
  refine List.ext_getElem? fun j => ?_
  by_cases hj : j ∈ vs
  · by_cases hlt : j < σ.length
    · rw [wipe_in (by rw [hl]; exact hlt) hj, wipe_in hlt hj]
    · rw [List.getElem?_eq_none (by rw [wipe_length, hl]; omega), List.getElem?_eq_none (by rw [wipe_length]; omega)]
  · rw [wipe_out hj, h.2 j (fun q => hj (his j q))]
theorem wipeV_len (ρ : Vars) : ∀ vs : List Nat, (wipeV ρ vs).length = ρ.length
  | [] => rfl
  | v :: vs => by unfold wipeV; rw [List.length_set, wipeV_len ρ vs]
section
variable {K : PySem.W.Frag} {mg : Mg} {B B2 Z Z' Zc Z2 : Addr → Prop} {m m' m2 : List Addr} {H H' H2 : Hp} {S S' : List Ob} {D : Addr}
theorem EnvOk.wipe {σ : L2.St} {ρ : Vars} (h : EnvOk K mg Z m H σ ρ) : ∀ vs : List Nat, EnvOk K mg Z m H (L2.wipe σ vs) (wipeV ρ vs)
  | [] => h
  | v :: vs => by
    have ih := EnvOk.wipe h vs
    refine ⟨by show ((wipeV ρ vs).set v none).length = ((L2.wipe σ vs).set v none).length; rw [List.length_set, List.length_set]; exact ih.1, fun j w hj => ?_⟩
    have hj' : ((wipeV ρ vs).set v none)[j]? = some (some w) := hj
    by_cases e : v = j
    · subst e
      by_cases hl : v < (wipeV ρ vs).length
      · rw [List.getElem?_set_self hl] at hj'
        cases hj'
      · rw [List.getElem?_eq_none (by simpa using hl)] at hj'
        cases hj'
    · rw [List.getElem?_set_ne e] at hj'
      obtain ⟨u, h1, h2⟩ := ih.2 j w hj'
      refine ⟨u, ?_, h2⟩
      show ((L2.wipe σ vs).set v none)[j]? = _
      rw [List.getElem?_set_ne e]
      exact h1
abbrev Zp (Z : Addr → Prop) (D : Addr) : Addr → Prop := fun a => Z a ∨ a = D
abbrev Zm (Z : Addr → Prop) (D : Addr) : Addr → Prop := fun a => Z a ∧ a ≠ D
theorem Ext.transB (a : Ext B Z m H Zc m' H') (b : Ext B2 Zc m' H' Z2 m2 H2) (hb : ∀ x, B x → B2 x) : Ext B Z m H Z2 m2 H2 :=
  a.trans ⟨b.pre, b.new, b.mnew, fun x o h c nt => b.same x o h (c.imp id (hb x)) nt, b.dom⟩
theorem enterD {o : HO} (s : SOk K mg B Z m H S) (hD : H D = none) (nt : NT o) : Ext B Z m H (Zp Z D) m (upd H D o) ∧ SOk K mg (Zp B D) (Zp Z D) m (upd H D o) S := by
  have e : Ext B Z m H (Zp Z D) m (upd H D o) := ⟨⟨[], by simp⟩, fun a z => z.elim .inl fun q => .inr (q ▸ noc hD), fun _ z => .inl z, fun a u h _ _ => by rw [upd_ne (ne_of_none h hD)]; exact h, fun a z => dom_new hD a z⟩
  refine ⟨e, s.len, s.nd, fun i a o h1 h2 h3 => .inl (s.hot i a o h1 h2 h3), fun a z => z.imp (s.base a) id, fun a ha z => z.elim (s.sep a ha) fun q => noc hD (q ▸ s.mdom a ha), fun a ha => e.dom a (s.mdom a ha), fun a z => ?_, fun i a o' h1 h2 h3 => ?_, s.tabs.new hD nt⟩
  · rcases z with z | z
    · exact e.dom a (s.dom a z)
    · exact ⟨o, by rw [z, upd_same], nt⟩
  · obtain ⟨h, q1, q2, q3⟩ := s.obj i a o' h1 h2 h3
    exact ⟨h, by rw [upd_ne (ne_of_none q1 hD)]; exact q1, q2, q3.move e⟩
theorem exitD (s : SOk K mg (Zp B D) Zc m' H' S') (e : Ext B Z m H Zc m' H') (hD : H D = none) (hB : ∀ a, B a → Oc H a) :
    Ext B Z m H (Zm Zc D) m' H' ∧ SOk K mg B (Zm Zc D) m' H' S' ∧ Cold Zc H' (Zm Zc D) H' := by
  have c : Cold Zc H' (Zm Zc D) H' := ⟨fun _ _ h _ _ => h, fun _ z => .inl z.1⟩
  have nb : ∀ a, B a → a ≠ D := fun a z q => noc hD (q ▸ hB a z)
  have e0 : Ext B Zc m' H' (Zm Zc D) m' H' := ⟨⟨[], by simp⟩, fun _ z => .inl z.1, fun _ z => .inl z, fun _ _ h _ _ => h, fun _ z => z⟩
  refine ⟨⟨e.pre, fun a z => e.new a z.1, e.mnew, e.same, e.dom⟩, ⟨s.len, s.nd, fun i a o h1 h2 h3 => ⟨s.hot i a o h1 h2 h3, fun q => s.sep a (List.mem_of_getElem? h1) (.inr q)⟩, fun a z => ⟨s.base a (.inl z), nb a z⟩, fun a ha z => s.sep a ha (.inl z), s.mdom, fun a z => s.dom a z.1, fun i a o h1 h2 h3 => ?_, s.tabs⟩, c⟩
  obtain ⟨h, q1, q2, q3⟩ := s.obj i a o h1 h2 h3
  exact ⟨h, q1, q2, q3.move e0⟩
/-- the list at D is written -/
theorem writeD {o u : HO} (s : SOk K mg (Zp B D) Zc m' H' S') (e : Ext B Z m H Zc m' H') (hD : H D = none) (hu : H' D = some u) (pu : Pl u) (no : NT o := by (first | assumption | exact nt_lst | exact nt_tup | exact nt_dK | exact nt_dT | exact nt_ins | exact nt_own | exact nt_sx | exact nt_xd | (intro _ e; cases e))) : Ext B Z m H Zc m' (upd H' D o) ∧ SOk K mg (Zp B D) Zc m' (upd H' D o) S' ∧ Cold Zc H' Zc (upd H' D o) := by
  have zD : Zc D := s.base D (.inr rfl)
  have c : Ext (fun _ => False) Zc m' H' Zc m' (upd H' D o) := ⟨⟨[], by simp⟩, fun _ z => .inl z, fun _ z => .inl z, fun a u h hb _ => by
    have na : a ≠ D := fun q => by rcases hb with z | z; exact z (q ▸ zD); exact z
    rw [upd_ne na]; exact h, fun a z => dom_upd no a z⟩
  refine ⟨⟨e.pre, e.new, e.mnew, fun a u h hb nt => ?_, fun a z => dom_upd no a (e.dom a z)⟩, s.stay (fun a u h ha _ => ?_) c (s.tabs.upd hu pu no), c.cold⟩
  · rw [upd_ne (ne_of_none h hD)]
    exact e.same a u h hb nt
  · rw [upd_ne fun q => s.sep a ha (.inr q)]
    exact h
end

section
variable {K : PySem.W.Frag} {mg : Mg} {B Z Z' Zc : Addr → Prop} {m m' : List Addr} {H H' : Hp} {S' : List Ob} {D : Addr}
theorem RwF.grow {r : List Addr} : ∀ {vs : List (Str × V)} {ps : List (Str × Wv)}, RwF K mg Z m H vs ps → RwF K mg Z (m ++ r) H vs ps
  | _, _, .nil => .nil
  | _, _, .cons (.p q) t => .cons (.p q) (RwF.grow t)
  | _, _, .cons (.loc (a := a) (n := n) h) t => .cons (.loc (by
      obtain ⟨hl, _⟩ := List.getElem?_eq_some_iff.mp h
      rw [List.getElem?_append_left hl]; exact h)) (RwF.grow t)
theorem RO.grow {r : List Addr} {h : HO} {o : Ob} (q : RO K mg Z m H h o) : RO K mg Z (m ++ r) H h o := by
  cases q with
  | lst hl q => exact .lst hl q
  | dK q => exact .dK q
  | dT q => exact .dT q
  | ins h q => exact .ins h q.grow
/-- the list at D becomes a place of the store -/
theorem takeD {us : List V} {l : List P} (s : SOk K mg (Zp B D) Zc m' H' S') (e : Ext B Z m H Zc m' H') (hD : H D = none) (hB : ∀ a, B a → Oc H a) (hl : l.length ≤ sizeLine) (h : H' D = some (.lst us)) (r : RpL K mg Zc H' us l) :
    Ext B Z m H Zc (m' ++ [D]) H' ∧ SOk K mg B Zc (m' ++ [D]) H' (S' ++ [.lst l]) := by
  have nb : ∀ a, B a → a ≠ D := fun a z q => noc hD (q ▸ hB a z)
  have hDm : D ∉ m' := fun q => s.sep D q (.inr rfl)
  have cases_ : ∀ (i : Nat) (a : Addr) (o : Ob), (m' ++ [D])[i]? = some a → (S' ++ [.lst l])[i]? = some o → (m'[i]? = some a ∧ S'[i]? = some o) ∨ (a = D ∧ o = .lst l) := fun i a o h1 h2 => by
    by_cases hi : i < m'.length
    · rw [List.getElem?_append_left hi] at h1
      rw [List.getElem?_append_left (by rw [← s.len]; exact hi)] at h2
      exact .inl ⟨h1, h2⟩
    · have hi' : i = m'.length := by
        have := (List.getElem?_eq_some_iff.mp h1).1
        rw [List.length_append, List.length_singleton] at this
        omega
      subst hi'
      rw [List.getElem?_append_right (Nat.le_refl _), Nat.sub_self] at h1
      rw [List.getElem?_append_right (by rw [s.len]; exact Nat.le_refl _), s.len, Nat.sub_self] at h2
      cases h1; cases h2
      exact .inr ⟨rfl, rfl⟩
  refine ⟨⟨by obtain ⟨r, hr⟩ := e.pre; exact ⟨r ++ [D], by rw [hr, List.append_assoc]⟩, e.new, fun a ha => ?_, e.same, e.dom⟩, ⟨by rw [List.length_append, List.length_append, s.len]; rfl, nd_snoc s.nd hDm, fun i a o h1 h2 h3 => ?_, fun a z => s.base a (.inl z), fun a ha z => ?_, fun a ha => ?_, s.dom, fun i a o h1 h2 h3 => ?_, s.tabs⟩⟩
  · rcases List.mem_append.mp ha with q | q
    · exact e.mnew a q
    · rw [List.mem_singleton.mp q]; exact .inr (noc hD)
  · rcases cases_ i a o h1 h2 with ⟨q1, q2⟩ | ⟨q1, _⟩
    · exact s.hot i a o q1 q2 h3
    · rw [q1]; exact s.base D (.inr rfl)
  · rcases List.mem_append.mp ha with q | q
    · exact s.sep a q (.inl z)
    · exact nb a z (List.mem_singleton.mp q)
  · rcases List.mem_append.mp ha with q | q
    · exact s.mdom a q
    · exact ⟨_, by rw [List.mem_singleton.mp q, h], nt_lst⟩
  · rcases cases_ i a o h1 h2 with ⟨q1, q2⟩ | ⟨q1, q2⟩
    · obtain ⟨ho, z1, z2, z3⟩ := s.obj i a o q1 q2 h3
      exact ⟨ho, z1, z2, z3.grow⟩
    · rw [q1, q2]
      exact ⟨_, h, nt_lst, .lst hl r⟩
end

/-! ### the tests of a clause -/
def STs (X : Cx) (W : WX) (es : List Expr) (f : F Bool) : Prop := PTs X es (tG relB X W f)
theorem sts_nil {X : Cx} {W : WX} : STs X W [] (retF true) := by
  refine ⟨fun pins s0 σ H Q I ⟨B, Z, m, ρ, S, r, S', s, v, eq, k⟩ => pts_nil.run pins s0 σ H Q I ?_⟩
  cases eq
  exact k.fin s rfl
theorem sts_one {X : Cx} {W : WX} {c : Expr} {f : F Bool} (h : ST X W c f) : STs X W [c] f := pts_one h

/-- nothing is wished of errors: a block lets none out -/
abbrev W0 : WX := fun _ _ _ _ => False
/-! ### [e for x in xs if t] -/
/-- one clause over the items, the list so far -/
def compP (g : FG) (ft : F Bool) (fe : F Wv) (ρ : Vars) : List P → List P → List Ob → Option (List P × List Ob)
  | [], acc, S => some (acc, S)
  | x :: r, acc, S => match g (.p x) ρ S with
    | none => none
    | some ρ1 => match ft ρ1 S with
      | some (.ok true, S1) => match fe ρ1 S1 with
        | some (.ok (.p y), S2) => compP g ft fe ρ r (acc ++ [y]) S2
        | _ => none
      | some (.ok false, S1) => compP g ft fe ρ r acc S1
      | _ => none
def fLc (own : Bool) (vs : List Nat) (fi : F (List P)) (g : FG) (ft : F Bool) (fe : F Wv) : F Wv := bindF fi fun l => fun ρ S =>
  match compP g ft fe (wipeV ρ vs) l [] S with
  | some (l', S') => newL own l' S'
  | none => none
/-- the comprehension on its way: its list at D -/
def CAt (X : Cx) (B Z : Addr → Prop) (m : List Addr) (H : Hp) (D : Addr) (σ : L2.St) (ρ : Vars) (i : Nat) (rest : List P → List Ob → Prop) (H' : Hp) : Prop :=
  ∃ Zc m' S' acc us, Ext B Z m H Zc m' H' ∧ SOk X.K X.gl (Zp B D) Zc m' H' S' ∧ H' D = some (.lst us) ∧ RpL X.K X.gl Zc H' us acc ∧ acc.length ≤ i ∧ EnvOk X.K X.gl Zc m' H' σ ρ ∧ rest acc S'
section
variable {X : Cx} {W : WX} {elt tg iter : Expr} {ifs : List Expr} {scope : Scope} {own : Bool} {nms : List (Str × Nat)} {pos : Pos} {fi : F (List P)} {g : FG} {is : List Nat} {ft : F Bool} {fe : F Wv}
theorem lc_read {σ : L2.St} {H : Hp} {Q : VK} {vs : List Nat} (his : ∀ j ∈ is, j ∈ vs) (h : tG relW X W (fLc own vs fi g ft fe) σ H Q) : tLc (tG relI X W fi) (tGt X is g) (tG relB X W0 ft) (tG relW X W0 fe) vs σ H Q := by
  obtain ⟨B, Z, m, ρ, S, r, Sf, s, v, eq, k⟩ := h
  refine tG_bind s v eq k fun Z1 m1 H1 S1 l J e1 s1 v1 ra eq1 k1 => ?_
  obtain ⟨hl, ya⟩ := ra
  intro D hD
  cases hc : compP g ft fe (wipeV ρ vs) l [] S1 with
  | none => simp only [hc] at eq1; cases eq1
  | some q =>
    obtain ⟨l', S2⟩ := q
    simp only [hc] at eq1
    obtain ⟨i1, i2⟩ := enterD (K := X.K) (mg := X.gl) (o := .lst []) s1 hD nt_lst
    refine ⟨fun i n H' => n = l.length - i ∧ i ≤ l.length ∧ CAt X B Z1 m1 H1 D (wipe σ vs) (wipeV ρ vs) i (fun acc S' => compP g ft fe (wipeV ρ vs) (l.drop i) acc S' = some (l', S2)) H',
      ⟨l.length, by simp, Nat.zero_le _, _, m1, S1, [], [], i1, i2, upd_same, .nil, Nat.le_refl _, (v1.wipe vs).move i1, by simpa using hc⟩, ?_⟩
    rintro i n H' ⟨rfl, hi, Zc, m', S', acc, us, e2, s2, hDl, rl, hacc, v2, eq2⟩
    obtain ⟨hst, hgo⟩ := ya Zc H' e2.cold
    by_cases hlt : i < l.length
    · right
      have hx : l[i]? = some l[i] := List.getElem?_eq_getElem hlt
      obtain ⟨g1, g2⟩ := hgo i l[i] hx
      rw [List.drop_eq_getElem_cons hlt] at eq2
      unfold compP at eq2
      refine ⟨g1, CAt X B Z1 m1 H1 D (wipe σ vs) (wipeV ρ vs) (i + 1) (fun acc S' => compP g ft fe (wipeV ρ vs) (l.drop (i + 1)) acc S' = some (l', S2)), fun H3 h3 => ⟨l.length - (i + 1), by omega, rfl, hlt, h3⟩, fun u H2 hy => ?_⟩
      obtain ⟨e3, s3, r3⟩ := yld_ok (X := X) s2 (g2 u H2 hy)
      cases hg1 : g (.p l[i]) (wipeV ρ vs) S' with
      | none => simp only [hg1] at eq2; cases eq2
      | some ρ1 =>
        simp only [hg1] at eq2
        refine ⟨Zp B D, Zc, m', wipeV ρ vs, S', .p l[i], ρ1, s3, v2.move e3, .p r3, hg1, fun σ3 v3 ag => ⟨wipe_agree ag his, ?_⟩⟩
        have hD3 : H2 D = some (.lst us) := e3.same D _ hDl (.inr (.inr rfl)) nt_lst
        have e13 : Ext B Z1 m1 H1 Zc m' H2 := e2.transB e3 fun _ z => .inl z
        have rl3 := rl.move e3.cold
        cases ht1 : ft ρ1 S' with
        | none => simp only [ht1] at eq2; cases eq2
        | some qt =>
          obtain ⟨rt, S3⟩ := qt
          simp only [ht1] at eq2
          refine ⟨Zp B D, Zc, m', ρ1, S', rt, S3, s3, v3, ht1, fun Z4 m4 H4 e4 s4 => ?_⟩
          have e14 := e13.transB e4 fun _ z => .inl z
          have hD4 : H4 D = some (.lst us) := e4.same D _ hD3 (.inr (.inr rfl)) nt_lst
          have rl4 := rl3.move e4.cold
          have w4 := ((v2.move e3).move e4)
          match rt, eq2 with
          | .ok false, eq2 =>
            intro b hb
            cases hb
            exact iteF ⟨Z4, m4, S3, acc, us, e14, s4, hD4, rl4, Nat.le_succ_of_le hacc, w4, eq2⟩
          | .ok true, eq2 =>
            intro b hb
            cases hb
            refine iteT ?_
            cases he1 : fe ρ1 S3 with
            | none => simp only [he1] at eq2; cases eq2
            | some qe =>
              obtain ⟨re, S5⟩ := qe
              simp only [he1] at eq2
              refine ⟨Zp B D, Z4, m4, ρ1, S3, re, S5, s4, v3.move e4, he1, fun Z5 m5 H5 e5 s5 => ?_⟩
              match re, eq2 with
              | .ok (.p y), eq2 =>
                intro w rw_
                cases rw_ with
                | p ry =>
                  have e15 := e14.transB e5 fun _ z => .inl z
                  have hD5 : H5 D = some (.lst us) := e5.same D _ hD4 (.inr (.inr rfl)) nt_lst
                  have rl5 := rl4.move e5.cold
                  refine ⟨us, hD5, by rw [rl5.len]; omega, ?_⟩
                  obtain ⟨f1, f2, f3⟩ := writeD (o := .lst (us ++ [w])) s5 e15 hD hD5 pl_lst
                  refine ⟨Z5, m5, S5, acc ++ [y], us ++ [w], f1, f2, upd_same, (rl5.app (.cons ry .nil)).move f3, by rw [List.length_append, List.length_singleton]; omega, ?_, eq2⟩
                  have w5 := w4.move e5
                  refine ⟨w5.1, fun j wj hj => ?_⟩
                  obtain ⟨u5, q1, q2⟩ := w5.2 j wj hj
                  refine ⟨u5, q1, ?_⟩
                  cases q2 with
                  | p q2 => exact .p (q2.move f3)
                  | loc q2 => exact .loc q2
              | .ok (.loc _), eq2 => simp at eq2
              | .exc _ _, eq2 => simp at eq2
          | .exc _ _, eq2 => simp at eq2
    · left
      have hie : i = l.length := by omega
      subst hie
      rw [List.drop_length] at eq2
      cases eq2
      refine ⟨hst, ?_⟩
      obtain ⟨x1, x2, x3⟩ := exitD s2 e2 hD fun a z => s1.dom a (s1.base a z)
      have nz : ¬ Zm Zc D D := fun z => z.2 rfl
      unfold newL at eq1
      have rl' : RpL X.K X.gl (Zm Zc D) H' us l' := rl.move x3
      cases own with
      | false =>
        cases eq1
        exact k1.fin' x1 x2 (.p (.lst hDl nz (by omega) rl'))
      | true =>
        cases eq1
        obtain ⟨y1, y2⟩ := takeD (l := l') s2 e2 hD (fun a z => s1.dom a (s1.base a z)) (by omega) hDl rl
        refine k1.fin' y1 y2 (.loc ?_)
        rw [← s2.len, List.getElem?_append_right (Nat.le_refl _), Nat.sub_self]
        rfl
theorem se_lc (hc : X.calm = true) (hN : X.N.Nodup) (hi : SI X W tg iter fi) (ok : BlkOk X.N X.env.scope scope nms) (his : ∀ j ∈ is, j ∈ nms.map (·.2))
    (hg : ∀ (s : Shared) (H : Hp) (C : Addr) (cl : List (Str × Addr)) (fp : List Addr), SG (X.blk s H scope (compEnvC scope cl C X.env) fp) tg is g)
    (ht : ∀ (s : Shared) (H : Hp) (C : Addr) (cl : List (Str × Addr)) (fp : List Addr), STs (X.blk s H scope (compEnvC scope cl C X.env) fp) W0 ifs ft)
    (he : ∀ (s : Shared) (H : Hp) (C : Addr) (cl : List (Str × Addr)) (fp : List Addr), SE (X.blk s H scope (compEnvC scope cl C X.env) fp) W0 elt fe)
    (hs : ∀ x, foldedSetIterable iter X.env x = pure x) : SE X W (.ListComp elt [⟨tg, iter, ifs, 0⟩] scope pos) (fLc own (nms.map (·.2)) fi g ft fe) :=
  pe_weak (pe_lc (g := tGt X is g) (tt := tG relB X W0 ft) (te := tG relW X W0 fe) hc hN hi ok hg ht he hs) fun _ _ _ h => lc_read his h
/-- y = [..], stored within the comprehension -/
theorem ss_setLc {i : Nat} {y : Str} {py spos : Pos} (hc : X.calm = true) (hN : X.N.Nodup) (hy : X.N[i]? = some y) (hyl : X.env.scope.names.lookup y = some .local)
    (hsw : swapsWith (.ListComp elt [⟨tg, iter, ifs, 0⟩] scope pos) (some (.Name y py)) spos.line X.env = pure true) (hi : SI X W tg iter fi) (ok : BlkOk X.N X.env.scope scope nms) (his : ∀ j ∈ is, j ∈ nms.map (·.2))
    (hg : ∀ (s : Shared) (H : Hp) (C : Addr) (cl : List (Str × Addr)) (fp : List Addr), SG (X.blk s H scope (compEnvC scope cl C X.env) fp) tg is g)
    (ht : ∀ (s : Shared) (H : Hp) (C : Addr) (cl : List (Str × Addr)) (fp : List Addr), STs (X.blk s H scope (compEnvC scope cl C X.env) fp) W0 ifs ft)
    (he : ∀ (s : Shared) (H : Hp) (C : Addr) (cl : List (Str × Addr)) (fp : List Addr), SE (X.blk s H scope (compEnvC scope cl C X.env) fp) W0 elt fe)
    (hs : ∀ x, foldedSetIterable iter X.env x = pure x) : SS X W (.Assign [.Name y py] (.ListComp elt [⟨tg, iter, ifs, 0⟩] scope pos) spos) (fAsg (fLc own (nms.map (·.2)) fi g ft fe) (gNm i)) := by
  refine ps_weak (ps_setLc (g := tGt X is g) (tt := tG relB X W0 ft) (te := tG relW X W0 fe) hc hN hy hyl hsw hi ok hg ht he hs) fun D σ H h => ?_
  obtain ⟨B, Z, m, ρ, S, r, S', s, v, eq, k⟩ := h
  have : tG relW X W (fLc own (nms.map (·.2)) fi g ft fe) σ H (fun x H1 => gName i x σ H1 D.nx) := by
    refine tS_bind s v eq k fun Z1 m1 H1 S1 a b e1 s1 v1 ra eq1 k1 => ?_
    unfold gNm at eq1
    split at eq1
    · cases eq1
      exact k1.fin s1 _ (v1.set ra)
    · cases eq1
  exact lc_read his this
end
end Wr

set_option maxHeartbeats 4000000
/-! A9: changes of lists and dicts of the store; two targets at once. -/
namespace Wr
open PySem PySem.Spec PyProof.Rows L2

section
variable {K : PySem.W.Frag} {mg : Mg} {B Z Z' : Addr → Prop} {m m' : List Addr} {H H' : Hp} {S : List Ob}
theorem SOk.lstAt (s : SOk K mg B Z m H S) {n : Nat} {a : Addr} {l : List P} (hn : m[n]? = some a) (hl : S[n]? = some (.lst l)) : ∃ xs, H a = some (.lst xs) ∧ RpL K mg Z H xs l ∧ l.length ≤ sizeLine := by
  obtain ⟨ho, e1, _, r⟩ := s.obj n a _ hn hl (by intro z; cases z)
  cases r with
  | lst hz r => exact ⟨_, e1, r, hz⟩
theorem SOk.dKAt (s : SOk K mg B Z m H S) {n : Nat} {a : Addr} {l : List (Key × P)} (hn : m[n]? = some a) (hl : S[n]? = some (.dK l)) : ∃ xs, H a = some (.dK xs) ∧ RpK K mg Z H xs l := by
  obtain ⟨ho, e1, _, r⟩ := s.obj n a _ hn hl (by intro z; cases z)
  cases r with
  | dK r => exact ⟨_, e1, r⟩
theorem SOk.dTAt (s : SOk K mg B Z m H S) {n : Nat} {a : Addr} {l : List (List Key × P)} (hn : m[n]? = some a) (hl : S[n]? = some (.dT l)) : ∃ xs, H a = some (.dT xs) ∧ RpT K mg Z H xs l := by
  obtain ⟨ho, e1, _, r⟩ := s.obj n a _ hn hl (by intro z; cases z)
  cases r with
  | dT r => exact ⟨_, e1, r⟩
/-- what is written at a place of the store -/
theorem SOk.write (s : SOk K mg B Z m H S) {n : Nat} {a : Addr} {o : HO} {ob ob0 : Ob} (hn : m[n]? = some a) (hl : S[n]? = some ob0) (h0 : ob0 ≠ .gone) (nt : NT o) (r : RO K mg Z m H o ob) : Ext B Z m H Z m (upd H a o) ∧ SOk K mg B Z m (upd H a o) (S.set n ob) :=
  ⟨s.ext_set hn hl h0 nt, s.put hn hl h0 nt r⟩
end
/-! ### xs.append(e), xs.pop(), xs.extend(e) -/
/-- the list at this place -/
def lstOf (o : Wv) (S : List Ob) : Option (Nat × List P) := match o with
  | .loc n => match S[n]? with
    | some (.lst l) => some (n, l)
    | _ => none
  | .p _ => none
def guardL (f : F Wv) (o : Wv) : F Wv := fun ρ S => match lstOf o S with
  | some _ => f ρ S
  | none => none
def fApp (fo fe : F Wv) : F Wv := bindF fo fun o => guardL (bindF fe fun e => fun _ S => match lstOf o S, e with
  | some (n, l), .p y => if l.length < sizeLine then some (.ok (.p .non), S.set n (.lst (l ++ [y]))) else none
  | _, _ => none) o
def fPop (fo : F Wv) : F Wv := bindF fo fun o => fun _ S => match lstOf o S with
  | some (n, l) => match l[l.length - 1]? with
    | some y => some (.ok (.p y), S.set n (.lst l.dropLast))
    | none => none
  | none => none
def fExt (fo fe : F Wv) : F Wv := bindF fo fun o => guardL (bindF fe fun e => fun _ S => match lstOf o S, view e S with
  | some (n, l), some (.lst k) => if l.length + k.length ≤ sizeLine then some (.ok (.p .non), S.set n (.lst (l ++ k))) else none
  | _, _ => none) o
theorem lstOf_ok {o : Wv} {S : List Ob} {n : Nat} {l : List P} (h : lstOf o S = some (n, l)) : o = .loc n ∧ S[n]? = some (.lst l) := by
  cases o with
  | p x => cases h
  | loc j =>
    unfold lstOf at h
    simp only at h
    split at h
    · rename_i l' hl
      cases h
      exact ⟨rfl, hl⟩
    · cases h
theorem RpL.dropLast {K : PySem.W.Frag} {mg : Mg} {Z : Addr → Prop} {H : Hp} {vs : List V} {l : List P} (r : RpL K mg Z H vs l) : RpL K mg Z H vs.dropLast l.dropLast := by
  rw [List.dropLast_eq_take, List.dropLast_eq_take, r.len]
  exact r.take _
section
variable {X : Cx} {W : WX} {o e : Expr} {fo fe : F Wv} {apos cpos : Pos}
theorem guardL_ok {f : F Wv} {x : Wv} {ρ : Vars} {S : List Ob} {q : Rs Wv × List Ob} (h : guardL f x ρ S = some q) : ∃ p, lstOf x S = some p ∧ f ρ S = some q := by
  unfold guardL at h
  split at h
  · rename_i p hp
    exact ⟨_, hp, h⟩
  · cases h
theorem recv_ok {B Z : Addr → Prop} {m : List Addr} {H : Hp} {S : List Ob} {x : Wv} {v : V} {n : Nat} {l : List P} (s : SOk X.K X.gl B Z m H S) (r : Rw X.K X.gl Z m H v x) (h : lstOf x S = some (n, l)) : tyV X.K "list" v H := by
  obtain ⟨rfl, hl⟩ := lstOf_ok h
  cases r with
  | loc hn =>
    obtain ⟨xs, h1, _⟩ := s.lstAt hn hl
    exact .inl ⟨rfl, xs, SqL.of h1⟩
/-- what a method call of a built-in type asks of its syntax -/
structure MSyn (X : Cx) (o : Expr) (name : Str) (e : Expr) (es : List Expr) (apos cpos : Pos) : Prop where
  base : attributeBase o name X.env (eval o X.env) = eval o X.env
  few : ((backTo cpos (starEach (e :: es) X.env)).all (fun x => !x.1) && (backToKw cpos (keywordEach [] X.env)).all (fun x => x.1.isSome)
      && decide ((e :: es).length + ([] : List Keyword).length + (if ([] : List Keyword).isEmpty then 0 else 1) < 30)) = true
  line : (apos.endLine == cpos.line) = true
  st : starEach (e :: es) X.env = (false, eval e X.env) :: starEach es X.env
  plain : (backTo cpos (starEach es X.env)).any (·.1) = false
theorem se_app (h : MSyn X o "append" e [] apos cpos) (ho : SE X W o fo) (he : SE X W e fe) (hn : starEach [] X.env = []) : SE X W (.Call (.Attribute o "append" apos) [e] [] cpos) (fApp fo fe) := by
  refine pe_weak (pe_bm PySem.F.plainAttrs_list PySem.F.slot_list_append PySem.F.type_list_append mt_append ho (pa_cons he pa_nil h.st) h.base h.few h.line h.st h.plain) fun σ H Q ⟨B, Z, m, ρ, S, r, S', s, v, eq, k⟩ => ?_
  refine tG_bind s v eq k fun Z1 m1 H1 S1 x vx e1 s1 v1 rx eq1 k1 => ?_
  obtain ⟨⟨n0, l0⟩, h0, eq1⟩ := guardL_ok eq1
  refine ⟨recv_ok s1 rx h0, ?_⟩
  refine tG_bind s1 v1 eq1 k1 fun Z2 m2 H2 S2 y vy e2 s2 v2 ry eq2 k2 => ?_
  have rx2 := Rw.move e2 rx
  split at eq2
  · rename_i n l y hx
    split at eq2
    · rename_i hl
      cases eq2
      obtain ⟨rfl, hs⟩ := lstOf_ok hx
      cases rx2 with
      | loc hn =>
        cases ry with
        | p ry =>
          obtain ⟨xs, h1, h2, h3⟩ := s2.lstAt hn hs
          obtain ⟨q1, q2⟩ := s2.write (o := .lst (xs ++ [vy])) (ob := .lst (l ++ [y])) hn hs (by intro z; cases z) nt_lst (.lst (by rw [List.length_append]; exact hl) (h2.app (.cons ry .nil)))
          exact ⟨_, xs, vy, rfl, rfl, h1, by rw [h2.len]; exact hl, k2.fin' q1 q2 (.p .non)⟩
    · cases eq2
  · cases eq2
theorem se_pop (hbase : attributeBase o "pop" X.env (eval o X.env) = eval o X.env) (hline : (apos.endLine == cpos.line) = true) (ho : SE X W o fo) : SE X W (.Call (.Attribute o "pop" apos) [] [] cpos) (fPop fo) := by
  refine pe_weak (pe_bm0 PySem.F.plainAttrs_list PySem.F.slot_list_pop PySem.F.type_list_pop mt_pop ho hbase hline) fun σ H Q ⟨B, Z, m, ρ, S, r, S', s, v, eq, k⟩ => ?_
  refine tG_bind s v eq k fun Z1 m1 H1 S1 x vx e1 s1 v1 rx eq1 k1 => ?_
  split at eq1
  · rename_i n l hx
    split at eq1
    · rename_i y hy
      cases eq1
      refine ⟨recv_ok s1 rx hx, ?_⟩
      obtain ⟨rfl, hs⟩ := lstOf_ok hx
      cases rx with
      | loc hn =>
        obtain ⟨xs, h1, h2, h3⟩ := s1.lstAt hn hs
        obtain ⟨u, g1, g2⟩ := h2.get' hy
        obtain ⟨q1, q2⟩ := s1.write (o := .lst xs.dropLast) (ob := .lst l.dropLast) hn hs (by intro z; cases z) nt_lst (.lst (by rw [List.length_dropLast]; omega) h2.dropLast)
        exact ⟨_, xs, u, rfl, rfl, h1, by rw [h2.len]; exact g1, k1.fin' q1 q2 (.p (g2.move q1.cold))⟩
    · cases eq1
  · cases eq1
theorem se_ext (h : MSyn X o "extend" e [] apos cpos) (ho : SE X W o fo) (he : SE X W e fe) : SE X W (.Call (.Attribute o "extend" apos) [e] [] cpos) (fExt fo fe) := by
  refine pe_weak (pe_bm PySem.F.plainAttrs_list PySem.F.slot_list_extend PySem.F.type_list_extend mt_extend ho (pa_cons he pa_nil h.st) h.base h.few h.line h.st h.plain) fun σ H Q ⟨B, Z, m, ρ, S, r, S', s, v, eq, k⟩ => ?_
  refine tG_bind s v eq k fun Z1 m1 H1 S1 x vx e1 s1 v1 rx eq1 k1 => ?_
  obtain ⟨⟨n0, l0⟩, h0, eq1⟩ := guardL_ok eq1
  refine ⟨recv_ok s1 rx h0, ?_⟩
  refine tG_bind s1 v1 eq1 k1 fun Z2 m2 H2 S2 y vy e2 s2 v2 ry eq2 k2 => ?_
  have rx2 := Rw.move e2 rx
  split at eq2
  · rename_i n l kk hx hy
    split at eq2
    · rename_i hl
      cases eq2
      obtain ⟨rfl, hs⟩ := lstOf_ok hx
      cases rx2 with
      | loc hn =>
        obtain ⟨xs, h1, h2, h3⟩ := s2.lstAt hn hs
        obtain ⟨b, ys, rfl, h4, h5⟩ := (view_ok s2 ry hy).lstI
        obtain ⟨q1, q2⟩ := s2.write (o := .lst (xs ++ ys)) (ob := .lst (l ++ kk)) hn hs (by intro z; cases z) nt_lst (.lst (by rw [List.length_append]; exact hl) (h2.app h5))
        exact ⟨_, b, xs, ys, rfl, rfl, h1, h4, by rw [h2.len, h5.len]; exact hl, k2.fin' q1 q2 (.p .non)⟩
    · cases eq2
  · cases eq2
end

/-! ### o[i] = v -/
def putP {κ : Type} [DecidableEq κ] (l : List (κ × P)) (k : κ) (v : P) : List (κ × P) :=
  if (l.any fun kv => decide (kv.1 = k)) = true then l.map (fun kv => if kv.1 = k then (kv.1, v) else kv) else l ++ [(k, v)]
/-- the store behind o[i] = v -/
def setAt (o i v : Wv) (S : List Ob) : Option (List Ob) := match o, i, v with
  | .loc n, .p i, .p v => match S[n]? with
    | some (.lst l) => match i with
      | .int j => (ixN l.length j).map fun q => S.set n (.lst (l.set q v))
      | _ => none
    | some (.dK l) => match keyP i with
      | some k => if l.length < sizeLine then some (S.set n (.dK (putP l k v))) else none
      | none => none
    | some (.dT l) => match i with
      | .tup ks => match keysP ks with
        | some k => if l.length < sizeLine then some (S.set n (.dT (putP l k v))) else none
        | none => none
      | _ => none
    | _ => none
  | _, _, _ => none
section
variable {K : PySem.W.Frag} {mg : Mg} {B Z Z' : Addr → Prop} {m m' : List Addr} {H H' : Hp} {S : List Ob}
theorem RpK.alt {v : V} {p : P} (r : Rp K mg Z H v p) (k : Key) : ∀ {xs : List (Key × V)} {l : List (Key × P)}, RpK K mg Z H xs l → (xs.any fun kv => decide (kv.1 = k)) = (l.any fun kv => decide (kv.1 = k)) ∧ xs.length = l.length ∧
      RpK K mg Z H (xs.map fun kv => if kv.1 = k then (kv.1, v) else kv) (l.map fun kv => if kv.1 = k then (kv.1, p) else kv) ∧ RpK K mg Z H (xs ++ [(k, v)]) (l ++ [(k, p)])
  | _, _, .nil => ⟨rfl, rfl, .nil, .cons r .nil⟩
  | _, _, .cons (k := k0) r1 t => by
    obtain ⟨i1, i2, i3, i4⟩ := RpK.alt r k t
    refine ⟨by rw [List.any_cons, List.any_cons, i1], congrArg Nat.succ i2, ?_, .cons r1 i4⟩
    rw [List.map_cons, List.map_cons]
    by_cases e : k0 = k
    · rw [if_pos e, if_pos e]; exact .cons r i3
    · rw [if_neg e, if_neg e]; exact .cons r1 i3
theorem RpK.put {v : V} {p : P} (r : Rp K mg Z H v p) (k : Key) {xs : List (Key × V)} {l : List (Key × P)} (h : RpK K mg Z H xs l) : RpK K mg Z H (putK xs k v) (putP l k p) ∧ xs.length = l.length := by
  obtain ⟨h1, h2, h3, h4⟩ := RpK.alt r k h
  refine ⟨?_, h2⟩
  unfold putK putP
  rw [h1]
  split
  · exact h3
  · exact h4
theorem RpT.alt {v : V} {p : P} (r : Rp K mg Z H v p) (k : List Key) : ∀ {xs : List (List Key × V)} {l : List (List Key × P)}, RpT K mg Z H xs l → (xs.any fun kv => decide (kv.1 = k)) = (l.any fun kv => decide (kv.1 = k)) ∧ xs.length = l.length ∧
      RpT K mg Z H (xs.map fun kv => if kv.1 = k then (kv.1, v) else kv) (l.map fun kv => if kv.1 = k then (kv.1, p) else kv) ∧ RpT K mg Z H (xs ++ [(k, v)]) (l ++ [(k, p)])
  | _, _, .nil => ⟨rfl, rfl, .nil, .cons r .nil⟩
  | _, _, .cons (k := k0) r1 t => by
    obtain ⟨i1, i2, i3, i4⟩ := RpT.alt r k t
    refine ⟨by rw [List.any_cons, List.any_cons, i1], congrArg Nat.succ i2, ?_, .cons r1 i4⟩
    rw [List.map_cons, List.map_cons]
    by_cases e : k0 = k
    · rw [if_pos e, if_pos e]; exact .cons r i3
    · rw [if_neg e, if_neg e]; exact .cons r1 i3
theorem RpT.put {v : V} {p : P} (r : Rp K mg Z H v p) (k : List Key) {xs : List (List Key × V)} {l : List (List Key × P)} (h : RpT K mg Z H xs l) : RpT K mg Z H (putK xs k v) (putP l k p) ∧ xs.length = l.length := by
  obtain ⟨h1, h2, h3, h4⟩ := RpT.alt r k h
  refine ⟨?_, h2⟩
  unfold putK putP
  rw [h1]
  split
  · exact h3
  · exact h4
end
section
variable {X : Cx} {W : WX}
def rSetA : TSet := fun o i v H Q => rSetL o i v H Q ∨ L2.rSetD o i v H Q
theorem set_any (hu : X.A.units + 1 < cLine) : PSet X rSetA := fun pins s σ H o i v ov iv u Q I r1 r2 r3 h =>
  h.elim (set_list pins s σ H o i v ov iv u Q I r1 r2 r3) (set_dict hu pins s σ H o i v ov iv u Q I r1 r2 r3)
theorem setAt_ok {B Z : Addr → Prop} {m : List Addr} {H : Hp} {S S' : List Ob} {o i v : Wv} {vo vi vv : V} {Q : Hp → Prop} (s : SOk X.K X.gl B Z m H S) (ro : Rw X.K X.gl Z m H vo o) (ri : Rw X.K X.gl Z m H vi i) (rv : Rw X.K X.gl Z m H vv v) (h : setAt o i v S = some S')
    (k : ∀ H', Ext B Z m H Z m H' → SOk X.K X.gl B Z m H' S' → Q H') : rSetA vo vi vv H Q := by
  unfold setAt at h
  split at h
  · rename_i n pi pv
    cases ro with
    | loc hn =>
      cases ri with
      | p ri =>
        cases rv with
        | p rv =>
          split at h
          · rename_i l hl
            split at h
            · rename_i j
              cases hj : ixN l.length j with
              | none => rw [hj] at h; cases h
              | some q =>
                rw [hj] at h
                cases h
                cases ri
                obtain ⟨xs, h1, h2, h3⟩ := s.lstAt hn hl
                obtain ⟨q1, q2⟩ := s.write (o := .lst (xs.set q vv)) (ob := .lst (l.set q pv)) hn hl (by intro z; cases z) nt_lst (.lst (by rw [List.length_set]; exact h3) (h2.set rv q))
                exact .inl ⟨_, xs, j, q, rfl, rfl, h1, by rw [h2.len]; exact hj, k _ q1 q2⟩
            · cases h
          · rename_i l hl
            split at h
            · rename_i kk hk
              split at h
              · rename_i hz
                cases h
                obtain ⟨xs, h1, h2⟩ := s.dKAt hn hl
                obtain ⟨p1, p2⟩ := RpK.put rv kk h2
                obtain ⟨q1, q2⟩ := s.write (o := .dK (putK xs kk vv)) (ob := .dK (putP l kk pv)) hn hl (by intro z; cases z) nt_dK (.dK p1)
                exact .inr ⟨_, _, rfl, .inl ⟨xs, kk, h1, RV.key (.cold ri) hk, by rw [p2]; exact hz, rfl⟩, k _ q1 q2⟩
              · cases h
            · cases h
          · rename_i l hl
            split at h
            · rename_i ks
              split at h
              · rename_i kk hk
                split at h
                · rename_i hz
                  cases h
                  obtain ⟨xs, h1, h2⟩ := s.dTAt hn hl
                  obtain ⟨p1, p2⟩ := RpT.put rv kk h2
                  obtain ⟨q1, q2⟩ := s.write (o := .dT (putK xs kk vv)) (ob := .dT (putP l kk pv)) hn hl (by intro z; cases z) nt_dT (.dT p1)
                  obtain ⟨b, us, rfl, hb, rb⟩ := RV.tupI (.cold ri)
                  exact .inr ⟨_, _, rfl, .inr ⟨xs, kk, b, h1, rfl, by rw [hb, rb.keys hk], by rw [p2]; exact hz, rfl⟩, k _ q1 q2⟩
                · cases h
              · cases h
            · cases h
          · cases h
  · cases h
def fSetI (fv fo fi : F Wv) : FS := bindS fv fun v => bindS fo fun o => bindS fi fun i => fun ρ S => (setAt o i v S).map fun S' => (.go .nx ρ, S')
theorem ss_seti {o i e : Expr} {fv fo fi : F Wv} {tpos pos : Pos} (hu : X.A.units + 1 < cLine) (he : SE X W e fv) (ho : SE X W o fo) (hi : SE X W i fi) (hs : swapsWithSole [.Subscript o i tpos] e pos.line X.env = pure false) (hw : swappedStores [.Subscript o i tpos] e X.env = pure none)
    (h1 : (assignEach [.Subscript o i tpos] X.env).map (·.2) = [assign (.Subscript o i tpos) X.env])
    (ha : ∀ v, assign (.Subscript o i tpos) X.env v = (do
      let ov ← holding [v] (eval o X.env)
      let iv ← holding [v, ov] (eval i X.env)
      standAt tpos
      holding [v, ov, iv] (setItem ov iv v)
      release [v, ov, iv] [])) : SS X W (.Assign [.Subscript o i tpos] e pos) (fSetI fv fo fi) := by
  refine ps_weak (ps_asg he (pg_sub ho hi (set_any hu) ha) hs hw h1) fun D σ H ⟨B, Z, m, ρ, S, r, S', s, v, eq, k⟩ => ?_
  refine tS_bind s v eq k fun Z1 m1 H1 S1 x vx e1 s1 v1 rx eq1 k1 => ?_
  refine tS_bind s1 v1 eq1 k1 fun Z2 m2 H2 S2 y vy e2 s2 v2 ry eq2 k2 => ?_
  refine tS_bind s2 v2 eq2 k2 fun Z3 m3 H3 S3 z vz e3 s3 v3 rz eq3 k3 => ?_
  cases hz : setAt y z x S3 with
  | none => simp only [hz] at eq3; cases eq3
  | some S4 =>
    simp only [hz, Option.map_some, Option.some.injEq, Prod.mk.injEq] at eq3
    obtain ⟨rfl, rfl⟩ := eq3
    exact setAt_ok s3 (Rw.move e3 ry) rz (Rw.move e3 (Rw.move e2 rx)) hz fun H' q1 q2 => k3 _ _ _ q1 q2 σ (v3.move q1)
/-! ### a, b = x, y -/
def fPar (i j : Nat) (fs : F (List Wv)) : FS := bindS fs fun ws => fun ρ S => match ws with
  | [a, b] => some (.go .nx ((ρ.set i (some a)).set j (some b)), S)
  | _ => none
theorem ss_par {i j : Nat} {x y : Str} {a b : Expr} {fs : F (List Wv)} {px py pt pos : Pos} {kt k2 pt2} (hc : X.calm = true) (hN : X.N.Nodup) (hi : X.N[i]? = some x) (hj : X.N[j]? = some y) (hij : i ≠ j)
    (hx : X.env.scope.names.lookup x = some .local) (hy : X.env.scope.names.lookup y = some .local) (ha : SA X W [a, b] fs)
    (hw : swappedStores [.Tuple [.Name x px, .Name y py] kt pt] (.Tuple [a, b] k2 pt2) X.env = pure (some [x, y]))
    (hs : swapsWithSole [.Tuple [.Name x px, .Name y py] kt pt] (.Tuple [a, b] k2 pt2) pos.line X.env = pure false) :
    SS X W (.Assign [.Tuple [.Name x px, .Name y py] kt pt] (.Tuple [a, b] k2 pt2) pos) (fPar i j fs) := by
  refine ps_weak (ps_par hc hN hi hj hij hx hy ha hw hs) fun D σ H ⟨B, Z, m, ρ, S, r, S', s, v, eq, k⟩ => ?_
  refine tS_bind s v eq k fun Z1 m1 H1 S1 ws vs e1 s1 v1 rl eq1 k1 => ?_
  split at eq1
  · cases eq1
    cases rl with
    | cons r1 t =>
      cases t with
      | cons r2 t =>
        cases t
        exact ⟨_, _, rfl, k1.fin s1 _ ((v1.set r1).set r2)⟩
  · cases eq1
end
end Wr

set_option maxHeartbeats 4000000
/-! A10: sets of texts and sorted, over data. -/
namespace Wr
open PySem PySem.Spec PyProof.Rows L2 PySem.Froz

/-! ### the one rising sequence -/
def leS (x y : Str) : Bool := !ltCps y.cps.toList x.cps.toList
def insS (x : Str) : List Str → List Str
  | [] => [x]
  | y :: r => if leS x y then x :: y :: r else y :: insS x r
def sortT : List Str → List Str
  | [] => []
  | x :: r => insS x (sortT r)
theorem lt_cons {a b : Nat} {r t : List Nat} : ltCps (a :: r) (b :: t) = true ↔ a < b ∨ (a = b ∧ ltCps r t = true) := by simp [ltCps]
theorem lt_asym : ∀ a b : List Nat, ltCps a b = true → ¬ ltCps b a = true
  | [], [], h, _ => by simp [ltCps] at h
  | [], _ :: _, _, h => by simp [ltCps] at h
  | _ :: _, [], h, _ => by simp [ltCps] at h
  | a :: r, b :: t, h, h' => by
    rcases lt_cons.mp h with h1 | ⟨h1, h2⟩ <;> rcases lt_cons.mp h' with h3 | ⟨h3, h4⟩ <;> first | omega | exact lt_asym r t h2 h4
theorem lt_tri : ∀ a b : List Nat, ¬ ltCps a b = true → ¬ ltCps b a = true → a = b
  | [], [], _, _ => rfl
  | [], _ :: _, h, _ => by simp [ltCps] at h
  | _ :: _, [], _, h => by simp [ltCps] at h
  | a :: r, b :: t, h, h' => by
    rw [lt_cons] at h h'
    have e : a = b := by
      by_cases h1 : a < b
      · exact absurd (.inl h1) h
      · by_cases h2 : b < a
        · exact absurd (.inl h2) h'
        · omega
    rw [e, lt_tri r t (fun q => h (.inr ⟨e, q⟩)) (fun q => h' (.inr ⟨e.symm, q⟩))]
theorem lt_tr : ∀ a b c : List Nat, ltCps a b = true → ltCps b c = true → ltCps a c = true
  | [], [], _, h, _ => by simp [ltCps] at h
  | [], _ :: _, [], _, h => by simp [ltCps] at h
  | [], _ :: _, _ :: _, _, _ => by simp [ltCps]
  | _ :: _, [], _, h, _ => by simp [ltCps] at h
  | _ :: _, _ :: _, [], _, h => by simp [ltCps] at h
  | a :: r, b :: t, c :: u, h, h' => by
    rw [lt_cons] at h h' ⊢
    rcases h with h1 | ⟨h1, h2⟩ <;> rcases h' with h3 | ⟨h3, h4⟩
    · exact .inl (by omega)
    · exact .inl (by omega)
    · exact .inl (by omega)
    · exact .inr ⟨by omega, lt_tr r t u h2 h4⟩
theorem le_iff {x y : Str} : leS x y = true ↔ ¬ ltCps y.cps.toList x.cps.toList = true := by
  unfold leS
  simp
theorem le_anti {x y : Str} (h : leS x y = true) (h' : leS y x = true) : x = y := by
  rw [le_iff] at h h'
  have e := lt_tri _ _ h' h
  obtain ⟨a⟩ := x
  obtain ⟨b⟩ := y
  have e2 : a = b := Array.toList_inj.mp e
  rw [e2]
theorem le_tr {x y z : Str} (h : leS x y = true) (h' : leS y z = true) : leS x z = true := by
  rw [le_iff] at h h' ⊢
  intro q
  by_cases c : ltCps x.cps.toList y.cps.toList = true
  · exact h' (lt_tr _ _ _ q c)
  · rw [lt_tri _ _ c h] at q
    exact h' q
theorem le_tot (x y : Str) : leS x y = true ∨ leS y x = true := by
  rw [le_iff, le_iff]
  by_cases c : ltCps y.cps.toList x.cps.toList = true
  · exact .inr (lt_asym _ _ c)
  · exact .inl c
theorem rising_all : ∀ {l : List Str} {x : Str}, risingS x l = true → (∀ y ∈ l, leS x y = true) ∧ sortedS l = true
  | [], x, _ => ⟨(fun _ h => by cases h), rfl⟩
  | y :: r, x, h => by
    have h' : (leS x y && risingS y r) = true := h
    simp only [Bool.and_eq_true] at h'
    obtain ⟨h1, h2⟩ := rising_all h'.2
    refine ⟨fun z hz => ?_, h'.2⟩
    rcases List.mem_cons.mp hz with e | e
    · rw [e]; exact h'.1
    · exact le_tr h'.1 (h1 z e)
theorem all_rising {x : Str} : ∀ {l : List Str}, (∀ y ∈ l, leS x y = true) → sortedS l = true → risingS x l = true
  | [], _, _ => rfl
  | y :: r, h, s => by
    show (leS x y && risingS y r) = true
    rw [h y List.mem_cons_self]
    exact s
theorem sorted_uniq : ∀ {l m : List Str}, l.Perm m → sortedS l = true → sortedS m = true → l = m
  | [], m, p, _, _ => by rw [List.nil_perm.mp p]
  | x :: l, m, p, h1, h2 => by
    cases m with
    | nil => exact absurd p.length_eq (by simp)
    | cons y m =>
      obtain ⟨a1, a2⟩ := rising_all (show risingS x l = true from h1)
      obtain ⟨b1, b2⟩ := rising_all (show risingS y m = true from h2)
      have e : x = y := by
        have mx : x ∈ y :: m := p.mem_iff.mp List.mem_cons_self
        have my : y ∈ x :: l := p.mem_iff.mpr List.mem_cons_self
        rcases List.mem_cons.mp mx with e | e
        · exact e
        · rcases List.mem_cons.mp my with e' | e'
          · exact e'.symm
          · exact le_anti (a1 y e') (b1 x e)
      subst e
      rw [sorted_uniq ((List.perm_cons x).mp p) a2 b2]
theorem ins_perm (x : Str) : ∀ l : List Str, (insS x l).Perm (x :: l)
  | [] => .refl _
  | y :: r => by
    unfold insS
    split
    · exact .refl _
    · exact ((ins_perm x r).cons y).trans (.swap x y r)
theorem ins_sorted (x : Str) : ∀ {l : List Str}, sortedS l = true → sortedS (insS x l) = true
  | [], _ => rfl
  | y :: r, h => by
    obtain ⟨a1, a2⟩ := rising_all (show risingS y r = true from h)
    unfold insS
    split
    · rename_i c
      exact all_rising (fun z hz => by
        rcases List.mem_cons.mp hz with e | e
        · rw [e]; exact c
        · exact le_tr c (a1 z e)) h
    · rename_i c
      have c' : leS y x = true := (le_tot x y).resolve_left c
      exact all_rising (fun z hz => by
        rcases List.mem_cons.mp ((ins_perm x r).mem_iff.mp hz) with e | e
        · rw [e]; exact c'
        · exact a1 z e) (ins_sorted x a2)
theorem sortT_perm : ∀ l : List Str, (sortT l).Perm l
  | [] => .refl _
  | x :: r => (ins_perm x _).trans ((sortT_perm r).cons x)
theorem sortT_sorted : ∀ l : List Str, sortedS (sortT l) = true
  | [] => rfl
  | x :: r => ins_sorted x (sortT_sorted r)
theorem sortT_eq {l ys : List Str} (p : ys.Perm l) (s : sortedS ys = true) : ys = sortT l := sorted_uniq (p.trans (sortT_perm l).symm) s (sortT_sorted l)

/-! ### texts of data -/
def strsP : List P → Option (List Str)
  | [] => some []
  | .str x :: r => (strsP r).map (x :: ·)
  | _ :: _ => none
theorem strsP_ok {K : PySem.W.Frag} {mg : Mg} {Z : Addr → Prop} {H : Hp} : ∀ {vs : List V} {l : List P} {ks : List Str}, RpL K mg Z H vs l → strsP l = some ks → vs = ks.map V.str ∧ ∀ k ∈ ks, PySem.PyData.strOk k = true
  | _, _, _, .nil, h => by cases h; exact ⟨rfl, fun _ q => by cases q⟩
  | _, _, _, .cons (p := p) r t, h => by
    cases p <;> simp only [strsP] at h <;> first | (cases h; done) | skip
    rename_i x
    cases hl : strsP ‹List P› with
    | none => rw [hl] at h; cases h
    | some ls =>
      rw [hl] at h
      cases h
      obtain ⟨h1, h2⟩ := strsP_ok t hl
      cases r with
      | str _ ok =>
        refine ⟨by rw [h1]; rfl, fun k hk => ?_⟩
        rcases List.mem_cons.mp hk with e | e
        · rw [e]; exact ok
        · exact h2 k e
theorem strs_rp {K : PySem.W.Frag} {mg : Mg} {Z : Addr → Prop} {H : Hp} : ∀ {ks : List Str}, (∀ k ∈ ks, PySem.PyData.strOk k = true) → RpL K mg Z H (ks.map V.str) (ks.map P.str)
  | [], _ => .nil
  | k :: r, h => .cons (.str k (h k List.mem_cons_self)) (strs_rp fun j hj => h j (List.mem_cons_of_mem _ hj))

theorem vals_str : ∀ {ks : List Str} {us : List Value}, Vals (ks.map V.str) us → ∀ (i : Nat) (v : Value), us[i]? = some v → ∃ k t, ks[i]? = some k ∧ v = Value.str k t
  | [], _, .nil, i, v, h => by simp at h
  | k :: r, _, .cons q t, i, v, h => by
    cases i with
    | zero =>
      obtain ⟨tk, rfl⟩ := q
      simp at h
      exact ⟨k, tk, rfl, h.symm⟩
    | succ i =>
      obtain ⟨k', t', h1, h2⟩ := vals_str t i v (by simpa using h)
      exact ⟨k', t', by simpa using h1, h2⟩
theorem sx_ok {P : Program} {w : World} {H : Hp} {h : Heap} {a : Addr} {mg : Mg} {l : List Str} (x : SxAt mg.prog mg.w h a l) : ObjOk P w H h a (SxO mg a l) := by
  have ⟨D, ho, _⟩ := x
  exact ⟨x, ⟨_, ho⟩, fun h1 h2 p k => p.at_ k⟩
section
variable {X : Cx}
theorem sx_get {pins : List (Addr × Obj)} {σ : L2.St} {H : Hp} {s : Shared} {a : Addr} {l : List Str} (I : Inv X pins σ H s) (ha : H a = some (SxO X.gl a l)) : SxAt X.prog X.w s.heap a l := (I.hok a _ ha).1
/-- set(xs) of texts -/
def rSetT (X : Cx) : List V → Hp → VK → Prop := fun vs H Q => ∃ (a : Addr) (ks : List Str), vs = [V.ref a] ∧ (SqL X.K H a (ks.map V.str) ∨ SqT X.K H a (ks.map V.str)) ∧ ks.length + 1 < scanBound ∧
  ∀ p, H p = none → Q (.ref p) (upd H p (SxO X.gl p (putTs [] ks)))
theorem cr_setT (hc : X.calm = true) : CallR X (.type "set") (rSetT X) := by
  intro pins s σ H vs us Q I r h
  obtain ⟨a, ks, rfl, hs, room, q⟩ := h
  rw [Vals.ref1 r]
  have fin : ∀ (g : Heap) (tk : Nat), SxAt X.prog X.w g s.heap.objs.size (putTs [] ks) → (∀ b o, s.heap.get? b = some o → g.get? b = some o) → EP X pins σ Q (.ref s.heap.objs.size) { s with heap := g, toks := tk } := fun g tk x k =>
    ⟨.ref _, upd H s.heap.objs.size (SxO X.gl s.heap.objs.size (putTs [] ks)), I.laid (t' := tk) k (Nat.le_refl _) (sx_ok x), rfl, q _ (I.hok.fresh (Nat.le_refl _))⟩
  rcases hs with hs | hs
  · obtain ⟨its, rv, pl, _⟩ := I.list hs
    have lv := rv.length
    rw [List.length_map] at lv
    exact set_of_list ks (I.ok.hd hc) pl.isList (fun i v e => vals_str rv i v (by simpa using e)) (by rw [List.size_toArray]; exact lv.symm) room fin
  · obtain ⟨its, rv, pl, _⟩ := I.tuple hs
    have lv := rv.length
    rw [List.length_map] at lv
    exact set_of_tuple ks (I.ok.hd hc) (show s.heap.IsTuple a its.toArray from pl) (fun i v e => vals_str rv i v (by simpa using e)) (by rw [List.size_toArray]; exact lv.symm) room fin
def mkSet (l : List P) : Option P := match strsP l with
  | some ks => if ks.length + 1 < 4096 then some (.set (putTs [] ks)) else none
  | none => none
def setPy : List P → Option P
  | [x] => match asL x, asT x with
    | some l, _ => mkSet l
    | _, some l => mkSet l
    | _, _ => none
  | _ => none
theorem putTs_mem {Pk : Str → Prop} : ∀ {ks l : List Str}, (∀ k ∈ l, Pk k) → (∀ k ∈ ks, Pk k) → ∀ k ∈ putTs l ks, Pk k
  | [], _, h, _ => h
  | j :: r, l, h, h' => putTs_mem (ks := r) (l := putT j l) (fun k hk => by
      unfold putT at hk
      split at hk
      · exact h k hk
      · rcases List.mem_cons.mp hk with e | e
        · rw [e]; exact h' j List.mem_cons_self
        · exact h k e) fun k hk => h' k (List.mem_cons_of_mem _ hk)
theorem mkSet_ok {l : List P} {z : P} (h : mkSet l = some z) : ∃ ks, strsP l = some ks ∧ ks.length + 1 < scanBound ∧ z = .set (putTs [] ks) := by
  unfold mkSet at h
  split at h
  · rename_i ks hk
    split at h
    · rename_i hl
      cases h
      exact ⟨ks, hk, hl, rfl⟩
    · cases h
  · cases h
theorem ok_set : CallOk X (rSetT X) setPy := by
  intro B Z m H S vs xs z Q s rl e k
  unfold setPy at e
  split at e
  · rename_i x
    cases rl with
    | cons r t =>
      cases t
      have go : ∀ {a : Addr} {ys : List V} {l : List P}, (SqL X.K H a ys ∨ SqT X.K H a ys) → RpL X.K X.gl Z H ys l → mkSet l = some z → rSetT X [V.ref a] H Q := by
        intro a ys l hs ry hm
        obtain ⟨ks, h1, h2, rfl⟩ := mkSet_ok hm
        obtain ⟨rfl, ok⟩ := strsP_ok ry h1
        refine ⟨a, ks, rfl, hs, h2, fun p hp => ?_⟩
        have nz : ¬ Z p := s.cold_new hp
        exact k _ _ (ext_new hp) (s.new hp) (.set upd_same nz (putTs_mem (fun _ q => by cases q) ok))
      split at e
      · rename_i l hl
        obtain ⟨a, ys, rfl, ha, ry⟩ := r.asL hl
        exact go (.inl ha) ry e
      · rename_i l hl _
        obtain ⟨a, ys, rfl, ha, ry⟩ := r.asT hl
        exact go (.inr ha) ry e
      · cases e
  · cases e
/-- sorted(s) of a set of texts -/
def rSortX (X : Cx) : List V → Hp → VK → Prop := fun vs H Q => ∃ (a : Addr) (l : List Str), vs = [V.ref a] ∧ H a = some (SxO X.gl a l) ∧ l.length ≤ sizeLine ∧ ∀ p, H p = none → Q (.ref p) (upd H p (.lst ((sortT l).map V.str)))
theorem cr_sortX (hc : X.calm = true) : CallR X (.builtin "sorted") (rSortX X) := by
  intro pins s σ H vs us Q I r h
  obtain ⟨a, l, rfl, ha, hz, q⟩ := h
  rw [Vals.ref1 r]
  refine sorted_sx (sx_get I ha) (I.ok.hd hc) fun s1 p out c ys k g o hp at_ st pm so => ?_
  rw [sortT_eq pm so] at st
  have hn : H p = none := I.hok.fresh hp
  have lz : ((sortT l).map V.str).length ≤ sizeLine := by rw [List.length_map, (sortT_perm l).length_eq]; exact hz
  have J : Inv X pins σ (upd H p (.lst ((sortT l).map V.str))) { s with heap := s1.heap, gens := s1.gens, drawn := s1.drawn, toks := s1.toks } :=
    I.call (ch := []) (Un.laid k hp hn) (I.hok.laid k hp ⟨lz, out.toList, c, vals_of_strs st, at_⟩) (by rw [g]; exact I.bare) (fun _ z => nomatch z)
  have e : s1 = { s with heap := s1.heap, gens := s1.gens, drawn := s1.drawn, toks := s1.toks } := by
    cases s1
    cases s
    cases o
    rfl
  rw [e]
  exact ⟨.ref p, _, J, rfl, q p hn⟩
/-- sorted(xs) of a list of texts -/
def rSortL (X : Cx) : List V → Hp → VK → Prop := fun vs H Q => ∃ (a : Addr) (l : List Str), vs = [V.ref a] ∧ SqL X.K H a (l.map V.str) ∧ ∀ p, H p = none → Q (.ref p) (upd H p (.lst ((sortT l).map V.str)))
theorem cr_sortL : CallR X (.builtin "sorted") (rSortL X) := by
  intro pins s σ H vs us Q I r h
  obtain ⟨a, l, rfl, hs, q⟩ := h
  obtain ⟨its, rv, pl, hz⟩ := I.list hs
  rw [Vals.ref1 r]
  have lv := rv.length
  rw [List.length_map] at lv
  refine sorted_strsAny pl.isList rv.strs (by first | exact hz | (rw [← lv]; simpa using hz)) fun out ys h1 h2 h3 => ?_
  rw [sortT_eq h2 h3] at h1
  obtain ⟨c, at_⟩ := sortedAll_at s.heap its out
  have lz : ((sortT l).map V.str).length ≤ sizeLine := by
    rw [List.length_map, (sortT_perm l).length_eq]
    first | (rw [lv]; exact hz) | (simpa using hz)
  exact ⟨.ref _, upd H (s.heap.objs.size + 1) (.lst ((sortT l).map V.str)), I.laid (t' := s.toks) (fun _ _ => sortedAll_old) (Nat.le_succ _) ⟨lz, out.toList, c, vals_of_strs h1, at_⟩, rfl, q _ (I.hok.fresh (Nat.le_succ _))⟩
def sortedPy : List P → Option (List P)
  | [.set l] => if l.length ≤ sizeLine then some ((sortT l).map P.str) else none
  | [.lst l] => (strsP l).map fun ks => (sortT ks).map P.str
  | [.lsf l] => (strsP l).map fun ks => (sortT ks).map P.str
  | _ => none
theorem ok_sorted : CallNew X (fun vs H Q => rSortX X vs H Q ∨ rSortL X vs H Q) sortedPy := by
  intro B Z m H S vs xs l Q s rl e k
  have ms : ∀ {ks : List Str}, (∀ j ∈ ks, PySem.PyData.strOk j = true) → ∀ j ∈ sortT ks, PySem.PyData.strOk j = true := fun h j hj => h j ((sortT_perm _).mem_iff.mp hj)
  have go : ∀ {a : Addr} {ys : List V} {q : List P}, SqL X.K H a ys → q.length ≤ sizeLine → RpL X.K X.gl Z H ys q → (strsP q).map (fun ks => (sortT ks).map P.str) = some l → rSortL X [V.ref a] H Q := by
    intro a ys q hs hz ry hm
    cases hk : strsP q with
    | none => rw [hk] at hm; cases hm
    | some ks =>
      rw [hk] at hm
      cases hm
      obtain ⟨rfl, ok⟩ := strsP_ok ry hk
      have lz : ((sortT ks).map P.str).length ≤ sizeLine := by
        rw [List.length_map, (sortT_perm ks).length_eq]
        have q := ry.len
        rw [List.length_map] at q
        rw [q]
        exact hz
      exact ⟨a, ks, rfl, hs, fun p hp => k p _ hp lz (strs_rp (ms ok))⟩
  unfold sortedPy at e
  split at e
  · split at e
    · rename_i hz
      cases e
      cases rl with
      | cons r t =>
        cases t
        cases r with
        | cold r =>
          cases r with
          | set ha nz ok =>
            refine .inl ⟨_, _, rfl, ha, hz, fun p hp => k p _ hp ?_ (strs_rp (ms ok))⟩
            rw [List.length_map, (sortT_perm _).length_eq]
            exact hz
    · cases e
  · cases rl with
    | cons r t =>
      cases t
      cases r with
      | cold r =>
        cases r with
        | lst ha nz hz ry => exact .inr (go (SqL.of ha) hz ry e)
      | lst ha hz ry => exact .inr (go (SqL.of ha) hz ry e)
  · cases rl with
    | cons r t =>
      cases t
      cases r with
      | cold r =>
        cases r with
        | lsf ha hz ry => exact .inr (go ha.sq hz ry e)
  · cases e
/-! ### in -/
def inSet (neg : Bool) : P → P → Option P
  | .str x, .set l => some (.bl (if neg then !decide (x ∈ l) else decide (x ∈ l)))
  | _, _ => none
def rInX (X : Cx) (neg : Bool) : R2 := fun x y H Q => ∃ (k : Str) (a : Addr) (l : List Str), x = V.str k ∧ y = V.ref a ∧ H a = some (SxO X.gl a l) ∧ Q (.bl (if neg then !decide (k ∈ l) else decide (k ∈ l))) H
theorem sx_setOf {P : Program} {w : World} {h : Heap} {a : Addr} {l : List Str} (x : SxAt P w h a l) : h.SetOf (PySem.strKind P w) a (fun k => decide (k ∈ l)) l.length := by
  obtain ⟨D, ho, F, nd, hb, hr, hl⟩ := x
  obtain ⟨es, ep, t⟩ := D
  have hsz : es.size = l.length := F.sz
  exact ⟨_, es, ep, t, ho, ⟨rfl, rfl, rfl⟩, rfl, F.el, fun k => by rw [decide_eq_true_eq]; exact F.mem k, by rw [hsz]; exact hb, F.fit, hsz⟩
theorem op_inX : OpR X (compareOp .In) (rInX X false) := by
  intro pins s σ H x y v u Q I rx ry h
  obtain ⟨k, a, l, rfl, rfl, ha, q⟩ := h
  obtain ⟨t, rfl⟩ := rx
  cases ry
  exact wpAny_inSet_of (knd := PySem.strKind X.prog X.w) (k := k) (is_str k t) rfl (sx_setOf (sx_get I ha)) ⟨.bl _, H, I.tok _, rfl, q⟩
theorem op_notInX : OpR X (compareOp .NotIn) (rInX X true) := by
  intro pins s σ H x y v u Q I rx ry h
  obtain ⟨k, a, l, rfl, rfl, ha, q⟩ := h
  obtain ⟨t, rfl⟩ := rx
  cases ry
  exact wpAny_notInSet_of (knd := PySem.strKind X.prog X.w) (k := k) (is_str k t) rfl (sx_setOf (sx_get I ha)) ⟨.bl _, H, I.tok _, rfl, q⟩
theorem ok_inX (neg : Bool) : OpOk X (rInX X neg) (inSet neg) := by
  intro B Z m H S v w x y z Q s rv rw_ e k
  unfold inSet at e
  split at e
  · rename_i x l
    cases e
    rw [rv.strI]
    cases rw_ with
    | cold r =>
      cases r with
      | set ha nz ok => exact ⟨x, _, l, rfl, rfl, ha, k H _ Ext.refl s (.bl _)⟩
  · cases e
end
end Wr

set_option maxHeartbeats 4000000
/-! A11: starred parts of displays. -/
namespace Wr
open PySem PySem.Spec PyProof.Rows L2
def fStar (fe : F Wv) (fr : F (List Wv)) : F (List Wv) := bindF fe fun a => match itemsOf a with
  | some l => bindF fr fun ws => retF (l.map Wv.p ++ ws)
  | none => failF
theorem RwL.app {K : PySem.W.Frag} {mg : Mg} {Z : Addr → Prop} {m : List Addr} {H : Hp} : ∀ {xs : List V} {l : List P} {vs : List V} {ws : List Wv}, RpL K mg Z H xs l → RwL K mg Z m H vs ws → RwL K mg Z m H (xs ++ vs) (l.map Wv.p ++ ws)
  | _, _, _, _, .nil, t => t
  | _, _, _, _, .cons r q, t => .cons (.p r) (RwL.app q t)
section
variable {X : Cx} {W : WX} {e : Expr} {es : List Expr} {fe : F Wv} {fr : F (List Wv)} {p : Pos}
theorem sa_star (he : SE X W e fe) (hr : SA X W es fr) : SA X W (.Starred e p :: es) (fStar fe fr) := by
  refine ⟨fun pos pins s0 σ H Q I ⟨B, Z, m, ρ, S, r, S', s, v, eq, k⟩ => (StX.pa_star he hr).run pos pins s0 σ H Q I ?_⟩
  refine tG_bind s v eq k fun Z1 m1 H1 S1 x vx e1 s1 v1 rx eq1 k1 => ?_
  have pre : ∀ {l : List P}, itemsOf x = some l → ∃ a xs, vx = V.ref a ∧ (SqT X.K H1 a xs ∨ SqL X.K H1 a xs) ∧ RpL X.K X.gl Z1 H1 xs l := by
    intro l hl
    cases rx with
    | loc _ => cases hl
    | @p _ x rx =>
      unfold itemsOf at hl
      simp only at hl
      cases hx : asL x with
      | some l' =>
        rw [hx] at hl
        cases hl
        obtain ⟨a, xs, rfl, h1, h2, h3⟩ := rx.coL hx
        exact ⟨a, xs, rfl, .inr h1.sq, h2⟩
      | none =>
        rw [hx] at hl
        obtain ⟨a, xs, rfl, h1, h2, h3⟩ := rx.coT hl
        exact ⟨a, xs, rfl, .inl h1.sq, h2⟩
  cases hi : itemsOf x with
  | none =>
    rw [hi] at eq1
    cases eq1
  | some l =>
    obtain ⟨a, xs, ev, hs, rl⟩ := pre hi
    refine ⟨a, xs, ev, hs, ?_⟩
    rw [hi] at eq1
    refine tG_bind s1 v1 eq1 k1 fun Z2 m2 H2 S2 ws vs e2 s2 v2 rw_ eq2 k2 => ?_
    cases eq2
    exact k2.fin s2 (RwL.app (rl.move e2.cold) rw_)
end
end Wr

set_option maxHeartbeats 4000000
/-! A12: exceptions of own classes below an own base: made, raised. -/
namespace Wr
open PySem PySem.Spec PyProof.Rows L2 ClX

section
variable {X : Cx} {e : Expr} {es : List Expr} {ta : TA} {p1 p2 pos : Pos} {b : Str} {PE_ : Addr} {mc : Value}
/-- Base.__init__(self, ..), Base an own class that has ValueError's -/
theorem pe_base {pl : Sem Bool} (hg : Gl X b) (hm : X.mg b = some (.ref PE_)) (rc : CRead X.K PE_ mc) (at_ : PySem.W.findCls X.K (.ref PE_) mc "__init__" = some (.val (.builtin "ValueError.__init__"))) (hdb : (b == ("__debug__" : Str)) = false) (ha : PA X (e :: es) ta)
    (hc : eval (.Call (.Attribute (.Name b p1) "__init__" p2) (e :: es) [] pos) X.env = (do
      let ov ← eval (.Name b p1) X.env
      standAt p2.atName
      let (f, first) ← holding [ov] (getMethod ov "__init__" pl)
      callWith pos f first (backTo pos (starEach (e :: es) X.env)) (backToKw pos (keywordEach [] X.env))))
    (he : starEach (e :: es) X.env = (false, eval e X.env) :: starEach es X.env) (hpl : (backTo pos (starEach es X.env)).any (·.1) = false) :
    PE X (.Call (.Attribute (.Name b p1) "__init__" p2) (e :: es) [] pos) (tVeI X.K ta) := by
  refine ⟨fun pins s σ H Q I h => PySem.W.methodCall_KW (ld_glob I hg hm ?_ hdb) hc⟩
  refine PySem.W.method_cls I.kIn rc.ga (PySem.W.cls_value I.kIn rc.rd at_ rfl ?_)
  show wpAny _ _ (callWith pos (Value.builtin "ValueError.__init__") [] (backTo pos (starEach (e :: es) X.env)) []) _ _ _
  refine PyProof.Rows.callWith_method1 (thn (ha.run pos pins _ σ H _ (I.tok _) h) fun us s1 ⟨vs, H1, I1, r1, a, C, ws, ev, hl, T, ea, q⟩ => ?_) he hpl
  subst ev
  cases r1 with
  | @cons _ u0 _ ur ra rest =>
    obtain rfl : u0 = Value.ref a := ra
    have lz : ur.length ≤ sizeLine := by
      rw [← Paired.length rest, sizeLine_eq]
      omega
    exact oinit_ok T I1 ea lz fun s' J => ⟨.non, H1, J, rfl, q⟩
end
theorem call_form {X : Cx} {b s : Str} {c : Const} {j : Nat} {p1 p2 p3 p4 pos : Pos} (hl : (p2.endLine == pos.line) = true) :
    eval (.Call (.Attribute (.Name b p1) "__init__" p2) [.Name s p3, .Constant c j p4] [] pos) X.env = (do
      let ov ← eval (.Name b p1) X.env
      standAt p2.atName
      let (f, first) ← holding [ov] (getMethod ov "__init__" (do return (← importBound (.Name b p1) X.env).getD true))
      callWith pos f first (backTo pos (starEach [.Name s p3, .Constant c j p4] X.env)) (backToKw pos (keywordEach [] X.env))) := by
  show (do
      let ov ← eval (.Name b p1) X.env
      standAt p2.atName
      methodCall (.Name b p1) "__init__" p2 pos X.env ov 2 (backTo pos (starEach [.Name s p3, .Constant c j p4] X.env)) (backToKw pos (keywordEach [] X.env))) = _
  have e : methodCallForm 2 (backTo pos (starEach [.Name s p3, .Constant c j p4] X.env)) (backToKw pos (keywordEach [] X.env)) = true := rfl
  unfold methodCall methodCallPos
  simp only [e, hl, Bool.not_true, Bool.false_or, if_true]
  rfl
/-- what __init__ does: no field -/
def spI0 (K : PySem.W.Frag) (C : Addr) : Sp := fun vs H Q _ => ∃ a, vs = [V.ref a] ∧ OexC K C ∧ H a = some (exo a C none) ∧ Q .non H
/-- .. one field -/
def spI1 (K : PySem.W.Frag) (C : Addr) (f : Str) : Sp := fun vs H Q _ => ∃ a y, vs = [V.ref a, y] ∧ OexC K C ∧ PySem.W.findIn K (.ref C) f = some none ∧ H a = some (exo a C none) ∧
  ∀ dx, H dx = none → dx ≠ a → Q .non (upd (upd H dx (exd dx [(f, y)])) a (exo a C (some dx)))
section
variable {P0 : Program} {w : World} {K : PySem.W.Frag} {mg : Str → Option Value} {base : Heap} {fa PE_ C : Addr} {fd : FuncData} {qual b x f txt : Str} {st : Stmt} {mc : Value} {p1 p2 p3 p4 p5 p6 q1 q2 q3 q4 : Pos} {j : Nat}
theorem init0_ok (F0 : Fun K "__init__" qual st fa fd) (SC : FnScope ["self"] ["self"] (defScope st)) (hm : mg b = some (.ref PE_)) (rc : CRead K PE_ mc) (at_ : PySem.W.findCls K (.ref PE_) mc "__init__" = some (.val (.builtin "ValueError.__init__"))) (hdb : (b == ("__debug__" : Str)) = false)
    (hg : (defScope st).names.lookup b = some .globalImplicit) (hs : (defScope st).names.lookup ("self" : Str) = some .local)
    (hl : (p2.endLine == p5.line) = true) (hb : defBody st = [.Expr (.Call (.Attribute (.Name b p1) "__init__" p2) [.Name "self" p3, .Constant (.str txt) j p4] [] p5) p6]) :
    FnOk P0 w K mg base (L2.CX P0 w) 1 fa fd ["self"] (spI0 K C) := by
  refine F0.okX SC (fun vs H Q E ⟨a, e, _⟩ => by rw [e]; rfl) fun cdv A outer s H vs Q E hr h => ?_
  obtain ⟨a, rfl, T, ha, q⟩ := h
  rw [hb]
  refine ⟨_, pss_one (ps_expr (pe_base (X := cxOf (L2.CX P0 w) P0 w K mg base ["self"] qual (defScope st) fa cdv A outer s H E) hg hm rc at_ hdb (pa_cons (pv 0 rfl (.inl hs)) (pa_cons pe_str pa_nil)) (call_form hl) rfl rfl) rfl), ?_⟩
  refine ⟨_, rfl, ?_⟩
  exact ⟨a, C, _, rfl, (by show 1 ≤ 1000; decide), T, ha, q⟩
theorem init1_ok (F0 : Fun K "__init__" qual st fa fd) (SC : FnScope ["self", x] ["self", x] (defScope st)) (hm : mg b = some (.ref PE_)) (rc : CRead K PE_ mc) (at_ : PySem.W.findCls K (.ref PE_) mc "__init__" = some (.val (.builtin "ValueError.__init__"))) (hdb : (b == ("__debug__" : Str)) = false)
    (hg : (defScope st).names.lookup b = some .globalImplicit) (hs : (defScope st).names.lookup ("self" : Str) = some .local) (hx : (defScope st).names.lookup x = some .local) (hxd : (x == ("__debug__" : Str)) = false) (hxc : (x == ("__classdict__" : Str)) = false)
    (hl : (p2.endLine == p5.line) = true) (hb : defBody st = [.Expr (.Call (.Attribute (.Name b p1) "__init__" p2) [.Name "self" p3, .Constant (.str txt) j p4] [] p5) p6, .Assign [.Attribute (.Name "self" q1) f q2] (.Name x q3) q4]) :
    FnOk P0 w K mg base (L2.CX P0 w) 1 fa fd ["self", x] (spI1 K C f) := by
  refine F0.okX SC (fun vs H Q E ⟨a, y, e, _⟩ => by rw [e]; rfl) fun cdv A outer s H vs Q E hr h => ?_
  obtain ⟨a, y, rfl, T, no, ha, q⟩ := h
  rw [hb]
  refine ⟨_, pss_cons (ps_expr (pe_base (X := cxOf (L2.CX P0 w) P0 w K mg base ["self", x] qual (defScope st) fa cdv A outer s H E) hg hm rc at_ hdb (pa_cons (pv 0 rfl (.inl hs)) (pa_cons pe_str pa_nil)) (call_form hl) rfl rfl) rfl)
    (pss_one (ps_ost (pv 0 rfl (.inl hs)) (pv 1 rfl (.inl hx) hxd hxc) rfl)), ?_⟩
  refine ⟨_, rfl, a, C, _, rfl, (by show 1 ≤ 1000; decide), T, ha, ?_⟩
  exact ⟨_, rfl, _, rfl, a, C, rfl, T, no, .inl ⟨ha, fun dx n ne => q dx n ne⟩⟩
end
section
variable {X : Cx} {C fI : Addr} {k : Nat} {fd : FuncData} {x : Str} {p pos : Pos}
/-- an exception without a field is let go: it stands in the heap, untold -/
theorem let_go {pins : List (Addr × Obj)} {σ : L2.St} {H : Hp} {hp hp2 h2 : Heap} {g1 g2 : Array GenState} {d1 d2 : Drawn} {t1 t2 : Nat} {os1 os2 : OsState} {a : Addr} (I : Inv X pins σ H ⟨hp, g1, d1, t1, os1⟩) (big : hp.objs.size ≤ a) (kp : ∀ b o, hp.get? b = some o → hp2.get? b = some o)
    (un : Un (frs X.stack) [] (upd H a (exo a C none)) (upd H a (exo a C none)) hp2 h2) (ok : HOk X.prog X.w (upd H a (exo a C none)) h2) (ho : os2 = os1) (hb : AllBare g2) :
    ∃ (t0 : Addr) (G : Heap), Inv X pins σ H ⟨G, g2, d2, t2, os2⟩ ∧ (∀ b o, G.get? b = some o → h2.get? b = some o) ∧ G.get? a = none ∧ h2.get? a = some ({ cls := .ref C, dict := none, data := .fields #[.ref t0, .none, .none, .none, .bool false, .none] } : Obj) ∧ H a = none := by
  have na : H a = none := I.hok.fresh big
  have ea : (upd H a (exo a C none)) a = some (exo a C none) := upd_same
  obtain ⟨t0, at0⟩ := exo_at ok ea
  obtain ⟨G, in1, out1⟩ := restrict h2 fun b => decide (b ≠ a)
  have gk : ∀ b, b ≠ a → G.get? b = h2.get? b := fun b z => in1 b (decide_eq_true z)
  have ga : G.get? a = none := out1 a (by simp)
  have old : ∀ {b : Addr} {o : Obj}, hp.get? b = some o → b ≠ a := fun {b o} z => Nat.ne_of_lt (Nat.lt_of_lt_of_le (Heap.lt_size z) big)
  have off : ∀ {b : Addr}, b ≠ a → H b = none → upd H a (exo a C none) b = none := fun {b} z n => by rw [upd_ne z]; exact n
  have U : Un (frs X.stack) [] H H hp G := {
    keep := fun b o z n q r => by
      rw [gk b (old z)]
      exact un.keep b o (kp b o z) (off (old z) n) q r
    slot := fun b o z n q r => by
      rw [gk b (old z)]
      exact un.slot b o (kp b o z) (off (old z) n) q r
    free := fun _ _ _ n _ => n
    there := fun b o z r => by
      rw [gk b (old z)]
      exact un.there b o (kp b o z) r
    tups := fun _ _ z => z
    frzs := fun _ _ _ z => z
    tbls := fun _ _ z => ⟨#[], by rw [Array.append_empty]; exact z⟩ }
  have ok1 : HOk X.prog X.w H G := fun b o z => by
    have ne : b ≠ a := fun e => by rw [e, na] at z; cases z
    have z1 : upd H a (exo a C none) b = some o := by rw [upd_ne ne]; exact z
    have own : ∀ {c : Addr}, upd H a (exo a C none) c = some (.own b) → c ≠ a := fun {c} q => at_ne ea q exo_own
    refine (ok b o z1).stay (fun c v q y => ?_) (fun c q => ?_) fun c xs q => ?_
    · have nc : c ≠ a := by
        rcases q with q | q
        · rw [q]; exact ne
        · exact own q
      rw [gk c nc]
      exact y
    · rw [upd_ne (own q)] at q
      exact q
    · rw [upd_ne (at_ne ea q exo_tup)] at q
      exact q
  refine ⟨t0, G, I.call' (ch := []) ho U ok1 hb (fun b z => absurd z (by simp)), fun b o z => ?_, ga, at0, na⟩
  by_cases e : b = a
  · rw [e, ga] at z
    cases z
  · exact (gk b e).symm.trans z
theorem no_pass {P0 : Program} {w : World} (hP : P0 = X.prog) (hw : w = X.w) : Passes (L2.CX X.prog X.w) X (fun _ _ _ => False) := fun _ _ _ _ _ _ _ ⟨_, _, _, _, _, _, _, _, _, _, _, _, q⟩ => q.elim
theorem pmk0 (T : OexC X.K C) (iC : PySem.W.findIn X.K (.ref C) "__init__" = some (some (.ref fI))) (tI : PySem.W.typeIn X.K (.ref fI) = some (.type "function")) (F1 : FnOk X.prog X.w X.K X.mg X.base (L2.CX X.prog X.w) k fI fd ["self"] (spI0 X.K C)) (hr : Room (k + 1) X.A)
    (hb : Binds X.K fd ["self"] []) (hg : Gl X x) (hm : X.mg x = some (.ref C)) (hdb : (x == ("__debug__" : Str)) = false) : PMk X (.Call (.Name x p) [] [] pos) (fun _ H Q => Q (.ref C) none H) := by
  intro pins s σ H Q I h
  obtain ⟨nm, q, N, bs, bm, sn, sub, ab, col, dd, k0, k1, k2, k3, k5, hC, hbm⟩ := T.cls
  refine wpAny_Call_Name_kw (ld_glob I hg hm ?_ hdb)
  refine PySem.W.callWith_K0 I.kIn T.kC ?_
  show wpAny _ _ (call (.ref C) []) _ _ _
  obtain ⟨hp, g, dr, tk, os⟩ := s
  have big : hp.objs.size ≤ hp.objs.size + 1 := Nat.le_succ _
  have na : H (hp.objs.size + 1) = none := I.hok.fresh big
  have kp : ∀ b o, hp.get? b = some o → ((hp.push (PySem.W.kdv_tup [])).push (PySem.HandSPX.excO C hp.objs.size)).get? b = some o := fun b o e => Heap.get?_push_of_some _ (Heap.get?_push_of_some _ e)
  have at_ : ((hp.push (PySem.W.kdv_tup [])).push (PySem.HandSPX.excO C hp.objs.size)).get? (hp.objs.size + 1) = some (PySem.HandSPX.excO C hp.objs.size) := by heap_get
  have I2 : Inv X pins σ (upd H (hp.objs.size + 1) (exo (hp.objs.size + 1) C none)) ⟨(hp.push (PySem.W.kdv_tup [])).push (PySem.HandSPX.excO C hp.objs.size), g, dr, tk, os⟩ :=
    I.laid (t' := tk) (a := hp.objs.size + 1) (o := exo (hp.objs.size + 1) C none) (h' := (hp.push (PySem.W.kdv_tup [])).push (PySem.HandSPX.excO C hp.objs.size)) kp big (exo_ok at_)
  have hq : spI0 X.K C [V.ref (hp.objs.size + 1)] (upd H (hp.objs.size + 1) (exo (hp.objs.size + 1) C none)) (fun v H2 => v = .non ∧ H2 = upd H (hp.objs.size + 1) (exo (hp.objs.size + 1) C none)) (fun _ _ _ => False) := ⟨_, rfl, T, upd_same, rfl, rfl⟩
  refine wpAny_call (PySem.HandSPX.call_own F.excBase_ValueError (fun Y => PySem.HandSPX.refsVE_contains Y bm hbm) (I.kIn _ _ hC) (PySem.W.looks_findIn I.kIn iC) (fun self => PySem.W.bind_fn I.kIn self tI) (by rw [sizeLine_eq]; decide)
    (codeAny_mono (F1.run _ X.stack _ _ ⟨[Value.ref (hp.objs.size + 1)], []⟩ [Value.ref (hp.objs.size + 1)] _ _ (fun _ _ _ => False) (hr.make C [] []) (I2.env0.make C [] []) (hb _ [Value.ref (hp.objs.size + 1)] I2.kIn rfl) (.cons (show RelV (V.ref (hp.objs.size + 1)) (Value.ref (hp.objs.size + 1)) from rfl) .nil) hq) fun r s1 hr1 => ?_))
  cases r with
  | error er => exact no_pass rfl rfl pins σ _ _ er s1 I2 hr1
  | ok fl =>
    cases fl with
    | ret u =>
      obtain ⟨v, H2, os2, bare2, un2, ok2, rv, ev, eH⟩ := hr1
      subst ev
      subst eH
      obtain ⟨h2, g2, d2, t2, os'⟩ := s1
      obtain ⟨t0, G, J, kG, ga, a0, n0⟩ := let_go (d2 := d2) (t2 := t2) I big kp un2 ok2 os2 bare2
      exact ⟨rv, _, _, _, ⟨G, g2, d2, t2, os'⟩, H, .ref C, none, rfl, J, kG, ga, a0, ⟨rfl, rfl⟩, rfl, rfl, n0, rfl, bare2, raises_own T.exC T.tyC, h⟩
    | next => exact False.elim hr1
    | brk => exact False.elim hr1
    | cont => exact False.elim hr1
end
end Wr

set_option maxHeartbeats 4000000
/-! A13: raise. -/
namespace Wr
open PySem PySem.Spec PyProof.Rows L2 ClX

/-- an own exception class: its __init__ takes one value, the field, or none -/
def XFact (P0 : Program) (w : World) (K : PySem.W.Frag) (mg : Str → Option Value) (base : Heap) (c : Str) (fo : Option Str) : Prop :=
  ∃ C fI fd, mg c = some (.ref C) ∧ OexC K C ∧ PySem.W.findIn K (.ref C) "__init__" = some (some (.ref fI)) ∧ PySem.W.typeIn K (.ref fI) = some (.type "function") ∧
    match fo with
    | none => FnOk P0 w K mg base (L2.CX P0 w) 1 fI fd ["self"] (spI0 K C) ∧ Binds K fd ["self"] []
    | some f => ∃ x : Str, FnOk P0 w K mg base (L2.CX P0 w) 1 fI fd ["self", x] (spI1 K C f) ∧ Binds K fd ["self", x] [] ∧ PySem.W.findIn K (.ref C) f = some none
def fRaise0 (c : Str) : FS := fun ρ S => some (.exc c [] ρ, S)
def fRaise1 (c f : Str) (fe : F Wv) : FS := bindS fe fun w => fun ρ S => match w with
  | .p y => some (.exc c [(f, y)] ρ, S)
  | .loc _ => none
section
variable {X : Cx} {W : WX} {c f : Str} {e : Expr} {fe : F Wv} {p pos rpos : Pos}
theorem ss_raise0 (hc : X.calm = true) (tk : Takes X W) (hr : Room 2 X.A) (F0 : XFact X.prog X.w X.K X.mg X.base c none) (hg : Gl X c) (hdb : (c == ("__debug__" : Str)) = false) :
    SS X W (.Raise (some (.Call (.Name c p) [] [] pos)) none rpos) (fRaise0 c) := by
  obtain ⟨C, fI, fd, hm, T, iC, tI, F1, hb⟩ := F0
  refine ps_weak (ps_raise hc tk (pmk0 T iC tI F1 hr hb hg hm hdb)) fun D σ H ⟨B, Z, m, ρ, S, r, S', s, v, eq, k⟩ => ?_
  cases eq
  exact k Z m H Ext.refl s _ _ σ v ⟨C, hm, rfl, .inl rfl⟩
theorem ss_raise1 (hc : X.calm = true) (tk : Takes X W) (hr : Room 2 X.A) (F0 : XFact X.prog X.w X.K X.mg X.base c (some f)) (hg : Gl X c) (hdb : (c == ("__debug__" : Str)) = false) (he : SE X W e fe)
    (h1 : starEach [e] X.env = (false, eval e X.env) :: starEach [] X.env) :
    SS X W (.Raise (some (.Call (.Name c p) [e] [] pos)) none rpos) (fRaise1 c f fe) := by
  obtain ⟨C, fI, fd, hm, T, iC, tI, x, F1, hb, no⟩ := F0
  refine ps_weak (ps_raise hc tk (pmk_oex T iC tI F1 hr hb .nil (no_pass rfl rfl) hg hm (pa_cons he pa_nil h1) hdb h1 rfl)) fun D σ H ⟨B, Z, m, ρ, S, r, S', s, v, eq, k⟩ => ?_
  refine tS_bind s v eq k fun Z1 m1 H1 S1 w y e1 s1 v1 rw_ eq1 k1 => ?_
  cases rw_ with
  | loc _ => cases eq1
  | @p _ q ry =>
    cases eq1
    refine ⟨by show 1 ≤ 1000; decide, fun a na => ⟨a, y, rfl, T, no, upd_same, fun dx nd ne => ⟨rfl, dx, [(f, y)], upd_same, ?_, ?_, ?_⟩⟩⟩
    · rw [upd_ne ne, upd_same]
    · rw [upd_ne ne] at nd; exact nd
    · have nd1 : H1 dx = none := by rw [upd_ne ne] at nd; exact nd
      have eH : upd (del (upd (upd (upd H1 a (exo a C none)) dx (exd dx [(f, y)])) a (exo a C (some dx))) a) dx (.xd [(f, y)]) = upd H1 dx (.xd [(f, y)]) := by
        funext b
        by_cases hb1 : b = dx
        · rw [hb1, upd_same, upd_same]
        · rw [upd_ne hb1, upd_ne hb1]
          by_cases hb2 : b = a
          · rw [hb2, del_same, na]
          · rw [del_ne hb2, upd_ne hb2, upd_ne hb1, upd_ne hb2]
      rw [eH]
      have ex : Ext B Z1 m1 H1 Z1 m1 (upd H1 dx (.xd [(f, y)])) := ext_new nd1
      refine k1 _ _ _ ex (s1.new nd1) _ _ σ (v1.move ex) ⟨C, hm, rfl, .inr ⟨dx, _, rfl, s1.cold_new nd1, upd_same, fun g pp hg => ?_⟩⟩
      rw [List.lookup_cons] at hg
      cases hgf : (g == f) with
      | false => rw [hgf] at hg; cases hg
      | true =>
        rw [hgf] at hg
        cases hg
        exact ⟨y, by rw [List.lookup_cons, hgf], ry.move ex.cold⟩
end
end Wr

set_option maxHeartbeats 4000000
/-! A14: try with several clauses, with names and without. -/
namespace Wr
open PySem PySem.Spec PyProof.Rows L2 ClX

/-- a clause: its class, the slot of its name, what its suite does -/
abbrev Cl := Value × Option Nat × (Addr → Value → Option Addr → TS)
/-- the ends of a suite whose name goes behind it -/
def dropN (i : Nat) (D : Ends) : Ends := { nx := fun σ H => D.nx (σ.set i none) H, rt := D.rt, bk := fun σ H => D.bk (σ.set i none) H, ct := fun σ H => D.ct (σ.set i none) H }
def wMix (K : PySem.W.Frag) (Wout : WX) (D : Ends) : List Cl → WX
  | [] => Wout
  | (c, none, ts) :: r => fun cls d σ H => ∃ b, PySem.W.exmOne K cls c = some b ∧ (b = true → ∀ a, H a = none → ts a cls d D σ H) ∧ (b = false → wMix K Wout D r cls d σ H)
  | (c, some i, ts) :: r => fun cls d σ H => ∃ b, PySem.W.exmOne K cls c = some b ∧ (b = true → ∀ a, H a = none → ts a cls d (dropN i D) (σ.set i (some (.ref a))) H) ∧ (b = false → wMix K Wout D r cls d σ H)
abbrev SuiteOk (X : Cx) (sts : List Stmt) (ts : Addr → Value → Option Addr → TS) : Prop :=
  ∀ (a : Addr) (oe : Obj) (cls : Value) (d : Option Addr) (pn : List (Addr × Obj)), Zc cls d oe → (∃ vs, oe.data = .fields vs) → PSs (X.suite a ((a, oe) :: pn)) sts (ts a cls d)
inductive ClsOk (X : Cx) : List ExceptHandler → List Cl → Prop
  | nil : ClsOk X [] []
  | plain {x : Str} {c : Value} {ts : Addr → Value → Option Addr → TS} {b₀ : Stmt} {sts : List Stmt} {np hp : Pos} {hs : List ExceptHandler} {l : List Cl} : Names X x c → SuiteOk X (b₀ :: sts) ts → ClsOk X hs l → ClsOk X (.ExceptHandler (some (.Name x np)) none (b₀ :: sts) hp :: hs) ((c, none, ts) :: l)
  | named {x n : Str} {i : Nat} {c : Value} {ts : Addr → Value → Option Addr → TS} {b₀ : Stmt} {sts : List Stmt} {np hp : Pos} {hs : List ExceptHandler} {l : List Cl} : Names X x c → X.N.Nodup → X.N[i]? = some n → X.env.kindOf n = some .local → SuiteOk X (b₀ :: sts) ts → ClsOk X hs l →
      ClsOk X (.ExceptHandler (some (.Name x np)) (some n) (b₀ :: sts) hp :: hs) ((c, some i, ts) :: l)
section
variable {X : Cx} {body : List Stmt} {h0 : ExceptHandler} {hs : List ExceptHandler} {l : List Cl} {pos : Pos} {tb : WX → TS} {Wout : WX}
theorem ps_try_mix (stk : X.stack = X.env :: X.outer) (frm : X.env.frame = some X.env.locals) (tk : Takes X Wout)
    (hb : ∀ (W : WX) (pn : List (Addr × Obj)) (xe : Value → Shared → Prop), Takes (X.tr pn xe) W → PassesOwn (model X.prog X.w) X.A X.env xe → PSs (X.tr pn xe) body (tb W))
    (hh : ClsOk X (h0 :: hs) l) : PS X (.Try body (h0 :: hs) [] [] pos) (fun D σ H => tb (wMix X.K Wout D l) D σ H) := by
  refine ⟨fun pins s σ H D I goal => wpAny_Try_except ?_⟩
  have ok := I.ok
  have frames : X.A.frames = some (X.env :: X.outer) := by rw [ok.frames, stk]
  refine wpAny_mono ((hb (wMix X.K Wout D l) (X.pn ++ pins) (fun e s1 => wpAny (model X.prog X.w) X.A (noteFrame e X.env) (fun _ s2 => wpAny (model X.prog X.w) X.A (setFlight e none) (fun _ s3 =>
    wpAny (model X.prog X.w) X.A (handleBy e X.env (h0 :: hs)) (SP X pins D) X.xe s3) X.xe s2) X.xe s1) (fun u s1 air => ?_) PassesOwn.looking).run [] s σ H D (I.toTry _) goal) (fun fl s1 done => ?_) (fun e s1 z => z)
  · obtain ⟨a, B, sI, pins1, σ1, H1, cls, d, rfl, J1, nb, up, sky, na, os, bare, wish⟩ := air
    have J : Inv X pins σ1 H1 sI := J1.ofTry ok
    have sky1 : Sky B (X.env :: X.outer) a (Zc cls d) X.env.locals s1.heap := by rw [← stk]; exact sky
    show wpAny (model X.prog X.w) X.A (noteFrame (.ref a) X.env) _ _ _
    refine Sky.land Zc.steady frames frm sky1 fun h3 fl3 up3 => ?_
    have J3 : Inv X pins σ1 H1 { s1 with heap := h3 } := J.landed nb fl3.1 (up.trans up3) os bare
    obtain ⟨oe3, vs3, at3, z3, dt3⟩ := fl3.there
    have offFrames : ∀ {h : Heap} {o : Obj} {vs : Array Value}, h.FunFrames B (X.env :: X.outer) → h.get? a = some o → o.data = .fields vs → a ∉ frs (X.env :: X.outer) := fun {h o vs} ff e dd mm => by
      obtain ⟨_, o1, e1, nf⟩ := ff.mem mm
      rw [e] at e1
      cases e1
      exact nf _ dd
    have off := offFrames fl3.2.2.1 at3 dt3
    have nL : a ≠ X.env.locals := fun z => off (List.mem_filterMap.mpr ⟨X.env, List.mem_cons_self, by rw [frm, z]⟩)
    have nF : a ∉ X.fs := fun mm => by
      obtain ⟨en, hen, q⟩ := List.mem_filterMap.mp mm
      exact off (List.mem_filterMap.mpr ⟨en, List.mem_cons_of_mem _ hen, q⟩)
    have S3 := J3.suite at3 dt3 na nL nF
    have ask : ∀ {x : Str} {np : Pos} {c : Value} {Q : Value → Shared → Prop} {E : Value → Shared → Prop}, Names X x c → Q c { s1 with heap := h3 } → wpAny (model X.prog X.w) (X.A.mark (some (.ref a))) (eval (.Name x np) X.env) Q E { s1 with heap := h3 } := fun {x np c Q E} nm q => by
      obtain ⟨g1, g2, g3 | ⟨g3, g4, g5⟩⟩ := nm
      · exact ld_glob (X := X.suite a ((a, oe3) :: (X.pn ++ pins))) S3 g1 g3 q g2
      · exact ld_blt (X := X.suite a ((a, oe3) :: (X.pn ++ pins))) S3 g1 g3 g4 q g5 g2
    have isC : PySem.W.Looks (model X.prog X.w) h3 (typeOf (.ref a)) cls := fun A Q E s kk q => wpAny_typeOf_ref (kk _ _ at3) (by rw [z3.1]; exact q)
    have walk : ∀ {hs1 : List ExceptHandler} {l1 : List Cl}, ClsOk X hs1 l1 → wMix X.K Wout D l1 cls d σ1 H1 → wpAny (model X.prog X.w) X.A (handleBy (.ref a) X.env hs1) (SP X pins D) X.xe { s1 with heap := h3 } := by
      intro hs1 l1 hk
      induction hk with
      | nil =>
        intro wo
        refine wpAny_handleBy_nil ?_
        obtain ⟨k1, k2, k3, oe, vs, T, oT, ts', he, hz, hd, e1, hr⟩ := id fl3
        unfold PySem.passOn
        refine wpAny_bind (wpAny_field he hd e1 ?_)
        rw [if_neg (show ¬ ((Value.ref T == Value.none) = true) from by simp)]
        have last : wpAny (model X.prog X.w) X.A (setFlight (.ref a) X.env.frame) (fun _ s4 => wpAny (model X.prog X.w) X.A (throw (.ref a) : Sem Flow) (SP X pins D) X.xe s4) X.xe { s1 with heap := h3 } := by
          rw [frm]
          refine HandSPX.setFlight_upZ fl3 fun h4 held up4 => wpAny_throw (tk _ _ ?_)
          exact ⟨a, B, sI, pins, σ1, H1, cls, d, rfl, J, nb, (up.trans up3).trans up4, .inr (.inr (by rw [stk]; exact held)), na, os, bare, wo⟩
        first
          | exact wpAny_bind (wpAny_pure (wpAny_bind last))
          | exact wpAny_bind last
      | @plain x c ts b₀ sts np hp hs2 l2 nm hsu r ih =>
        intro wo
        obtain ⟨b, hb1, yes, no⟩ := wo
        refine wpAny_handleBy_cons (codeAny_handlers_test ?_) (by intro q; cases q)
        refine ask nm ((PySem.W.exm_one (M := model X.prog X.w) J3.kIn isC hb1).here ?_)
        cases b with
        | false =>
          show wpAny _ X.A (handleBy (.ref a) X.env hs2) _ _ _
          exact ih (no rfl)
        | true =>
          refine codeAny_handlers_suite (HandSPX.lands_againZ fl3 fun h4 fl4 up4 => ?_)
          have J4 : Inv X pins σ1 H1 { s1 with heap := h4 } := J.landed nb fl4.1 ((up.trans up3).trans up4) os bare
          obtain ⟨oe4, vs4, at4, z4, dt4⟩ := fl4.there
          refine wpAny_mono ((hsu a oe4 cls d (X.pn ++ pins) z4 ⟨_, dt4⟩).run [] _ _ H1 _ (J4.suite at4 dt4 na nL nF) (yes rfl a na)) (fun fl s6 q => ?_) (fun _ _ z => z.elim)
          cases fl with
          | next =>
            obtain ⟨σ6, H6, S6, q6⟩ := q
            exact ⟨_, _, S6.unsuite ok, q6⟩
          | brk =>
            obtain ⟨σ6, H6, S6, q6⟩ := q
            exact ⟨_, _, S6.unsuite ok, q6⟩
          | cont =>
            obtain ⟨σ6, H6, S6, q6⟩ := q
            exact ⟨_, _, S6.unsuite ok, q6⟩
          | ret u =>
            obtain ⟨v6, σ6, H6, S6, r6, q6⟩ := q
            exact ⟨_, _, _, S6.unsuite ok, r6, q6⟩
      | @named x n i c ts b₀ sts np hp hs2 l2 nm nd hi hl hsu r ih =>
        intro wo
        obtain ⟨b, hb1, yes, no⟩ := wo
        refine wpAny_handleBy_cons (codeAny_handlers_test ?_) (by intro q; cases q)
        refine ask nm ((PySem.W.exm_one (M := model X.prog X.w) J3.kIn isC hb1).here ?_)
        cases b with
        | false =>
          show wpAny _ X.A (handleBy (.ref a) X.env hs2) _ _ _
          exact ih (no rfl)
        | true =>
          refine codeAny_handlers_suite_as (HandSPX.lands_againZ fl3 fun h4 fl4 up4 => ?_)
          have J4 : Inv X pins σ1 H1 { s1 with heap := h4 } := J.landed nb fl4.1 ((up.trans up3).trans up4) os bare
          obtain ⟨oe4, vs4, at4, z4, dt4⟩ := fl4.there
          refine store_ok (X := X.suite a ((a, oe4) :: (X.pn ++ pins))) (v := .ref a) (J4.suite at4 dt4 na nL nF) nd hi (.inl hl) rfl (fun s5 S5 => ?_) (.inr hl)
          refine wpAny_mono ((hsu a oe4 cls d (X.pn ++ pins) z4 ⟨_, dt4⟩).run [] s5 _ H1 _ S5 (yes rfl a na)) (fun fl s6 q => ?_) (fun _ _ z => z.elim)
          have goes : ∀ {σ6 : L2.St} {H6 : Hp} {Q : Shared → Prop}, Inv (X.suite a ((a, oe4) :: (X.pn ++ pins))) [] σ6 H6 s6 → (∀ s7, Inv X pins (σ6.set i none) H6 s7 → Q s7) →
              wpAny (model X.prog X.w) X.A (do bindName X.env n .none; unbindBehindTheSuite X.env n hp) (fun _ s7 => Q s7) X.xe s6 := fun {σ6 H6 Q} S6 q => gone_ok (S6.unsuite ok) nd hi hl q
          cases fl with
          | next =>
            obtain ⟨σ6, H6, S6, q6⟩ := q
            exact goes S6 fun s7 J7 => ⟨_, _, J7, q6⟩
          | brk =>
            obtain ⟨σ6, H6, S6, q6⟩ := q
            exact goes S6 fun s7 J7 => ⟨_, _, J7, q6⟩
          | cont =>
            obtain ⟨σ6, H6, S6, q6⟩ := q
            exact goes S6 fun s7 J7 => ⟨_, _, J7, q6⟩
          | ret u =>
            obtain ⟨v6, σ6, H6, S6, r6, q6⟩ := q
            exact goes S6 fun s7 J7 => ⟨_, _, _, J7, r6, q6⟩
    exact walk hh wish
  · cases fl with
    | next =>
      obtain ⟨σ1, H1, J1, q⟩ := done
      exact wpAny_execs_nil ⟨σ1, H1, J1.ofTry ok, q⟩
    | brk =>
      obtain ⟨σ1, H1, J1, q⟩ := done
      exact ⟨σ1, H1, J1.ofTry ok, q⟩
    | cont =>
      obtain ⟨σ1, H1, J1, q⟩ := done
      exact ⟨σ1, H1, J1.ofTry ok, q⟩
    | ret u =>
      obtain ⟨v1, σ1, H1, J1, r1, q⟩ := done
      exact ⟨v1, σ1, H1, J1.ofTry ok, r1, q⟩
end
end Wr

set_option maxHeartbeats 4000000
/-! A15: str, lower; the suites of except clauses; try. -/
namespace Wr
open PySem PySem.Spec PyProof.Rows L2 ClX

/-! ### str(..), .lower() -/
theorem call_str_none {X : Cx} : CallR X (.type "str") (fun xs H Q => xs = [V.non] ∧ Q (.str "None") H) := by
  intro pins s σ H xs us Q I r h
  obtain ⟨rfl, q⟩ := h
  obtain ⟨u, rfl, ru⟩ := vals1 r
  cases ru
  exact PySem.P.str_of_none ⟨.str _, H, I.tok _, ⟨_, rfl⟩, q⟩
def lowP : P → Option P
  | .str x => if x.length ≤ 5592405 ∧ PySem.PyData.strOk (Txt.lower x) = true then some (.str (Txt.lower x)) else none
  | _ => none
def strP1 : P → Option P
  | .str x => some (.str x)
  | .int i => if i.natAbs.log2 < 1920 ∧ PySem.PyData.strOk (Str.ofString (toString i)) = true then some (.str (Str.ofString (toString i))) else none
  | .non => some (.str "None")
  | _ => none
/-! ### what a clause hands back -/
inductive HX where
  | con (p : P) | fld (f : Str) | pair (a b : HX) | cat (a b : HX) | slow (a : HX)
def conP : P → Bool
  | .non => true | .bl _ => true | .int _ => true | .str x => PySem.PyData.strOk x | _ => false
/-- ok: the error's class is the clause's own -/
def evH (ok : Bool) (fs : List (Str × P)) : HX → Option P
  | .con p => if conP p then some p else none
  | .fld f => if ok then fs.lookup f else none
  | .pair a b => match evH ok fs a, evH ok fs b with
    | some x, some y => some (.tup [x, y])
    | _, _ => none
  | .cat a b => match evH ok fs a, evH ok fs b with
    | some x, some y => catStr x y
    | _, _ => none
  | .slow a => match evH ok fs a with
    | some x => (strP1 x).bind lowP
    | none => none
/-- the caught error a, of class cls with dict d; n its name in slot i; xn the clause's class -/
def tH (X : Cx) (i : Option Nat) (xn : Str) (hx : HX) (a : Addr) (cls : Value) (d : Option Addr) : TE := fun σ H Q =>
  ∃ B Z m S c fs p, SOk X.K X.gl B Z m H S ∧ (∀ j, i = some j → σ[j]? = some (some (.ref a))) ∧ ExR X.K X.gl Z H c fs cls d ∧ evH (c == xn) fs hx = some p ∧
    ∀ H' v, Ext B Z m H Z m H' → SOk X.K X.gl B Z m H' S → Rp X.K X.gl Z H' v p → Q v H'
theorem ExR.ext {K : PySem.W.Frag} {mg : Mg} {B Z : Addr → Prop} {m : List Addr} {H H' : Hp} {c : Str} {fs : List (Str × P)} {cls : Value} {d : Option Addr} (h : ExR K mg Z H c fs cls d) (e : Ext B Z m H Z m H') : ExR K mg Z H' c fs cls d := by
  obtain ⟨C, h1, h2, h3⟩ := h
  refine ⟨C, h1, h2, h3.imp id fun ⟨dx, xs, q1, q2, q3, q4⟩ => ⟨dx, xs, q1, q2, e.cold.same dx _ q3 q2 nt_xd, fun f p hf => ?_⟩⟩
  obtain ⟨v, r1, r2⟩ := q4 f p hf
  exact ⟨v, r1, r2.move e.cold⟩
end Wr

set_option maxHeartbeats 4000000
/-! A16: - x; dict comprehensions over data. -/
namespace Wr
open PySem PySem.Spec PyProof.Rows L2

def negP : P → Option P
  | .int i => some (.int (-i))
  | _ => none
theorem se_neg {X : Cx} {W : WX} {a : Expr} {fa : F Wv} {pos : Pos} (ha : SE X W a fa) : SE X W (.UnaryOp .USub a pos) (fOne negP fa) := by
  refine pe_weak (pe_un un_neg ha) fun σ H Q ⟨B, Z, m, ρ, S, r, S', s, v, eq, k⟩ => ?_
  refine tG_bind s v eq k fun Z1 m1 H1 S1 w u e1 s1 v1 ra eq1 k1 => ?_
  cases hv : view w S1 with
  | none => rw [hv] at eq1; cases eq1
  | some x =>
    rw [hv] at eq1
    simp only at eq1
    cases x <;> simp only [negP] at eq1 <;> first | (cases eq1; done) | skip
    cases eq1
    exact ⟨_, (view_ok s1 ra hv).intI, k1.fin s1 (.p (.int _))⟩
/-! ### {k: v for x in xs if t} -/
def dcP (g : FG) (ft : F Bool) (fk fv : F Wv) (ρ : Vars) : List P → List (Key × P) → List Ob → Option (List (Key × P) × List Ob)
  | [], acc, S => some (acc, S)
  | x :: r, acc, S => match g (.p x) ρ S with
    | none => none
    | some ρ1 => match ft ρ1 S with
      | some (.ok true, S1) => match fk ρ1 S1 with
        | some (.ok (.p y), S2) => match fv ρ1 S2 with
          | some (.ok (.p z), S3) => match keyP y with
            | some kk => dcP g ft fk fv ρ r (putP acc kk z) S3
            | none => none
          | _ => none
        | _ => none
      | some (.ok false, S1) => dcP g ft fk fv ρ r acc S1
      | _ => none
def fDc (vs : List Nat) (fi : F (List P)) (g : FG) (ft : F Bool) (fk fv : F Wv) : F Wv := bindF fi fun l => fun ρ S =>
  match dcP g ft fk fv (wipeV ρ vs) l [] S with
  | some (l', S') => some (.ok (.p (.dK l')), S')
  | none => none
/-- the comprehension on its way: its dict at D -/
def DAt (X : Cx) (B Z : Addr → Prop) (m : List Addr) (H : Hp) (D : Addr) (σ : L2.St) (ρ : Vars) (i : Nat) (rest : List (Key × P) → List Ob → Prop) (H' : Hp) : Prop :=
  ∃ Zc m' S' acc us, Ext B Z m H Zc m' H' ∧ SOk X.K X.gl (Zp B D) Zc m' H' S' ∧ H' D = some (.dK us) ∧ RpK X.K X.gl Zc H' us acc ∧ us.length ≤ i ∧ EnvOk X.K X.gl Zc m' H' σ ρ ∧ rest acc S'
section
variable {X : Cx} {W : WX} {kx vx tg iter : Expr} {ifs : List Expr} {scope : Scope} {nms : List (Str × Nat)} {pos : Pos} {fi : F (List P)} {g : FG} {is : List Nat} {ft : F Bool} {fk fv : F Wv}
theorem dc_read {σ : L2.St} {H : Hp} {Q : VK} {vs : List Nat} (his : ∀ j ∈ is, j ∈ vs) (h : tG relW X W (fDc vs fi g ft fk fv) σ H Q) : tDc (tG relI X W fi) (tGt X is g) (tG relB X W0 ft) (tG relW X W0 fk) (tG relW X W0 fv) vs σ H Q := by
  obtain ⟨B, Z, m, ρ, S, r, Sf, s, v, eq, k⟩ := h
  refine tG_bind s v eq k fun Z1 m1 H1 S1 l J e1 s1 v1 ra eq1 k1 => ?_
  obtain ⟨hl, ya⟩ := ra
  intro D hD
  cases hc : dcP g ft fk fv (wipeV ρ vs) l [] S1 with
  | none => simp only [hc] at eq1; cases eq1
  | some q =>
    obtain ⟨l', S2⟩ := q
    simp only [hc] at eq1
    obtain ⟨i1, i2⟩ := enterD (K := X.K) (mg := X.gl) (o := .dK []) s1 hD nt_dK
    refine ⟨fun i n H' => n = l.length - i ∧ i ≤ l.length ∧ DAt X B Z1 m1 H1 D (wipe σ vs) (wipeV ρ vs) i (fun acc S' => dcP g ft fk fv (wipeV ρ vs) (l.drop i) acc S' = some (l', S2)) H',
      ⟨l.length, by simp, Nat.zero_le _, _, m1, S1, [], [], i1, i2, upd_same, .nil, Nat.le_refl _, (v1.wipe vs).move i1, by simpa using hc⟩, ?_⟩
    rintro i n H' ⟨rfl, hi, Zc, m', S', acc, us, e2, s2, hDl, rl, hus, v2, eq2⟩
    obtain ⟨hst, hgo⟩ := ya Zc H' e2.cold
    by_cases hlt : i < l.length
    · right
      have hx : l[i]? = some l[i] := List.getElem?_eq_getElem hlt
      obtain ⟨g1, g2⟩ := hgo i l[i] hx
      rw [List.drop_eq_getElem_cons hlt] at eq2
      unfold dcP at eq2
      refine ⟨g1, DAt X B Z1 m1 H1 D (wipe σ vs) (wipeV ρ vs) (i + 1) (fun acc S' => dcP g ft fk fv (wipeV ρ vs) (l.drop (i + 1)) acc S' = some (l', S2)), fun H3 h3 => ⟨l.length - (i + 1), by omega, rfl, hlt, h3⟩, fun u H2 hy => ?_⟩
      obtain ⟨e3, s3, r3⟩ := yld_ok (X := X) s2 (g2 u H2 hy)
      cases hg1 : g (.p l[i]) (wipeV ρ vs) S' with
      | none => simp only [hg1] at eq2; cases eq2
      | some ρ1 =>
        simp only [hg1] at eq2
        refine ⟨Zp B D, Zc, m', wipeV ρ vs, S', .p l[i], ρ1, s3, v2.move e3, .p r3, hg1, fun σ3 v3 ag => ⟨wipe_agree ag his, ?_⟩⟩
        have hD3 : H2 D = some (.dK us) := e3.same D _ hDl (.inr (.inr rfl)) nt_dK
        have e13 : Ext B Z1 m1 H1 Zc m' H2 := e2.transB e3 fun _ z => .inl z
        have rl3 := rl.move e3.cold
        cases ht1 : ft ρ1 S' with
        | none => simp only [ht1] at eq2; cases eq2
        | some qt =>
          obtain ⟨rt, S3⟩ := qt
          simp only [ht1] at eq2
          refine ⟨Zp B D, Zc, m', ρ1, S', rt, S3, s3, v3, ht1, fun Z4 m4 H4 e4 s4 => ?_⟩
          have e14 := e13.transB e4 fun _ z => .inl z
          have hD4 : H4 D = some (.dK us) := e4.same D _ hD3 (.inr (.inr rfl)) nt_dK
          have rl4 := rl3.move e4.cold
          have w4 := (v2.move e3).move e4
          match rt, eq2 with
          | .ok false, eq2 =>
            intro b hb
            cases hb
            exact iteF ⟨Z4, m4, S3, acc, us, e14, s4, hD4, rl4, Nat.le_succ_of_le hus, w4, eq2⟩
          | .ok true, eq2 =>
            intro b hb
            cases hb
            refine iteT ?_
            cases hk1 : fk ρ1 S3 with
            | none => simp only [hk1] at eq2; cases eq2
            | some qk =>
              obtain ⟨rk, S5⟩ := qk
              simp only [hk1] at eq2
              refine ⟨Zp B D, Z4, m4, ρ1, S3, rk, S5, s4, v3.move e4, hk1, fun Z5 m5 H5 e5 s5 => ?_⟩
              match rk, eq2 with
              | .ok (.p y), eq2 =>
                intro wk rwk
                cases rwk with
                | p ry =>
                  cases hv1 : fv ρ1 S5 with
                  | none => simp only [hv1] at eq2; cases eq2
                  | some qv =>
                    obtain ⟨rv, S6⟩ := qv
                    simp only [hv1] at eq2
                    refine ⟨Zp B D, Z5, m5, ρ1, S5, rv, S6, s5, (v3.move e4).move e5, hv1, fun Z6 m6 H6 e6 s6 => ?_⟩
                    match rv, eq2 with
                    | .ok (.p z), eq2 =>
                      intro wv rwv
                      cases rwv with
                      | p rz =>
                        cases hkk : keyP y with
                        | none => simp only [hkk] at eq2; cases eq2
                        | some kk =>
                          simp only [hkk] at eq2
                          have e15 := e14.transB e5 fun _ z => .inl z
                          have e16 := e15.transB e6 fun _ z => .inl z
                          have hD6 : H6 D = some (.dK us) := e6.same D _ (e5.same D _ hD4 (.inr (.inr rfl)) nt_dK) (.inr (.inr rfl)) nt_dK
                          have rl6 := (rl4.move e5.cold).move e6.cold
                          refine ⟨us, kk, RV.key (.cold ry) hkk, hD6, by omega, ?_⟩
                          obtain ⟨f1, f2, f3⟩ := writeD (o := .dK (putK us kk wv)) s6 e16 hD hD6 pl_dK
                          refine ⟨Z6, m6, S6, putP acc kk z, putK us kk wv, f1, f2, upd_same, ((RpK.put rz kk rl6).1).move f3, ?_, ?_, eq2⟩
                          · have q := length_putK us kk wv
                            omega
                          · have w6 := (w4.move e5).move e6
                            refine ⟨w6.1, fun j wj hj => ?_⟩
                            obtain ⟨u5, q1, q2⟩ := w6.2 j wj hj
                            refine ⟨u5, q1, ?_⟩
                            cases q2 with
                            | p q2 => exact .p (q2.move f3)
                            | loc q2 => exact .loc q2
                    | .ok (.loc _), eq2 => simp at eq2
                    | .exc _ _, eq2 => simp at eq2
              | .ok (.loc _), eq2 => simp at eq2
              | .exc _ _, eq2 => simp at eq2
          | .exc _ _, eq2 => simp at eq2
    · left
      have hie : i = l.length := by omega
      subst hie
      rw [List.drop_length] at eq2
      cases eq2
      refine ⟨hst, ?_⟩
      obtain ⟨x1, x2, x3⟩ := exitD s2 e2 hD fun a z => s1.dom a (s1.base a z)
      have nz : ¬ Zm Zc D D := fun z => z.2 rfl
      cases eq1
      exact k1.fin' x1 x2 (.p (.dK (.inl hDl) nz (rl.move x3)))
theorem se_dc (hc : X.calm = true) (hN : X.N.Nodup) (hi : SI X W tg iter fi) (ok : BlkOk X.N X.env.scope scope nms) (his : ∀ j ∈ is, j ∈ nms.map (·.2))
    (hg : ∀ (s : Shared) (H : Hp) (C : Addr) (cl : List (Str × Addr)) (fp : List Addr), SG (X.blk s H scope (compEnvC scope cl C X.env) fp) tg is g)
    (ht : ∀ (s : Shared) (H : Hp) (C : Addr) (cl : List (Str × Addr)) (fp : List Addr), STs (X.blk s H scope (compEnvC scope cl C X.env) fp) W0 ifs ft)
    (hk : ∀ (s : Shared) (H : Hp) (C : Addr) (cl : List (Str × Addr)) (fp : List Addr), SE (X.blk s H scope (compEnvC scope cl C X.env) fp) W0 kx fk)
    (hv : ∀ (s : Shared) (H : Hp) (C : Addr) (cl : List (Str × Addr)) (fp : List Addr), SE (X.blk s H scope (compEnvC scope cl C X.env) fp) W0 vx fv)
    (hs : ∀ x, foldedSetIterable iter X.env x = pure x) : SE X W (.DictComp kx vx [⟨tg, iter, ifs, 0⟩] scope pos) (fDc (nms.map (·.2)) fi g ft fk fv) :=
  pe_weak (pe_dc (g := tGt X is g) (tt := tG relB X W0 ft) (tk := tG relW X W0 fk) (tv := tG relW X W0 fv) hc hN hi ok hg ht hk hv hs) fun _ _ _ h => dc_read his h
end
end Wr

set_option maxHeartbeats 4000000
/-! A17: str, lower as expressions. -/
namespace Wr
open PySem PySem.Spec PyProof.Rows L2
def strPy : List P → Option P
  | [x] => strP1 x
  | _ => none
theorem ok_str {X : Cx} : CallOk X (fun xs H Q => ((∃ i, xs = [.int i] ∧ i.natAbs.log2 < 1920 ∧ Q (.str (toString i)) H) ∨ (∃ a, xs = [.str a] ∧ Q (.str a) H)) ∨ (xs = [V.non] ∧ Q (.str "None") H)) strPy := by
  intro B Z m H S vs xs z Q s rl e k
  unfold strPy at e
  split at e
  · rename_i x
    cases rl with
    | cons r t =>
      cases t
      cases x <;> simp only [strP1] at e <;> first | (cases e; done) | skip
      · cases e
        exact .inr ⟨by rw [r.nonI], k H _ Ext.refl s (.str _ (by decide +kernel))⟩
      · split at e
        · rename_i hl
          cases e
          exact .inl (.inl ⟨_, by rw [r.intI], hl.1, k H _ Ext.refl s (.str _ hl.2)⟩)
        · cases e
      · cases e
        exact .inl (.inr ⟨_, by rw [r.strI], k H _ Ext.refl s (.str _ r.strO)⟩)
  · cases e
theorem se_low {X : Cx} {W : WX} {o : Expr} {fo : F Wv} {apos pos : Pos} (ho : SE X W o fo) (hbase : attributeBase o "lower" X.env (eval o X.env) = eval o X.env) (hline : (apos.endLine == pos.line) = true) :
    SE X W (.Call (.Attribute o "lower" apos) [] [] pos) (fOne lowP fo) := by
  refine pe_weak (pe_lower ho hbase hline) fun σ H Q ⟨B, Z, m, ρ, S, r, S', s, v, eq, k⟩ => ?_
  refine tG_bind s v eq k fun Z1 m1 H1 S1 w u e1 s1 v1 ra eq1 k1 => ?_
  cases hv : view w S1 with
  | none => rw [hv] at eq1; cases eq1
  | some x =>
    rw [hv] at eq1
    simp only at eq1
    cases x <;> simp only [lowP] at eq1 <;> first | (cases eq1; done) | skip
    rename_i y
    split at eq1
    · rename_i hl
      cases eq1
      have e := (view_ok s1 ra hv).strI
      exact ⟨⟨y, e⟩, y, e, rfl, hl.1, k1.fin s1 (.p (.str _ hl.2))⟩
    · cases eq1
end Wr

set_option maxHeartbeats 4000000
/-! A18: list comprehensions of any number of clauses. -/
namespace Wr
open PySem PySem.Spec PyProof.Rows L2

section
variable {elt t i t1 i1 : Expr} {ifs ifs1 : List Expr} {gens : List Comprehension} {scope : Scope} {pos : Pos} {j : Nat} {it acc : Value} {env : Env}
theorem turn_last (hj : gens[j]? = some ⟨t, i, ifs, 0⟩) (hl : gens[j + 1]? = none) :
    compTurn (.ListComp elt gens scope pos) j it acc env = (do
      standAt i.pos
      match ← pyNext it with
      | none => pure (.done .next)
      | some v =>
        letOwnedTupleGo t it v
        assign t env v
        let mut ok := true
        for c in ifs do
          if ok then ok ← isTrue c env (eval c env)
        if ok then
          (do let _ ← call (.builtin "list.append") [acc, ← eval elt env])
        again (.compLoop (.ListComp elt gens scope pos) j it acc env)) := by
  unfold compTurn
  simp only [hj, hl]
  rfl
theorem turn_more (hj : gens[j]? = some ⟨t, i, ifs, 0⟩) (hl : gens[j + 1]? = some ⟨t1, i1, ifs1, 0⟩) :
    compTurn (.ListComp elt gens scope pos) j it acc env = (do
      standAt i.pos
      match ← pyNext it with
      | none => pure (.done .next)
      | some v =>
        letOwnedTupleGo t it v
        assign t env v
        let mut ok := true
        for c in ifs do
          if ok then ok ← isTrue c env (eval c env)
        if ok then
          let x ← eval i1 env
          standAt i1.pos
          let x ← foldedSetIterable i1 env x
          let _ ← runOwn (.compStart (.ListComp elt gens scope pos) (j + 1) (← holding [x] (pyIter x)) acc env) env
        again (.compLoop (.ListComp elt gens scope pos) j it acc env)) := by
  unfold compTurn
  simp only [hj, hl]
  rfl
end
section
variable {prog : Program} {w : World} {A : Around} {R : Result → Shared → Prop} {s : Shared} {elt t i : Expr} {ifs : List Expr} {gens : List Comprehension} {scope : Scope} {pos : Pos} {it acc : Value} {env : Env} {j : Nat}
/-- behind the tests of the clause j: the next clause runs, or the item is put in; then Nx -/
def TailW (prog : Program) (w : World) (A : Around) (elt : Expr) (gens : List Comprehension) (scope : Scope) (pos : Pos) (j : Nat) (acc : Value) (env : Env) (E : Value → Shared → Prop) (Nx : Shared → Prop) (s : Shared) : Prop :=
  (gens[j + 1]? = none ∧ wpAny (model prog w) A (eval elt env) (fun x s4 => wpAny (model prog w) A (call (.builtin "list.append") [acc, x]) (fun _ s5 => Nx s5) E s4) E s) ∨
  (∃ t1 i1 ifs1, gens[j + 1]? = some ⟨t1, i1, ifs1, 0⟩ ∧ (∀ x, foldedSetIterable i1 env x = pure x) ∧ wpAny (model prog w) A (eval i1 env) (fun x s4 => wpAny (model prog w) A (pyIter x) (fun it1 s5 =>
    codeAny (model prog w) A (.compStart (.ListComp elt gens scope pos) (j + 1) it1 acc env) (fun r s' => match r with
      | .ok _ => Nx s'
      | .error _ => False) s5) E s4) E s)
/-- the loop of the clause j -/
theorem loop_form (hj : gens[j]? = some ⟨t, i, ifs, 0⟩) (hng : ∀ g, gens[j + 1]? = some g → ∃ t1 i1 ifs1, g = ⟨t1, i1, ifs1, 0⟩) (I : Nat → Shared → Prop)
    (turn : ∀ n s, I n s → wpAny (model prog w) A (pyNext it) (fun r s1 => match r with
      | none => R (.ok .next) s1
      | some v => wpAny (model prog w) A (letOwnedTupleGo t it v) (fun _ s2 => wpAny (model prog w) A (assign t env v) (fun _ s3 =>
          wpAny (model prog w) A (forIn ifs true fun c r => if r = true then do let ok ← isTrue c env (eval c env); pure (ForInStep.yield ok) else pure (ForInStep.yield r)) (fun ok s4 =>
            if ok = true then TailW prog w A elt gens scope pos j acc env (notedBy (model prog w) A env fun e s' => R (.error e) s') (fun s5 => ∃ m, m < n ∧ I m s5) s4
            else ∃ m, m < n ∧ I m s4) (notedBy (model prog w) A env fun e s' => R (.error e) s') s3) (notedBy (model prog w) A env fun e s' => R (.error e) s') s2) (notedBy (model prog w) A env fun e s' => R (.error e) s') s1) (notedBy (model prog w) A env fun e s' => R (.error e) s') s)
    (n : Nat) (h : I n s) : codeAny (model prog w) A (.compLoop (.ListComp elt gens scope pos) j it acc env) R s := by
  refine codeAny_loop rfl I (fun n s hI => ?_) n h
  show wpAny _ A ((compTurn (.ListComp elt gens scope pos) j it acc env).onRaise (fun x => do noteFrame x env; theTreesLotGoes x)) _ _ s
  refine wpAny_noted ?_
  cases hl : gens[j + 1]? with
  | none =>
    rw [turn_last hj hl]
    refine wpAny_bind (wpAny_standAt (wpAny_bind (wpAny_mono (turn n s hI) (fun r s1 h1 => ?_) fun _ _ z => z)))
    cases r with
    | none => exact wpAny_pure h1
    | some v =>
      refine wpAny_bind (wpAny_mono h1 (fun _ s2 h2 => wpAny_bind (wpAny_mono h2 (fun _ s3 h3 => wpAny_bind (wpAny_mono h3 (fun ok s4 h4 => ?_) fun _ _ z => z)) fun _ _ z => z)) fun _ _ z => z)
      cases ok with
      | false => exact wpAny_pure ⟨rfl, h4⟩
      | true =>
        rcases h4 with ⟨_, h4⟩ | ⟨_, _, _, q, _⟩
        · exact wpAny_bind (wpAny_bind (wpAny_mono h4 (fun x s5 h5 => wpAny_bind (wpAny_mono h5 (fun _ s6 h6 => wpAny_pure (wpAny_pure ⟨rfl, h6⟩)) fun _ _ z => z)) fun _ _ z => z))
        · rw [hl] at q; cases q
  | some g =>
    · obtain ⟨t1, i1, ifs1, rfl⟩ := hng g hl
      rw [turn_more hj hl]
      refine wpAny_bind (wpAny_standAt (wpAny_bind (wpAny_mono (turn n s hI) (fun r s1 h1 => ?_) fun _ _ z => z)))
      cases r with
      | none => exact wpAny_pure h1
      | some v =>
        refine wpAny_bind (wpAny_mono h1 (fun _ s2 h2 => wpAny_bind (wpAny_mono h2 (fun _ s3 h3 => wpAny_bind (wpAny_mono h3 (fun ok s4 h4 => ?_) fun _ _ z => z)) fun _ _ z => z)) fun _ _ z => z)
        cases ok with
        | false => exact wpAny_pure ⟨rfl, h4⟩
        | true =>
          rcases h4 with ⟨q, _⟩ | ⟨_, _, _, q, hf, h4⟩
          · rw [hl] at q; cases q
          · rw [hl] at q
            cases q
            refine wpAny_bind (wpAny_mono h4 (fun x s5 h5 => ?_) fun _ _ z => z)
            refine wpAny_bind (wpAny_standAt (wpAny_bind (wpAny_of_eq (hf x) (wpAny_bind (wpAny_holding (wpAny_mono h5 (fun it1 s6 h6 => ?_) fun _ _ z => z))))))
            refine wpAny_bind (wpAny_runOwn ?_)
            rw [Around.mark_none]
            refine codeAny_mono h6 fun r s' hr => ?_
            cases r with
            | ok f =>
              first
                | exact wpAny_pure ⟨rfl, hr⟩
                | exact wpAny_bind (wpAny_pure (wpAny_pure ⟨rfl, hr⟩))
            | error e => exact hr.elim
/-- a further clause's start -/
theorem start_form (hj : gens[j]? = some ⟨t, i, ifs, 0⟩) (h0 : codeAny (model prog w) A (.compLoop (.ListComp elt gens scope pos) j it acc env) R s)
    (h : wpAny (model prog w) A (pyIter it) (fun it' s' => codeAny (model prog w) A (.compLoop (.ListComp elt gens scope pos) j it' acc env) R s') (notedBy (model prog w) A env fun x s' => R (.error x) s') s) :
    codeAny (model prog w) A (.compStart (.ListComp elt gens scope pos) j it acc env) R s := by
  refine codeAny_of_tree ?_
  show wpAny _ _ ((compStart (.ListComp elt gens scope pos) j it acc env).onRaise (fun x => do noteFrame x env; standAt theWindowsPlace)) _ _ s
  refine wpAny_notedAt ?_
  unfold compStart
  have e : (clausesOf (.ListComp elt gens scope pos))[j]? = some ⟨t, i, ifs, 0⟩ := hj
  simp only [e, Option.elim]
  show wpAny _ _ (ask >>= _) _ _ s
  refine wpAny_bind (wpAny_askSetting (wpAny_ite ?_))
  split
  · first
      | exact wpAny_bind (wpAny_pure (wpAny_pure (And.intro rfl h0)))
      | exact wpAny_pure (And.intro rfl h0)
  · first
      | exact wpAny_bind (wpAny_rule (wpAny_bind (wpAny_standAt (wpAny_bind (wpAny_mono h (fun it' s' q => wpAny_pure (And.intro rfl q)) fun _ _ x => x)))))
      | (refine wpAny_bind (wpAny_rule ?_); show wpAny _ _ (standAt i.pos >>= _) _ _ s; exact wpAny_bind (wpAny_standAt (wpAny_bind (wpAny_mono h (fun it' s' q => wpAny_pure (And.intro rfl q)) fun _ _ x => x))))
end
/-! ### the rest of the clauses -/
inductive RC where
  | last (te : TE) | more (wi : TI) (g : TG) (tt : TT) (vs : List Nat) (r : RC)
def RC.vs : RC → List Nat
  | .last _ => []
  | .more _ _ _ vs _ => vs
def tRest (D : Addr) : RC → L2.St → Hp → (Hp → Prop) → Prop
  | .last te => fun σ H Nx => te σ H fun y H7 => ∃ acc, H7 D = some (.lst acc) ∧ acc.length < sizeLine ∧ Nx (upd H7 D (.lst (acc ++ [y])))
  | .more wi g tt vs r => fun σ H Nx => wi σ H fun J H4 => ∃ W : Nat → Nat → Hp → Prop, (∃ m, W 0 m H4) ∧ ∀ j k H, W j k H →
      (J.stop j H ∧ Nx H) ∨ (J.go j H ∧ ∃ Nx1 : Hp → Prop, (∀ H', Nx1 H' → ∃ k', k' < k ∧ W (j + 1) k' H') ∧ ∀ x H', J.yld j H x H' → g x (wipe σ vs) H' fun σ3 H5 => wipe σ3 vs = wipe σ vs ∧ tt σ3 H5 fun b H6 =>
        if b = true then tRest D r σ3 H6 Nx1 else Nx1 H6)
inductive ClsM (X : Cx) (elt : Expr) : List Comprehension → RC → Prop
  | last {te : TE} : PE X elt te → ClsM X elt [] (.last te)
  | more {tg iter : Expr} {ifs : List Expr} {rest : List Comprehension} {wi : TI} {g : TG} {tt : TT} {vs : List Nat} {r : RC} : PI X tg iter wi → PG X tg g → PTs X ifs tt → (∀ env x, foldedSetIterable iter env x = pure x) → (∀ i ∈ r.vs, i ∈ vs) →
      ClsM X elt rest r → ClsM X elt (⟨tg, iter, ifs, 0⟩ :: rest) (.more wi g tt vs r)
theorem ClsM.plain {X : Cx} {elt : Expr} : ∀ {l : List Comprehension} {r : RC}, ClsM X elt l r → ∀ g ∈ l, ∃ t1 i1 ifs1, g = ⟨t1, i1, ifs1, 0⟩
  | _, _, .last _, g, h => by cases h
  | _, _, .more _ _ _ _ _ m, g, h => by
    rcases List.mem_cons.mp h with e | e
    · exact ⟨_, _, _, e⟩
    · exact m.plain g e
theorem drop_at {gens rest : List Comprehension} {j : Nat} {x : Comprehension} (h : gens.drop j = x :: rest) : gens[j]? = some x ∧ gens.drop (j + 1) = rest := by
  have e : gens[j]? = (gens.drop j)[0]? := by rw [List.getElem?_drop]; rfl
  refine ⟨by rw [e, h]; rfl, ?_⟩
  have e2 : gens.drop (j + 1) = (gens.drop j).drop 1 := by rw [List.drop_drop]
  rw [e2, h]
  rfl
section
variable {X : Cx} {elt : Expr} {gens : List Comprehension} {scope : Scope} {pos : Pos} {D : Addr}
theorem tail_ok (hc : X.calm = true) (hx : ∀ e s, ¬ X.xe e s) : ∀ {rest : List Comprehension} {r : RC}, ClsM X elt rest r → ∀ {j : Nat} {pins : List (Addr × Obj)} {σ : L2.St} {H : Hp} {s : Shared} {Nx : Hp → Prop} {Nx' : Shared → Prop} {E : Value → Shared → Prop}, gens.drop (j + 1) = rest →
    Inv X pins σ H s → tRest D r σ H Nx → (∀ σ' H' s', Inv X pins σ' H' s' → σ.length = σ'.length → (∀ (i : Nat) v, (wipe σ r.vs)[i]? = some (some v) → σ'[i]? = some (some v)) → Nx H' → Nx' s') →
    TailW X.prog X.w X.A elt gens scope pos j (.ref D) X.env E Nx' s
  | _, _, .last pe, j, pins, σ, H, s, Nx, Nx', E, hd, I, h, fin => by
    refine .inl ⟨?_, ?_⟩
    · rw [List.getElem?_eq_none_iff]
      exact List.drop_eq_nil_iff.mp hd
    · refine wpAny_mono (pe.run pins s σ H _ I h) (fun u s1 ⟨y, H7, I7, r7, acc, hD, hz, nx⟩ => ?_) fun e s z => (hx e s z).elim
      exact app_ok (X := X) I7 hD hz r7 fun s2 I2 => fin _ _ _ I2 rfl (fun i v q => q) nx
  | _, _, @ClsM.more _ _ tg iter ifs rest wi g tt vs r pi pg pt hf sub m, j, pins, σ, H, s, Nx, Nx', E, hd, I, h, fin => by
    obtain ⟨hj, hd2⟩ := drop_at hd
    refine .inr ⟨_, _, _, hj, hf X.env, ?_⟩
    refine wpAny_mono (pi.run pins s σ H _ I h) (fun xv s10 h10 => wpAny_mono h10 (fun itv s11 h11 => ?_) fun e s z => (hx e s z).elim) fun e s z => (hx e s z).elim
    obtain ⟨it1, fp1, tn1, J1, H11, e1, I11, T1, st11, f11, W1, ⟨m1, w1⟩, turn1⟩ := h11
    subst e1
    have stat : ∀ {H' : Hp}, (∀ b ∈ fp1, H' b = none) → ∀ b ∈ fp1, FpOk X pins H' b := fun hn b hb => ⟨hn b hb, (f11 b hb).2⟩
    have loop : codeAny (model X.prog X.w) X.A (.compLoop (.ListComp elt gens scope pos) (j + 1) (.ref it1) (.ref D) X.env) (fun r s' => match r with
        | .ok _ => Nx' s'
        | .error _ => False) s11 := by
      refine loop_form hj (fun g hg => ?_) (fun k s' => ∃ i H', Inv X pins (wipe σ vs) H' s' ∧ tn1 i s'.heap ∧ (∀ b ∈ fp1, H' b = none) ∧ W1 i k H') ?_ m1 ⟨0, H11, I11.weak (wipe_length _ _) (fun i v e => (wipe_some e).1), st11, fun b hb => (f11 b hb).1, w1⟩
      · have q : (gens.drop (j + 1 + 1))[0]? = some g := by rw [List.getElem?_drop]; exact hg
        rw [hd2] at q
        exact m.plain g (List.mem_of_getElem? q)
      rintro k s12 ⟨i, H12, I12, st12, n12, w12⟩
      rcases turn1 i k H12 w12 with ⟨stop1, nx1⟩ | ⟨go1, Nx1, hNx1, step1⟩
      · refine wpAny_mono (T1.done X rfl rfl rfl hc i _ s12 (wipe σ vs) H12 (fun _ _ => False) I12 (stat n12) st12 stop1) (fun r s13 ⟨hr, I13⟩ => ?_) fun _ _ z => z.elim
        subst hr
        exact fin _ _ _ I13 (wipe_length σ vs).symm (fun i v q => q) nx1
      · refine wpAny_mono (T1.item X rfl rfl rfl hc i _ s12 (wipe σ vs) H12 (fun _ _ => False) I12 (stat n12) st12 go1) (fun r s13 ⟨u1, hr, h13⟩ => ?_) fun _ _ z => z.elim
        subst hr
        refine wpAny_mono h13 (fun _ s14 ⟨x1, H14, I14, r14, y14, st14, n14⟩ => ?_) fun _ _ z => z.elim
        have P14 := I14.pinned (stat n14) (T1.obj _ _ st14)
        refine wpAny_mono (pg.run _ s14 (wipe σ vs) H14 x1 u1 _ P14 r14 (step1 x1 H14 y14)) (fun _ s15 ⟨σ15, H15, I15, hw15, q15⟩ => ?_) fun e s z => (hx e s z).elim
        refine wpAny_mono (pt.run _ s15 σ15 H15 _ I15 q15) (fun b1 s16 ⟨H16, I16, q16⟩ => ?_) fun e s z => (hx e s z).elim
        have over : ∀ {σ' : L2.St} {s' : Shared} {H' : Hp}, Inv X (pins ++ pinsAt fp1 s14.heap) σ' H' s' → σ15.length = σ'.length → (∀ (i : Nat) v, (wipe σ15 r.vs)[i]? = some (some v) → σ'[i]? = some (some v)) → Nx1 H' →
            ∃ m, m < k ∧ ∃ i H', Inv X pins (wipe σ vs) H' s' ∧ tn1 i s'.heap ∧ (∀ b ∈ fp1, H' b = none) ∧ W1 i m H' := fun {σ' s' H'} I' hl hk nx => by
          obtain ⟨m', hm, w'⟩ := hNx1 H' nx
          have pin' : ∀ b ∈ fp1, ∀ o, s14.heap.get? b = some o → s'.heap.get? b = some o ∧ H' b = none := fun b hb o e =>
            let z := I'.pin (b, o) (List.mem_append_right _ (List.mem_append_right _ (mem_pinsAt hb e)))
            ⟨z.1, z.2.1⟩
          refine ⟨m', hm, i + 1, H', I'.unpinned.weak (by rw [← hl, ← hw15, wipe_length]) (fun i v e => ?_), T1.keep _ _ _ st14 fun b hb o e => (pin' b hb o e).1, fun b hb => ?_, w'⟩
          · rw [← hw15] at e
            obtain ⟨e1, e2⟩ := wipe_some e
            exact hk i v (by rw [wipe_out fun z => e2 (sub i z)]; exact e1)
          · obtain ⟨o, e, _⟩ := T1.obj _ _ st14 b hb
            exact (pin' b hb o e).2
        cases b1 with
        | false =>
          simp only [Bool.false_eq_true, if_false] at q16 ⊢
          exact over I16 rfl (fun i v e => (wipe_some e).1) q16
        | true =>
          simp only [if_true] at q16 ⊢
          exact tail_ok hc hx m hd2 I16 q16 fun σ' H' s' I' hl hk nx => over I' hl hk nx
    exact start_form hj loop (T1.self X.A 0 _ _ _ st11 loop)
end
end Wr

set_option maxHeartbeats 4000000
/-! A19: .. the first clause, and the whole. -/
namespace Wr
open PySem PySem.Spec PyProof.Rows L2

def tLcN (wi : TI) (g : TG) (tt : TT) (r : RC) (vs : List Nat) : TE := fun σ H Q => wi σ H fun J H1 => ∀ D, H1 D = none → ∃ W : Nat → Nat → Hp → Prop, (∃ m, W 0 m (upd H1 D (.lst []))) ∧ ∀ i m H, W i m H →
  (J.stop i H ∧ Q (.ref D) H) ∨ (J.go i H ∧ ∃ Nx : Hp → Prop, (∀ H', Nx H' → ∃ m', m' < m ∧ W (i + 1) m' H') ∧ ∀ x H', J.yld i H x H' → g x (wipe σ vs) H' fun σ2 H2 => wipe σ2 vs = wipe σ vs ∧ tt σ2 H2 fun b H3 =>
    if b = true then tRest D r σ2 H3 Nx else Nx H3)
section
variable {X : Cx} {elt tg iter : Expr} {ifs : List Expr} {rest : List Comprehension} {scope : Scope} {own : List (Str × Nat)} {pos : Pos} {wi : TI} {g : TG} {tt : TT} {r : RC}
theorem lcN_core {pins : List (Addr × Obj)} {s : Shared} {σ : L2.St} {H : Hp} {Q : VK} {pos' : Pos} {use : Option (Value → Sem Unit)} {Qf : Value → Shared → Prop}
    (hc : X.calm = true) (hN : X.N.Nodup) (I : Inv X pins σ H s) (hi : PI X tg iter wi) (ok : BlkOk X.N X.env.scope scope own) (hv : ∀ i ∈ r.vs, i ∈ own.map (·.2))
    (hg : ∀ (s : Shared) (H : Hp) (C : Addr) (cl : List (Str × Addr)) (fp : List Addr), PG (X.blk s H scope (compEnvC scope cl C X.env) fp) tg g) (ht : ∀ (s : Shared) (H : Hp) (C : Addr) (cl : List (Str × Addr)) (fp : List Addr), PTs (X.blk s H scope (compEnvC scope cl C X.env) fp) ifs tt)
    (hm : ∀ (s : Shared) (H : Hp) (C : Addr) (cl : List (Str × Addr)) (fp : List Addr), ClsM (X.blk s H scope (compEnvC scope cl C X.env) fp) elt rest r) (hs : ∀ x, foldedSetIterable iter X.env x = pure x)
    (h : tLcN wi g tt r (own.map (·.2)) σ H Q)
    (hRR : ∀ D C s' m H', Inv X pins σ H' s' → Q (.ref D) H' → s'.heap.Ns C m → FpOk X pins H' C → compPost (model X.prog X.w) X.A X.xe use Qf (.ref D) C (.ok .next) s') :
    wpAny (model X.prog X.w) X.A (comprehension (.ListComp elt (⟨tg, iter, ifs, 0⟩ :: rest) scope pos) scope X.env pos' (newList []) false (eval iter X.env) use) Qf X.xe s := by
  have free : ∀ y ∈ scope.names, y.2 = .free → ∃ c, X.env.cells.lookup y.1 = some c := fun y hy e => by
    rcases ok.free y hy e with k | k
    · exact I.ok.has _ (.inl k)
    · exact I.ok.has _ (.inr k)
  refine wpAny_comprehension_free (use := use) rfl hs (closure_ok free) ok.kind (fun y hy e => by rw [ok.uniq y hy, e])
    (thn (hi.run pins s σ H _ I h) fun xv s1 hx => thn hx fun itv s2 h2 => ?_)
  obtain ⟨it, fp, tn, J, H2, e, I2, T, st2, f2, q⟩ := h2
  subst e
  refine wpAny_newObj_type (newEnv_comp ?_) (by show 0 ≤ sizeLine; decide)
  generalize hD : s2.heap.objs.size = D
  have hDn : H2 D = none := I2.hok.fresh (Nat.le_of_eq hD)
  obtain ⟨W, ⟨m0, w0⟩, turn⟩ := q D hDn
  generalize hs3 : ({ s2 with heap := s2.heap.push { cls := .type "list", data := .seq ([] : List Value).toArray } } : Shared) = s3
  have I3 : Inv X pins σ (upd H2 D (.lst [])) s3 := by
    rw [← hs3]
    refine I2.laid (t' := s2.toks) (fun b o e => Heap.get?_push_of_some _ e) (Nat.le_of_eq hD) ⟨Nat.zero_le _, [], 0, .nil, ?_⟩
    rw [← hD]
    exact Heap.get?_push_size _ rfl
  have h3 : s3.heap = s2.heap.push { cls := .type "list", data := .seq ([] : List Value).toArray } := by rw [← hs3]
  have sz : ∀ b ∈ fp, b < s2.heap.objs.size := fun b hb => by
    obtain ⟨o, e, _⟩ := T.obj _ _ st2 b hb
    exact Heap.lt_size e
  have f3 : ∀ b ∈ fp, FpOk X pins (upd H2 D (.lst [])) b ∧ b < s3.heap.objs.size := fun b hb => by
    have lt := sz b hb
    refine ⟨⟨?_, (f2 b hb).2⟩, by rw [h3, Heap.size_push]; exact Nat.lt_succ_of_lt lt⟩
    rw [upd_ne (by rw [← hD]; exact Nat.ne_of_lt lt)]
    exact (f2 b hb).1
  have st3 : tn 0 s3.heap := T.keep _ _ _ st2 fun b _ o e => by rw [h3]; exact Heap.get?_push_of_some _ e
  have I4 := block_start I3 ok hN f3
  have pg := hg s3 (upd H2 D (.lst [])) s3.heap.objs.size (cellsFrom (s3.heap.objs.size + 1) scope.names (cloFrom X.env.cells scope.names [])) fp
  have pt := ht s3 (upd H2 D (.lst [])) s3.heap.objs.size (cellsFrom (s3.heap.objs.size + 1) scope.names (cloFrom X.env.cells scope.names [])) fp
  have pm := hm s3 (upd H2 D (.lst [])) s3.heap.objs.size (cellsFrom (s3.heap.objs.size + 1) scope.names (cloFrom X.env.cells scope.names [])) fp
  show codeAny _ _ (.compStart (.ListComp elt (⟨tg, iter, ifs, 0⟩ :: rest) scope pos) 0 (.ref it) (.ref D) (compEnvC scope (cellsFrom (s3.heap.objs.size + 1) scope.names (cloFrom X.env.cells scope.names [])) s3.heap.objs.size X.env)) (compPost (model X.prog X.w) X.A X.xe use Qf (.ref D) s3.heap.objs.size) _
  have nfp : ∀ b ∈ fp, (upd H2 D (.lst [])) b = none := fun b hb => (f3 b hb).1.1
  generalize hce : compEnvC scope (cellsFrom (s3.heap.objs.size + 1) scope.names (cloFrom X.env.cells scope.names [])) s3.heap.objs.size X.env = ce at I4 pg pt pm ⊢
  have cL : ce.locals = s3.heap.objs.size := by subst hce; rfl
  generalize hH3 : upd H2 D (.lst []) = H3 at I3 I4 pg pt pm w0 nfp f3
  generalize hs4 : ({ s3 with heap := pushCells (s3.heap.push { cls := .type "dict", data := .dict #[] }) scope.names } : Shared) = s4 at I4 ⊢
  have st4 : tn 0 s4.heap := T.keep _ _ _ st3 fun b _ o e => by rw [← hs4]; exact pushCells_keeps _ _ _ _ (Heap.get?_push_of_some _ e)
  have stat : ∀ {σ' : L2.St} {H' : Hp} {s' : Shared}, Inv (X.blk s3 H3 scope ce fp) [] σ' H' s' → (∀ b ∈ fp, H' b = none) → ∀ b ∈ fp, FpOk (X.blk s3 H3 scope ce fp) [] H' b := fun {σ' H' s'} I' hn b hb =>
    ⟨hn b hb, (I'.ok.exf b hb).1, I'.ok.exfs b hb, .inl hb, fun x c e => (I'.ok.exf b hb).2 x c e, fun p hp => absurd (show p ∈ ([] : List (Addr × Obj)) ++ [] from hp) (by simp)⟩
  have loop : codeAny (model X.prog X.w) X.A (.compLoop (.ListComp elt (⟨tg, iter, ifs, 0⟩ :: rest) scope pos) 0 (.ref it) (.ref D) ce) (compPost (model X.prog X.w) X.A X.xe use Qf (.ref D) s3.heap.objs.size) s4 := by
    refine loop_form (j := 0) rfl (fun gg hgg => pm.plain gg (List.mem_of_getElem? (i := 0) hgg)) (fun n s' => ∃ i H', Inv (X.blk s3 H3 scope ce fp) [] (wipe σ (own.map (·.2))) H' s' ∧ tn i s'.heap ∧ (∀ b ∈ fp, H' b = none) ∧ W i n H') ?_ m0 ⟨0, H3, I4, st4, nfp, w0⟩
    rintro n s5 ⟨i, H5, I5, st5, n5, w5⟩
    rcases turn i n H5 w5 with ⟨stop, qq⟩ | ⟨go, Nx, hNx, step⟩
    · refine thnF (T.done (X.blk s3 H3 scope ce fp) rfl rfl rfl hc i [] s5 _ H5 (fun _ _ => False) I5 (stat I5 n5) st5 stop) fun r s6 ⟨hr, I6⟩ => ?_
      subst hr
      have I7 : Inv X pins σ H5 s6 := I3.call' (ch := fp) I6.os I6.base I6.hok I6.bare fun b hb => ⟨(f3 b hb).1.2.2.2.1, (f3 b hb).1.2.1, (f3 b hb).1.2.2.2.2.1, (f3 b hb).1.2.2.2.2.2⟩
      have nC : H5 s3.heap.objs.size = none := by
        have z : H5 ce.locals = none := I6.free
        rw [cL] at z
        exact z
      obtain ⟨m, hn, _⟩ := I6.loc
      have hn : s6.heap.Ns ce.locals m := hn
      rw [cL] at hn
      exact hRR D s3.heap.objs.size s6 m H5 I7 qq hn (I3.fpOk (Nat.le_refl _) nC)
    · refine thnF (T.item (X.blk s3 H3 scope ce fp) rfl rfl rfl hc i [] s5 _ H5 (fun _ _ => False) I5 (stat I5 n5) st5 go) fun r s6 ⟨u, hr, h6⟩ => ?_
      subst hr
      refine thnF h6 fun _ s7 ⟨x, H7, I7, r7, y7, st7, n7⟩ => ?_
      have I7' := I7.pinned (stat I7 n7) (T.obj _ _ st7)
      refine thnF (pg.run _ s7 _ H7 x u _ I7' r7 (step x H7 y7)) fun _ s8 ⟨σ8, H8, I8, hw8, q8⟩ => ?_
      refine thnF (pt.run _ s8 σ8 H8 _ I8 q8) fun b s9 ⟨H9, I9, q9⟩ => ?_
      have over : ∀ {σ9 : L2.St} {s' : Shared} {H' : Hp}, Inv (X.blk s3 H3 scope ce fp) ([] ++ pinsAt fp s7.heap) σ9 H' s' → σ8.length = σ9.length → (∀ (j : Nat) v, (wipe σ8 r.vs)[j]? = some (some v) → σ9[j]? = some (some v)) → Nx H' →
          ∃ m, m < n ∧ ∃ i H', Inv (X.blk s3 H3 scope ce fp) [] (wipe σ (own.map (·.2))) H' s' ∧ tn i s'.heap ∧ (∀ b ∈ fp, H' b = none) ∧ W i m H' := fun {σ9 s' H'} I' hl hk nx => by
        obtain ⟨m', hmm, w'⟩ := hNx H' nx
        have pin' : ∀ b ∈ fp, ∀ o, s7.heap.get? b = some o → s'.heap.get? b = some o ∧ H' b = none := fun b hb o e =>
          let z := I'.pin (b, o) (List.mem_append_right _ (List.mem_append_right _ (mem_pinsAt hb e)))
          ⟨z.1, z.2.1⟩
        refine ⟨m', hmm, i + 1, H', (I'.unpinned (pins := [])).weak (by rw [← hl, ← hw8, wipe_length]) (fun j v e => ?_), T.keep _ _ _ st7 fun b hb o e => (pin' b hb o e).1, fun b hb => ?_, w'⟩
        · rw [← hw8] at e
          obtain ⟨e1, e2⟩ := wipe_some e
          exact hk j v (by rw [wipe_out fun z => e2 (hv j z)]; exact e1)
        · obtain ⟨o, e, _⟩ := T.obj _ _ st7 b hb
          exact (pin' b hb o e).2
      cases b with
      | false =>
        simp only [Bool.false_eq_true, if_false] at q9 ⊢
        exact over I9 rfl (fun j v e => (wipe_some e).1) q9
      | true =>
        simp only [if_true] at q9 ⊢
        exact tail_ok (X := X.blk s3 H3 scope ce fp) hc (fun _ _ z => z) pm (j := 0) rfl I9 q9 fun σ' H' s' I' hl hk nx => over I' hl hk nx
  exact codeAny_compStart_list loop (T.self X.A 0 _ _ _ st4 loop)
theorem pe_lcN (hc : X.calm = true) (hN : X.N.Nodup) (hi : PI X tg iter wi) (ok : BlkOk X.N X.env.scope scope own) (hv : ∀ i ∈ r.vs, i ∈ own.map (·.2))
    (hg : ∀ (s : Shared) (H : Hp) (C : Addr) (cl : List (Str × Addr)) (fp : List Addr), PG (X.blk s H scope (compEnvC scope cl C X.env) fp) tg g) (ht : ∀ (s : Shared) (H : Hp) (C : Addr) (cl : List (Str × Addr)) (fp : List Addr), PTs (X.blk s H scope (compEnvC scope cl C X.env) fp) ifs tt)
    (hm : ∀ (s : Shared) (H : Hp) (C : Addr) (cl : List (Str × Addr)) (fp : List Addr), ClsM (X.blk s H scope (compEnvC scope cl C X.env) fp) elt rest r) (hs : ∀ x, foldedSetIterable iter X.env x = pure x) :
    PE X (.ListComp elt (⟨tg, iter, ifs, 0⟩ :: rest) scope pos) (tLcN wi g tt r (own.map (·.2))) := by
  refine ⟨fun pins s σ H Q I h => ?_⟩
  rw [eval_ListComp]
  refine lcN_core hc hN I hi ok hv hg ht hm hs h fun D C s' m H' I' q hn f => ⟨m, hn, fun h'' sb => ?_⟩
  obtain ⟨f0, f1, f2, f3, f4, f5⟩ := f
  exact ⟨.ref D, H', I'.turned (t' := s'.toks) (fun b o hb e => (sb.2 b hb).trans e) f0 f1 f3 f4 f5, rfl, q⟩
theorem ps_setLcN {i : Nat} {y : Str} {py spos : Pos} (hc : X.calm = true) (hN : X.N.Nodup) (hy : X.N[i]? = some y) (hyl : X.env.scope.names.lookup y = some .local)
    (hsw : swapsWith (.ListComp elt (⟨tg, iter, ifs, 0⟩ :: rest) scope pos) (some (.Name y py)) spos.line X.env = pure true) (hi : PI X tg iter wi) (ok : BlkOk X.N X.env.scope scope own) (hv : ∀ i ∈ r.vs, i ∈ own.map (·.2))
    (hg : ∀ (s : Shared) (H : Hp) (C : Addr) (cl : List (Str × Addr)) (fp : List Addr), PG (X.blk s H scope (compEnvC scope cl C X.env) fp) tg g) (ht : ∀ (s : Shared) (H : Hp) (C : Addr) (cl : List (Str × Addr)) (fp : List Addr), PTs (X.blk s H scope (compEnvC scope cl C X.env) fp) ifs tt)
    (hm : ∀ (s : Shared) (H : Hp) (C : Addr) (cl : List (Str × Addr)) (fp : List Addr), ClsM (X.blk s H scope (compEnvC scope cl C X.env) fp) elt rest r) (hs : ∀ x, foldedSetIterable iter X.env x = pure x) :
    PS X (.Assign [.Name y py] (.ListComp elt (⟨tg, iter, ifs, 0⟩ :: rest) scope pos) spos) (tAsg (tLcN wi g tt r (own.map (·.2))) (gName i)) := by
  refine ⟨fun pins s σ H D I h => ?_⟩
  rw [exec_Assign_Name_used _ _ _ _ hsw]
  refine wpAny_bind (wpAny_standAt (wpAny_bind ?_))
  show wpAny _ X.A (do let _ ← comprehension (.ListComp elt (⟨tg, iter, ifs, 0⟩ :: rest) scope pos) scope X.env (firstIterPos (⟨tg, iter, ifs, 0⟩ :: rest) pos) (newList []) false (eval iter X.env) (some (assign (.Name y py) X.env))) _ _ s
  have h : tLcN wi g tt r (own.map (·.2)) σ H (fun x H1 => gName i x σ H1 D.nx) := h
  refine wpAny_bind (thn (lcN_core (Qf := fun _ s' => SP X pins D .next s') hc hN I hi ok hv hg ht hm hs h fun L C s' m H' I' q hn f => ?_) fun _ s' hq => wpAny_pure (wpAny_pure hq))
  show wpAny _ _ (assign (.Name y py) X.env (.ref L)) _ _ _
  refine wpAny_assign_Name (store_ok2 (v := V.ref L) I' hN hy (.inl hyl) rfl (fun s2 I2 ⟨a, sb, ha⟩ => ?_) (.inr hyl))
  obtain ⟨f0, f1, f2, f3, f4, f5⟩ := f
  have neC : C ≠ a := by
    rcases ha with z | z
    · rw [z]; exact f1
    · exact fun e => f4 y a z e.symm
  refine ⟨m, hn.sameBut sb neC, fun h3 sb3 => ?_⟩
  exact ⟨_, H', I2.turned (t' := s2.toks) (fun b o hb e => (sb3.2 b hb).trans e) f0 f1 f3 f4 f5, q⟩
end
end Wr

set_option maxHeartbeats 4000000
/-! A20: .. over data. -/
namespace Wr
open PySem PySem.Spec PyProof.Rows L2

/-- one clause over its items; what is done with each that stays -/
def loopP (body : Vars → List P → List Ob → Option (List P × List Ob)) (g : FG) (ft : F Bool) (ρ : Vars) : List P → List P → List Ob → Option (List P × List Ob)
  | [], acc, S => some (acc, S)
  | x :: r, acc, S => match g (.p x) ρ S with
    | none => none
    | some ρ1 => match ft ρ1 S with
      | some (.ok true, S1) => match body ρ1 acc S1 with
        | some (acc', S2) => loopP body g ft ρ r acc' S2
        | none => none
      | some (.ok false, S1) => loopP body g ft ρ r acc S1
      | _ => none
structure Cla where
  fi : F (List P)
  g : FG
  is : List Nat
  ft : F Bool
def restP (fe : F Wv) (vs : List Nat) : List Cla → Vars → List P → List Ob → Option (List P × List Ob)
  | [], ρ, acc, S => match fe ρ S with
    | some (.ok (.p y), S1) => if acc.length < 16777216 then some (acc ++ [y], S1) else none
    | _ => none
  | c :: r, ρ, acc, S => match c.fi ρ S with
    | some (.ok l, S1) => loopP (restP fe vs r) c.g c.ft (wipeV ρ vs) l acc S1
    | _ => none
def fLcN (own : Bool) (vs : List Nat) (c : Cla) (r : List Cla) (fe : F Wv) : F Wv := bindF c.fi fun l => fun ρ S =>
  match loopP (restP fe vs r) c.g c.ft (wipeV ρ vs) l [] S with
  | some (l', S') => if l'.length ≤ 16777216 then newL own l' S' else none
  | none => none
def rcOf (X : Cx) (fe : F Wv) (vs : List Nat) : List Cla → RC
  | [] => .last (tG relW X W0 fe)
  | c :: r => .more (tG relI X W0 c.fi) (tGt X c.is c.g) (tG relB X W0 c.ft) vs (rcOf X fe vs r)
theorem writeH {K : PySem.W.Frag} {mg : Mg} {B Z : Addr → Prop} {m : List Addr} {H : Hp} {S : List Ob} {D : Addr} {o u : HO} (s : SOk K mg (Zp B D) Z m H S) (nb : ¬ B D) (hu : H D = some u) (pu : Pl u) (no : NT o := by (first | assumption | exact nt_lst | exact nt_tup | exact nt_dK | exact nt_dT | exact nt_ins | exact nt_own | exact nt_sx | exact nt_xd | (intro _ e; cases e))) : Ext B Z m H Z m (upd H D o) ∧ SOk K mg (Zp B D) Z m (upd H D o) S ∧ Cold Z H Z (upd H D o) := by
  have zD : Z D := s.base D (.inr rfl)
  have c : Ext B Z m H Z m (upd H D o) := ⟨⟨[], by simp⟩, fun _ z => .inl z, fun _ z => .inl z, fun a u h hb _ => by
    have na : a ≠ D := fun q => by
      rcases hb with z | z
      · exact z (q ▸ zD)
      · exact nb (q ▸ z)
    rw [upd_ne na]; exact h, fun a z => dom_upd no a z⟩
  refine ⟨c, s.stay (fun a u h ha _ => ?_) c (s.tabs.upd hu pu no), c.cold⟩
  rw [upd_ne fun q => s.sep a ha (.inr q)]
  exact h
theorem Ext.base {B B2 Z Z' : Addr → Prop} {m m' : List Addr} {H H' : Hp} (e : Ext B2 Z m H Z' m' H') (hb : ∀ x, B x → B2 x) : Ext B Z m H Z' m' H' := ⟨e.pre, e.new, e.mnew, fun a o h c nt => e.same a o h (c.imp id (hb a)) nt, e.dom⟩
section
variable {X : Cx} {fe : F Wv} {vs : List Nat} {B : Addr → Prop} {D : Addr}
/-- the walk of one clause -/
theorem loop_read {body : Vars → List P → List Ob → Option (List P × List Ob)} {c : Cla} {r : RC} {σ : L2.St} {J : It} {l : List P} {acc0 : List P} {acc' : List P} {Sf : List Ob} {Nx : Hp → Prop} {ρ : Vars} {Z1 : Addr → Prop} {m1 : List Addr} {H1 : Hp} {S1 : List Ob} {us : List V} (nb : ¬ B D)
    (his : ∀ j ∈ c.is, j ∈ vs)
    (hbody : ∀ {σ : L2.St} {ρ : Vars} {Z : Addr → Prop} {m : List Addr} {H : Hp} {S S' : List Ob} {us : List V} {acc acc' : List P} {Nx : Hp → Prop}, SOk X.K X.gl (Zp B D) Z m H S → EnvOk X.K X.gl Z m H σ ρ → H D = some (.lst us) → RpL X.K X.gl Z H us acc → body ρ acc S = some (acc', S') →
      (∀ Z' m' H' us', Ext B Z m H Z' m' H' → SOk X.K X.gl (Zp B D) Z' m' H' S' → H' D = some (.lst us') → RpL X.K X.gl Z' H' us' acc' → Nx H') → tRest D r σ H Nx)
    (s1 : SOk X.K X.gl (Zp B D) Z1 m1 H1 S1) (v1 : EnvOk X.K X.gl Z1 m1 H1 (wipe σ vs) (wipeV ρ vs)) (ya : Yields X.K X.gl J l Z1 H1) (hD : H1 D = some (.lst us)) (rl : RpL X.K X.gl Z1 H1 us acc0) (eq : loopP body c.g c.ft (wipeV ρ vs) l acc0 S1 = some (acc', Sf))
    (k : ∀ Z' m' H' us', Ext B Z1 m1 H1 Z' m' H' → SOk X.K X.gl (Zp B D) Z' m' H' Sf → H' D = some (.lst us') → RpL X.K X.gl Z' H' us' acc' → Nx H') :
    ∃ W : Nat → Nat → Hp → Prop, (∃ m, W 0 m H1) ∧ ∀ j n H, W j n H → (J.stop j H ∧ Nx H) ∨ (J.go j H ∧ ∃ Nx1 : Hp → Prop, (∀ H', Nx1 H' → ∃ k', k' < n ∧ W (j + 1) k' H') ∧ ∀ x H', J.yld j H x H' → tGt X c.is c.g x (wipe σ vs) H' fun σ3 H5 => wipe σ3 vs = wipe σ vs ∧ tG relB X W0 c.ft σ3 H5 fun b H6 =>
        if b = true then tRest D r σ3 H6 Nx1 else Nx1 H6) := by
  let At : Nat → Hp → Prop := fun i H' => ∃ Zc m' S' acc us, Ext B Z1 m1 H1 Zc m' H' ∧ SOk X.K X.gl (Zp B D) Zc m' H' S' ∧ H' D = some (.lst us) ∧ RpL X.K X.gl Zc H' us acc ∧ EnvOk X.K X.gl Zc m' H' (wipe σ vs) (wipeV ρ vs) ∧ loopP body c.g c.ft (wipeV ρ vs) (l.drop i) acc S' = some (acc', Sf)
  refine ⟨fun i n H' => n = l.length - i ∧ i ≤ l.length ∧ At i H', ⟨l.length, by simp, Nat.zero_le _, Z1, m1, S1, acc0, us, Ext.refl, s1, hD, rl, v1, by simpa using eq⟩, ?_⟩
  rintro i n H' ⟨rfl, hi, Zc, m', S', acc, us, e2, s2, hDl, rl, v2, eq2⟩
  obtain ⟨hst, hgo⟩ := ya Zc H' e2.cold
  by_cases hlt : i < l.length
  · right
    have hx : l[i]? = some l[i] := List.getElem?_eq_getElem hlt
    obtain ⟨g1, g2⟩ := hgo i l[i] hx
    rw [List.drop_eq_getElem_cons hlt] at eq2
    unfold loopP at eq2
    refine ⟨g1, At (i + 1), fun H3 h3 => ⟨l.length - (i + 1), by omega, rfl, hlt, h3⟩, fun u H2 hy => ?_⟩
    obtain ⟨e3, s3, r3⟩ := yld_ok (X := X) s2 (g2 u H2 hy)
    cases hg1 : c.g (.p l[i]) (wipeV ρ vs) S' with
    | none => simp only [hg1] at eq2; cases eq2
    | some ρ1 =>
      simp only [hg1] at eq2
      refine ⟨Zp B D, Zc, m', wipeV ρ vs, S', .p l[i], ρ1, s3, v2.move e3, .p r3, hg1, fun σ3 v3 ag => ⟨wipe_agree ag his, ?_⟩⟩
      have hD3 : H2 D = some (.lst us) := e3.same D _ hDl (.inr (.inr rfl)) nt_lst
      have e13 : Ext B Z1 m1 H1 Zc m' H2 := e2.transB e3 fun _ z => .inl z
      have rl3 := rl.move e3.cold
      cases ht1 : c.ft ρ1 S' with
      | none => simp only [ht1] at eq2; cases eq2
      | some qt =>
        obtain ⟨rt, S3⟩ := qt
        simp only [ht1] at eq2
        refine ⟨Zp B D, Zc, m', ρ1, S', rt, S3, s3, v3, ht1, fun Z4 m4 H4 e4 s4 => ?_⟩
        have e14 := e13.transB e4 fun _ z => .inl z
        have hD4 : H4 D = some (.lst us) := e4.same D _ hD3 (.inr (.inr rfl)) nt_lst
        have rl4 := rl3.move e4.cold
        have w4 := (v2.move e3).move e4
        match rt, eq2 with
        | .ok false, eq2 =>
          intro b hb
          cases hb
          exact iteF ⟨Z4, m4, S3, acc, us, e14, s4, hD4, rl4, w4, eq2⟩
        | .ok true, eq2 =>
          intro b hb
          cases hb
          refine iteT ?_
          cases hb1 : body ρ1 acc S3 with
          | none => simp only [hb1] at eq2; cases eq2
          | some qb =>
            obtain ⟨acc2, S5⟩ := qb
            simp only [hb1] at eq2
            exact hbody s4 (v3.move e4) hD4 rl4 hb1 fun Z5 m5 H5 us5 e5 s5 hD5 rl5 => ⟨Z5, m5, S5, acc2, us5, e14.trans e5, s5, hD5, rl5, w4.move e5, eq2⟩
        | .exc _ _, eq2 => simp at eq2
  · left
    have hie : i = l.length := by omega
    subst hie
    rw [List.drop_length] at eq2
    cases eq2
    exact ⟨hst, k _ _ _ _ e2 s2 hDl rl⟩
/-- the rest of the clauses -/
theorem rest_read (nb : ¬ B D) : ∀ (cs : List Cla), (∀ c ∈ cs, ∀ j ∈ c.is, j ∈ vs) → ∀ {σ : L2.St} {ρ : Vars} {Z : Addr → Prop} {m : List Addr} {H : Hp} {S S' : List Ob} {us : List V} {acc acc' : List P} {Nx : Hp → Prop}, SOk X.K X.gl (Zp B D) Z m H S → EnvOk X.K X.gl Z m H σ ρ →
    H D = some (.lst us) → RpL X.K X.gl Z H us acc → restP fe vs cs ρ acc S = some (acc', S') →
    (∀ Z' m' H' us', Ext B Z m H Z' m' H' → SOk X.K X.gl (Zp B D) Z' m' H' S' → H' D = some (.lst us') → RpL X.K X.gl Z' H' us' acc' → Nx H') → tRest D (rcOf X fe vs cs) σ H Nx
  | [], _, σ, ρ, Z, m, H, S, S', us, acc, acc', Nx, s, v, hD, rl, eq, k => by
    unfold restP at eq
    cases hf : fe ρ S with
    | none => rw [hf] at eq; cases eq
    | some q =>
      obtain ⟨re, S1⟩ := q
      rw [hf] at eq
      refine ⟨Zp B D, Z, m, ρ, S, re, S1, s, v, hf, fun Z5 m5 H5 e5 s5 => ?_⟩
      match re, eq with
      | .ok (.p y), eq =>
        intro w rw_
        simp only at eq
        split at eq
        · rename_i hz
          cases eq
          cases rw_ with
          | p ry =>
            have hD5 : H5 D = some (.lst us) := e5.same D _ hD (.inr (.inr rfl)) nt_lst
            have rl5 := rl.move e5.cold
            refine ⟨us, hD5, by rw [rl5.len, sizeLine_eq]; exact hz, ?_⟩
            obtain ⟨f1, f2, f3⟩ := writeH (o := .lst (us ++ [w])) s5 nb hD5 pl_lst
            exact k Z5 m5 _ _ ((e5.base fun _ z => .inl z).trans f1) f2 upd_same ((rl5.app (.cons ry .nil)).move f3)
        · cases eq
      | .ok (.loc _), eq => simp at eq
      | .exc _ _, eq => simp at eq
  | c :: r, his, σ, ρ, Z, m, H, S, S', us, acc, acc', Nx, s, v, hD, rl, eq, k => by
    unfold restP at eq
    cases hf : c.fi ρ S with
    | none => rw [hf] at eq; cases eq
    | some q =>
      obtain ⟨ri, S1⟩ := q
      rw [hf] at eq
      refine ⟨Zp B D, Z, m, ρ, S, ri, S1, s, v, hf, fun Z4 m4 H4 e4 s4 => ?_⟩
      match ri, eq with
      | .ok l, eq =>
        intro J rj
        obtain ⟨hl, ya⟩ := rj
        have hD4 : H4 D = some (.lst us) := e4.same D _ hD (.inr (.inr rfl)) nt_lst
        exact loop_read nb (his c List.mem_cons_self) (rest_read nb r fun c' h' => his c' (List.mem_cons_of_mem _ h')) s4 ((v.move e4).wipe vs) ya hD4 (rl.move e4.cold) eq fun Z' m' H' us' e' => k Z' m' H' us' ((e4.base fun _ z => .inl z).trans e')
      | .exc _ _, eq => simp at eq
end
theorem rcOf_vs {X : Cx} {fe : F Wv} {vs : List Nat} : ∀ (r : List Cla), ∀ i ∈ (rcOf X fe vs r).vs, i ∈ vs
  | [], _, h => by cases h
  | _ :: _, _, h => h
section
variable {X : Cx} {W : WX} {elt tg iter : Expr} {ifs : List Expr} {rest : List Comprehension} {scope : Scope} {own : Bool} {nms : List (Str × Nat)} {pos : Pos} {c : Cla} {cs : List Cla} {fe : F Wv}
theorem lcN_read {σ : L2.St} {H : Hp} {Q : VK} {vs : List Nat} (his : ∀ j ∈ c.is, j ∈ vs) (hiss : ∀ c ∈ cs, ∀ j ∈ c.is, j ∈ vs) (h : tG relW X W (fLcN own vs c cs fe) σ H Q) : tLcN (tG relI X W c.fi) (tGt X c.is c.g) (tG relB X W0 c.ft) (rcOf X fe vs cs) vs σ H Q := by
  obtain ⟨B, Z, m, ρ, S, r, Sf, s, v, eq, k⟩ := h
  refine tG_bind s v eq k fun Z1 m1 H1 S1 l J e1 s1 v1 ra eq1 k1 => ?_
  obtain ⟨hl, ya⟩ := ra
  intro D hD
  have nb : ¬ B D := fun z => noc hD (s1.dom D (s1.base D z))
  cases hc : loopP (restP fe vs cs) c.g c.ft (wipeV ρ vs) l [] S1 with
  | none => simp only [hc] at eq1; cases eq1
  | some q =>
    obtain ⟨l', S2⟩ := q
    simp only [hc] at eq1
    split at eq1
    · rename_i hz
      have hz' : l'.length ≤ sizeLine := by rw [sizeLine_eq]; exact hz
      obtain ⟨i1, i2⟩ := enterD (K := X.K) (mg := X.gl) (o := .lst []) s1 hD nt_lst
      refine loop_read (B := B) (D := D) (Nx := Q (.ref D)) nb his (rest_read nb cs hiss) i2 ((v1.wipe vs).move i1) (fun Z' H' co => ya Z' H' ⟨fun a o e nz nt => co.same a o (i1.cold.same a o e nz nt) (fun z => z.elim nz fun q => ne_of_none e hD q) nt, fun a z => (co.new a z).elim (fun q => q.elim .inl fun q => .inr (by rw [q]; exact noc hD)) fun n => .inr (fun z => n (dom_new hD a z))⟩) upd_same .nil hc fun Z' m' H' us' e' s' hD' rl' => ?_
      have e2 := i1.trans e'
      obtain ⟨x1, x2, x3⟩ := exitD s' e2 hD fun a z => s1.dom a (s1.base a z)
      have nz : ¬ Zm Z' D D := fun z => z.2 rfl
      unfold newL at eq1
      cases own with
      | false =>
        cases eq1
        exact k1.fin' x1 x2 (.p (.lst hD' nz hz' (rl'.move x3)))
      | true =>
        cases eq1
        obtain ⟨y1, y2⟩ := takeD (l := l') s' e2 hD (fun a z => s1.dom a (s1.base a z)) hz' hD' rl'
        refine k1.fin' y1 y2 (.loc ?_)
        rw [← s'.len, List.getElem?_append_right (Nat.le_refl _), Nat.sub_self]
        rfl
    · cases eq1
/-- the clauses of a block's text -/
inductive ClaOk (X : Cx) (elt : Expr) (fe : F Wv) (vs : List Nat) : List Comprehension → List Cla → Prop
  | last : SE X W0 elt fe → ClaOk X elt fe vs [] []
  | more {tg iter : Expr} {ifs : List Expr} {l : List Comprehension} {c : Cla} {cs : List Cla} : SI X W0 tg iter c.fi → SG X tg c.is c.g → STs X W0 ifs c.ft → (∀ env x, foldedSetIterable iter env x = pure x) → (∀ j ∈ c.is, j ∈ vs) →
      ClaOk X elt fe vs l cs → ClaOk X elt fe vs (⟨tg, iter, ifs, 0⟩ :: l) (c :: cs)
theorem ClaOk.clsM {vs : List Nat} : ∀ {l : List Comprehension} {cs : List Cla}, ClaOk X elt fe vs l cs → ClsM X elt l (rcOf X fe vs cs)
  | _, _, .last h => .last h
  | _, _, .more h1 h2 h3 h4 h5 r => .more h1 h2 h3 h4 (rcOf_vs _) r.clsM
theorem rcOf_blk {vs : List Nat} {s : Shared} {H : Hp} {env : Env} {fp : List Addr} : ∀ cs : List Cla, rcOf (X.blk s H scope env fp) fe vs cs = rcOf X fe vs cs
  | [] => rfl
  | c :: r => by
    show RC.more _ _ _ vs (rcOf (X.blk s H scope env fp) fe vs r) = RC.more _ _ _ vs (rcOf X fe vs r)
    rw [rcOf_blk r]
    rfl
theorem se_lcN (hc : X.calm = true) (hN : X.N.Nodup) (hi : SI X W tg iter c.fi) (ok : BlkOk X.N X.env.scope scope nms) (his : ∀ j ∈ c.is, j ∈ nms.map (·.2)) (hiss : ∀ c ∈ cs, ∀ j ∈ c.is, j ∈ nms.map (·.2))
    (hg : ∀ (s : Shared) (H : Hp) (C : Addr) (cl : List (Str × Addr)) (fp : List Addr), SG (X.blk s H scope (compEnvC scope cl C X.env) fp) tg c.is c.g)
    (ht : ∀ (s : Shared) (H : Hp) (C : Addr) (cl : List (Str × Addr)) (fp : List Addr), STs (X.blk s H scope (compEnvC scope cl C X.env) fp) W0 ifs c.ft)
    (hm : ∀ (s : Shared) (H : Hp) (C : Addr) (cl : List (Str × Addr)) (fp : List Addr), ClaOk (X.blk s H scope (compEnvC scope cl C X.env) fp) elt fe (nms.map (·.2)) rest cs)
    (hs : ∀ x, foldedSetIterable iter X.env x = pure x) : SE X W (.ListComp elt (⟨tg, iter, ifs, 0⟩ :: rest) scope pos) (fLcN own (nms.map (·.2)) c cs fe) :=
  pe_weak (pe_lcN (g := tGt X c.is c.g) (tt := tG relB X W0 c.ft) (r := rcOf X fe (nms.map (·.2)) cs) hc hN hi ok (rcOf_vs cs) hg ht (fun s H C cl fp => by rw [← rcOf_blk (X := X) (scope := scope) (s := s) (H := H) (env := compEnvC scope cl C X.env) (fp := fp)]; exact (hm s H C cl fp).clsM) hs) fun _ _ _ h => lcN_read his hiss h
theorem ss_setLcN {i : Nat} {y : Str} {py spos : Pos} (hc : X.calm = true) (hN : X.N.Nodup) (hy : X.N[i]? = some y) (hyl : X.env.scope.names.lookup y = some .local)
    (hsw : swapsWith (.ListComp elt (⟨tg, iter, ifs, 0⟩ :: rest) scope pos) (some (.Name y py)) spos.line X.env = pure true) (hi : SI X W tg iter c.fi) (ok : BlkOk X.N X.env.scope scope nms) (his : ∀ j ∈ c.is, j ∈ nms.map (·.2)) (hiss : ∀ c ∈ cs, ∀ j ∈ c.is, j ∈ nms.map (·.2))
    (hg : ∀ (s : Shared) (H : Hp) (C : Addr) (cl : List (Str × Addr)) (fp : List Addr), SG (X.blk s H scope (compEnvC scope cl C X.env) fp) tg c.is c.g)
    (ht : ∀ (s : Shared) (H : Hp) (C : Addr) (cl : List (Str × Addr)) (fp : List Addr), STs (X.blk s H scope (compEnvC scope cl C X.env) fp) W0 ifs c.ft)
    (hm : ∀ (s : Shared) (H : Hp) (C : Addr) (cl : List (Str × Addr)) (fp : List Addr), ClaOk (X.blk s H scope (compEnvC scope cl C X.env) fp) elt fe (nms.map (·.2)) rest cs)
    (hs : ∀ x, foldedSetIterable iter X.env x = pure x) : SS X W (.Assign [.Name y py] (.ListComp elt (⟨tg, iter, ifs, 0⟩ :: rest) scope pos) spos) (fAsg (fLcN own (nms.map (·.2)) c cs fe) (gNm i)) := by
  refine ps_weak (ps_setLcN (g := tGt X c.is c.g) (tt := tG relB X W0 c.ft) (r := rcOf X fe (nms.map (·.2)) cs) hc hN hy hyl hsw hi ok (rcOf_vs cs) hg ht (fun s H C cl fp => by rw [← rcOf_blk (X := X) (scope := scope) (s := s) (H := H) (env := compEnvC scope cl C X.env) (fp := fp)]; exact (hm s H C cl fp).clsM) hs) fun D σ H h => ?_
  obtain ⟨B, Z, m, ρ, S, r, S', s, v, eq, k⟩ := h
  have : tG relW X W (fLcN own (nms.map (·.2)) c cs fe) σ H (fun x H1 => gName i x σ H1 D.nx) := by
    refine tS_bind s v eq k fun Z1 m1 H1 S1 a b e1 s1 v1 ra eq1 k1 => ?_
    unfold gNm at eq1
    split at eq1
    · cases eq1
      exact k1.fin s1 _ (v1.set ra)
    · cases eq1
  exact lcN_read his hiss this
end
end Wr

set_option maxHeartbeats 4000000
/-! A21: enumerate over a tuple. -/
namespace Wr
open PySem PySem.Spec PyProof.Rows L2

section
variable {prog : Program} {w : World} {A : Around} {E : Value → Shared → Prop} {s : Shared}
theorem nextT_item {it t : Addr} {i : Nat} {its : Array Value} {x : Value} {Q : Value → Shared → Prop} (hit : s.heap.IsTupleIter it t i) (ht : s.heap.IsTuple t its) (hx : its[i]? = some x)
    (k : ∀ h', h'.IsTupleIter it t (i + 1) → Heap.SameBut it s.heap h' → Q x { s with heap := h' }) : wpAny (model prog w) A (Builtin.SmallTypes.nextOf (.ref it)) Q E s := by
  obtain ⟨o, ho, hc, hd⟩ := id hit
  obtain ⟨ot, hot, _, nt, hdt⟩ := ht
  unfold Builtin.SmallTypes.nextOf
  refine wpAny_bind (wpAny_callSpecial?_slot (name := Str.ofString "__next__") hit.typeIs F.slot_tuple_iterator_next (wpAny_call_entry F.slot_tuple_iterator_next hit.typeIs F.entry_tuple_iterator_next ?_ (F.args_tuple_iterator_next_1 _)))
  show wpAny _ _ (field (.ref it) 0 >>= _) _ _ s
  refine wpAny_bind (wpAny_field ho hd (x := .ref t) rfl ?_)
  show wpAny _ _ (if (Value.ref t == Value.none) = true then _ else _) _ _ s
  rw [if_neg (show ¬ ((Value.ref t == Value.none) = true) from Bool.false_ne_true)]
  show wpAny _ _ (field (.ref it) 1 >>= _) _ _ s
  refine wpAny_bind (wpAny_field ho hd (x := .int i 0) rfl ?_)
  show wpAny _ _ (seqItems? (.ref t) >>= _) _ _ s
  refine wpAny_bind (wpAny_seqItems hot hdt ?_)
  simp only [Int.toNat_natCast, hx]
  refine wpAny_bind (wpAny_setField ho hd (by simp) (wpAny_pure ⟨x, rfl, wpAny_pure (k _ ?_ (Heap.SameBut.update ..))⟩))
  exact ⟨_, Heap.get?_update_self _ ho (Obj.isFreed_of_fields (Obj.data_mapFields hd _)), (Obj.cls_mapFields ..).trans hc, by rw [Obj.data_mapFields hd]; simp [rawInt]⟩
theorem nextT_end {it t : Addr} {i : Nat} {its : Array Value} {Q : Value → Shared → Prop} (hh : A.handled = none) (hit : s.heap.IsTupleIter it t i) (ht : s.heap.IsTuple t its) (hx : its[i]? = none)
    (k : ∀ h' e, Heap.ExtBut it s.heap h' → (∃ o, h'.get? e = some o ∧ o.cls = .type "StopIteration") → E (.ref e) { s with heap := h' }) : wpAny (model prog w) A (Builtin.SmallTypes.nextOf (.ref it)) Q E s := by
  obtain ⟨o, ho, hc, hd⟩ := id hit
  obtain ⟨ot, hot, _, nt, hdt⟩ := ht
  unfold Builtin.SmallTypes.nextOf
  refine wpAny_bind (wpAny_callSpecial?_slot (name := Str.ofString "__next__") hit.typeIs F.slot_tuple_iterator_next (wpAny_call_entry F.slot_tuple_iterator_next hit.typeIs F.entry_tuple_iterator_next ?_ (F.args_tuple_iterator_next_1 _)))
  show wpAny _ _ (field (.ref it) 0 >>= _) _ _ s
  refine wpAny_bind (wpAny_field ho hd (x := .ref t) rfl ?_)
  show wpAny _ _ (if (Value.ref t == Value.none) = true then _ else _) _ _ s
  rw [if_neg (show ¬ ((Value.ref t == Value.none) = true) from Bool.false_ne_true)]
  show wpAny _ _ (field (.ref it) 1 >>= _) _ _ s
  refine wpAny_bind (wpAny_field ho hd (x := .int i 0) rfl ?_)
  show wpAny _ _ (seqItems? (.ref t) >>= _) _ _ s
  refine wpAny_bind (wpAny_seqItems hot hdt ?_)
  simp only [Int.toNat_natCast, hx]
  refine wpAny_bind (wpAny_rule (wpAny_bind (wpAny_setField ho hd (by simp) ?_)))
  show wpAny _ _ (newExc (.type "StopIteration") [] >>= _) _ _ _
  refine wpAny_bind ?_
  simp only [newExc, newTuple]
  refine wpAny_bind (wpAny_newObj_type ?_ (by size_fits))
  refine wpAny_bind (m := firstArgMember _ _) (wpAny_of_eq (a := Value.none) (by first | rfl | (simp only [firstArgMember]; rfl)) ?_)
  refine wpAny_newObj_type ?_ (by size_fits)
  simp only [raiseNew]
  refine wpAny_bind (wpAny_handled ?_)
  first | rw [show A.in1.handled = none from hh] | rw [hh]
  refine wpAny_bind (wpAny_pure (wpAny_throw ?_))
  exact k _ _ (((Heap.SameBut.update ..).extBut.push _).push _) ⟨_, Heap.get?_push_size _ rfl, rfl⟩
end
theorem drawsT {prog : Program} {w : World} {A : Around} (hh : A.handled = none) (it t : Addr) (hne : t ≠ it) (its : Array Value) :
    Draws prog w A it [it, t] its.size (fun i v => its[i]? = some v) (fun i h => h.IsTupleIter it t i ∧ h.IsTuple t its) where
  live := fun _ _ st => let ⟨o, ho, _⟩ := st.1; ⟨o, ho⟩
  frame := fun _ _ _ st hk => ⟨st.1.at fun o e => hk it (by simp) o e, st.2.at fun o e => hk t (by simp) o e⟩
  item := fun i s Q E hi st hQ => nextT_item st.1 st.2 (x := its[i]) (by simp [hi]) fun h' hit' hs' => hQ _ h' s.toks (by simp [hi]) ⟨hit', st.2.extBut hs'.extBut hne⟩ hs'
  done := fun s Q E st hE => nextT_end hh st.1 st.2 (by simp) hE
set_option maxHeartbeats 1000000 in
theorem meetsT (l : Addr) (items : Array Value) (n : Nat) (dct : Option Addr) (sl : Array (Option Value)) :
    Meets (Builtin.«enumerate.__new__» ⟨[.type "enumerate", .ref l], []⟩) (fun _ R s => s.heap.get? l = some { cls := .type "tuple", dict := dct, data := .seq items n, slots := sl } ∧
      R (.ok (.ret (.ref (s.heap.push { cls := .type "tuple_iterator", data := .fields #[.ref l, .int 0 0] }).objs.size)))
        { s with heap := (s.heap.push { cls := .type "tuple_iterator", data := .fields #[.ref l, .int 0 0] }).push { cls := .type "enumerate", data := .fields #[.none, .bool false, .ref s.heap.objs.size, rawInt 0, .none, .none] } }) :=
  .of_wp fun prog w A R s h => by
    obtain ⟨hp, g, d, tk, os⟩ := s; obtain ⟨hl, h⟩ := h
    have sub1 := sub_enumerate
    have isT : Heap.IsTuple (Shared.heap ⟨hp, g, d, tk, os⟩) l items := ⟨_, hl, rfl, n, rfl⟩
    wp_walk using AutoSeq1.wpAny_loadPart' hl
    refine wpAny_stack_any fun st => wpAny_pure ?_
    split
    · rename_i c _ _ _ _ _
      cases (c == Value.type "enumerate")
      · wp_walk using AutoSeq1.wpAny_loadPart' hl, wpAny_pyIter_tuple isT
        exact ⟨_, rfl, h⟩
      · wp_walk using AutoSeq1.wpAny_loadPart' hl, wpAny_pyIter_tuple isT
        exact ⟨_, rfl, h⟩
    · wp_walk using AutoSeq1.wpAny_loadPart' hl, wpAny_pyIter_tuple isT
      exact ⟨_, rfl, h⟩
theorem call_enumT {prog : Program} {w : World} {A : Around} {E : Value → Shared → Prop} {s : Shared} {l : Addr} {items : Array Value} {Q : Value → Shared → Prop} (ht : s.heap.IsTuple l items)
    (h : ∀ h', IsEnum h' (s.heap.objs.size + 1) s.heap.objs.size 0 .none → h'.IsTupleIter s.heap.objs.size l 0 → h'.objs.size = s.heap.objs.size + 2 →
      (∀ b o, s.heap.get? b = some o → h'.get? b = some o) → Q (.ref (s.heap.objs.size + 1)) { s with heap := h' }) :
    wpAny (model prog w) A (call (.type "enumerate") [.ref l]) Q E s := by
  obtain ⟨⟨c, dct, dt, sl⟩, hl, hc, n, hd⟩ := ht
  replace hc : c = .type "tuple" := hc
  replace hd : dt = .seq items n := hd
  subst hc hd
  refine callType_new F.called_enumerate (by decide) (F.typeCall_enumerate_1 _) (F.newCall_enumerate_1 _) (fun obj => F.args_object_init_2 obj _) F.entry_enumerate_new (meetsT l items n dct sl) ⟨hl, ?_⟩
  have hz : (s.heap.push { cls := .type "tuple_iterator", data := .fields #[.ref l, .int 0 0] }).objs.size = s.heap.objs.size + 1 := Heap.size_push ..
  show _ ∧ _
  rw [hz]
  have he : IsEnum ((s.heap.push { cls := .type "tuple_iterator", data := .fields #[.ref l, .int 0 0] }).push
      { cls := .type "enumerate", data := .fields #[.none, .bool false, .ref s.heap.objs.size, rawInt 0, .none, .none] }) (s.heap.objs.size + 1) s.heap.objs.size 0 .none := by
    have q := Heap.get?_push_size (s.heap.push { cls := .type "tuple_iterator", data := .fields #[.ref l, .int 0 0] }) (o := { cls := .type "enumerate", data := .fields #[.none, .bool false, .ref s.heap.objs.size, rawInt 0, .none, .none] }) rfl
    rw [hz] at q; exact q
  refine ⟨⟨_, he, rfl⟩, h _ he ⟨_, Heap.get?_push_of_some _ (Heap.get?_push_size _ rfl), rfl, rfl⟩ (by rw [Heap.size_push, hz]) fun b o x => Heap.get?_push_of_some _ (Heap.get?_push_of_some _ x)⟩
/-- the tuple at a, its items in new pairs with their places -/
def IteT (K : PySem.W.Frag) (a : Addr) : It :=
  ⟨fun i H => ∃ (xs : List V) (x : V), SqT K H a xs ∧ xs[i]? = some x, fun i H v H' => ∃ T x, v = .ref T ∧ H T = none ∧ H' = upd H T (.tup [.int (i : Nat), x]) ∧ ∀ xs, SqT K H a xs → xs[i]? = some x, fun i H => ∃ xs : List V, SqT K H a xs ∧ xs.length = i⟩
theorem turn_enumT {P : Program} {w : World} {K : PySem.W.Frag} {elts : List Expr} {kk : Nat} {tpos : Pos} (a e it : Addr) :
    Turn P w K (.Tuple elts kk tpos) (IteT K a) [e, it] e (fun i h => (∃ old, IsEnum h e it ((i : Nat) : Int) old) ∧ h.IsTupleIter it a i ∧ e ≠ it ∧ a ≠ it ∧ a ≠ e) where
  mem := by simp
  obj := fun i h st b hb => by
    obtain ⟨⟨old, he⟩, ⟨o, ho, hc, hd⟩, _⟩ := st
    have e' : b = e ∨ b = it := by simpa using hb
    rcases e' with z | z
    · rw [z]; exact ⟨_, he, fun v q => nomatch q⟩
    · rw [z]; exact ⟨o, ho, fun v q => by rw [hd] at q; cases q⟩
  keep := fun i h h' st k => let ⟨⟨old, he⟩, hi, n1, n2⟩ := st; ⟨⟨old, k e (by simp) _ he⟩, hi.at fun o q => k it (by simp) o q, n1, n2⟩
  item := by
    intro X hP hw hK hc i pins s σ H E I hf st hg
    subst hP hw hK
    obtain ⟨⟨old, he⟩, hit, hne, nai, nae⟩ := st
    obtain ⟨xs, x, hq, hx⟩ := hg
    obtain ⟨its, rv, p, hz⟩ := I.tuple hq
    obtain ⟨u, hu, ru⟩ := rv.get hx
    have hel : e < s.heap.objs.size := Heap.lt_size he
    have hil : it < s.heap.objs.size := by obtain ⟨_, q, _⟩ := hit; exact Heap.lt_size q
    have pt : s.heap.IsTuple a its.toArray := p
    have hii : i < its.toArray.size := by
      have q := (List.getElem?_eq_some_iff.mp hu).1
      simpa using q
    refine wpAny_pyNext_enum_itemD (drawsT (A := X.A.in1) (I.ok.hd hc) it a nai its.toArray) he ⟨hit, pt⟩ hii hne (by simp only [List.mem_cons, List.mem_singleton, List.not_mem_nil, or_false, not_or]; exact ⟨hne, fun z => nae z.symm⟩) fun x1 h1 tk hx1 ho st1 hT hsz kp => ?_
    have ex : x1 = u := by
      have q : its.toArray[i]? = some u := by simpa using hu
      rw [q] at hx1
      cases hx1
      rfl
    subst ex
    refine ⟨_, rfl, wpAny_letOwnedTupleGo_enum (s := { s with heap := h1, toks := tk + 1 }) ho fun h2 he2 sb => ?_⟩
    have hT2 : h2.get? s.heap.objs.size = some { cls := .type "tuple", data := .seq #[.int i tk, x1] } := (sb.2 _ (Nat.ne_of_gt hel)).trans hT
    have new : ObjOk X.prog X.w (upd H s.heap.objs.size (.tup [.int (i : Nat), x])) h2 s.heap.objs.size (.tup [.int (i : Nat), x]) :=
      ⟨by show 2 ≤ sizeLine; decide, [.int i tk, x1], .cons ⟨_, rfl⟩ (.cons ru .nil), ⟨_, hT2, rfl, _, rfl⟩⟩
    have I1 : Inv X pins σ (upd H s.heap.objs.size (.tup [.int (i : Nat), x])) { s with heap := h2, toks := tk + 1 } :=
      I.turnedNew (ch := [e, it]) (fun b ob hb q => (sb.2 b (fun z => hb (by simp [z]))).trans (kp b ob (fun z => hb (by simp [z])) (fun z => hb (by simp [z])) q)) hf (Nat.le_refl _) new
    have tinj : ∀ ys, SqT X.K H a ys → ys[i]? = some x := fun ys hy => by rw [I.tuple_inj hy hq]; exact hx
    refine ⟨.ref s.heap.objs.size, _, I1, rfl, ⟨_, x, rfl, I.hok.fresh (Nat.le_refl _), rfl, tinj⟩, ⟨⟨x1, ?_⟩, st1.1.at fun o q => (sb.2 it (Ne.symm hne)).trans q, hne, nai, nae⟩, fun b hb => ?_⟩
    · have e1 : ((i + 1 : Nat) : Int) = (i : Int) + 1 := by omega
      rw [e1]; exact he2
    · have hb' : b < s.heap.objs.size := by
        have e' : b = e ∨ b = it := by simpa using hb
        rcases e' with z | z
        · rw [z]; exact hel
        · rw [z]; exact hil
      rw [upd_ne (Nat.ne_of_lt hb')]
      exact (hf b hb).1
  done := by
    intro X hP hw hK hc i pins s σ H E I hf st hg
    subst hP hw hK
    obtain ⟨⟨old, he⟩, hit, hne, nai, nae⟩ := st
    obtain ⟨xs, hq, hx⟩ := hg
    obtain ⟨its, rv, p, hz⟩ := I.tuple hq
    obtain ⟨f0, f1, f2, f3, f4, f5⟩ := hf it (by simp)
    have pt : s.heap.IsTuple a its.toArray := p
    have hl := rv.length
    have hn : its.toArray.size = i := by rw [List.size_toArray, ← hl, hx]
    exact wpAny_pyNext_enum_endD (drawsT (A := X.A.in1) (I.ok.hd hc) it a nai its.toArray) he ⟨by rw [hn]; exact hit, pt⟩ fun h1 eb => ⟨rfl, I.turned (t' := s.toks) (fun b o hb q => eb b o hb q) f0 f1 f3 f4 f5⟩
  self := fun A i s Q E st h => let ⟨⟨_, he⟩, _⟩ := st; wpAny_pyIter_enum he h
section
variable {X : Cx} {W : WX} {e : Expr} {fe : F Wv} {p pos tpos : Pos} {elts : List Expr} {kk : Nat}
def iEnumT (K : PySem.W.Frag) (ta : TA) : TI := fun σ H R => ta σ H fun vs H1 => ∃ a xs, vs = [.ref a] ∧ SqT K H1 a xs ∧ R (IteT K a) H1
theorem pi_enumT {ta : TA} (hg : Gl X "enumerate") (hm : X.mg "enumerate" = none) (ha : PA X [e] ta) (hs : starEach [e] X.env = [(false, eval e X.env)]) : PI X (.Tuple elts kk tpos) (.Call (.Name "enumerate" p) [e] [] pos) (iEnumT X.K ta) := by
  refine ⟨fun pins s σ H R I h => ?_⟩
  refine Call_ (ld_blt I hg hm boot_enumerate (PyProof.Rows.callWith_type1 (thn (ha.run pos pins s σ H _ I h) fun us s1 ⟨vs, H1, I1, r1, q1⟩ => ?_) hs rfl))
  obtain ⟨a, xs, ex, hq, q⟩ := q1
  subst ex
  cases r1 with
  | cons r rr =>
    cases rr
    cases r
    obtain ⟨its, rv, pt, hz⟩ := I1.tuple hq
    have pt' : s1.heap.IsTuple a its.toArray := pt
    have la : a < s1.heap.objs.size := by obtain ⟨_, q, _⟩ := pt'; exact Heap.lt_size q
    refine call_enumT pt' fun h1 he hit hsz hk => wpAny_pyIter_enum he ?_
    have I2 : Inv X pins σ H1 { s1 with heap := h1 } := I1.kept (t' := s1.toks) hk
    refine ⟨s1.heap.objs.size + 1, [s1.heap.objs.size + 1, s1.heap.objs.size], _, _, H1, rfl, I2, turn_enumT a (s1.heap.objs.size + 1) s1.heap.objs.size, ⟨⟨.none, he⟩, hit, Nat.succ_ne_self _, Nat.ne_of_lt la, Nat.ne_of_lt (Nat.lt_succ_of_lt la)⟩, fun b hb => ?_, q⟩
    have e' : b = s1.heap.objs.size + 1 ∨ b = s1.heap.objs.size := by simpa using hb
    have hle : s1.heap.objs.size ≤ b := by
      rcases e' with z | z
      · rw [z]; exact Nat.le_add_right _ _
      · rw [z]; exact Nat.le_refl _
    exact I1.fpOk hle (I1.hok.fresh hle)
/-- the items with their places -/
def enumP (l : List P) : List P := l.mapIdx fun i x => .tup [.int (i : Nat), x]
def fEnum (fs : F (List Wv)) : F (List P) := bindF fs fun ws => match ws with
  | [.p x] => match asL x, asT x with
    | some l, _ => if l.length ≤ 16777216 then retF (enumP l) else failF
    | _, some l => if l.length ≤ 16777216 then retF (enumP l) else failF
    | _, _ => failF
  | _ => failF
theorem enumP_at {l : List P} {i : Nat} {x : P} (h : (enumP l)[i]? = some x) : ∃ y, l[i]? = some y ∧ x = .tup [.int (i : Nat), y] := by
  unfold enumP at h
  rw [List.getElem?_mapIdx] at h
  cases hl : l[i]? with
  | none => rw [hl] at h; cases h
  | some y =>
    rw [hl] at h
    cases h
    exact ⟨y, rfl, rfl⟩
theorem enumP_len (l : List P) : (enumP l).length = l.length := by unfold enumP; simp
theorem si_enum {fs : F (List Wv)} (hg : Gl X "enumerate") (hm : X.mg "enumerate" = none) (ha : SA X W [e] fs) (hs : starEach [e] X.env = [(false, eval e X.env)]) : SI X W (.Tuple elts kk tpos) (.Call (.Name "enumerate" p) [e] [] pos) (fEnum fs) := by
  refine ⟨fun pins s0 σ H R I ⟨B, Z, m, ρ, S, r, S', s, v, eq, k⟩ => ?_⟩
  have tup : (∃ x S1 l, fs ρ S = some (.ok [.p x], S1) ∧ asL x = none ∧ asT x = some l) ∨ ¬ ∃ x S1 l, fs ρ S = some (.ok [.p x], S1) ∧ asL x = none ∧ asT x = some l := Classical.em _
  rcases tup with ⟨x, S1, l, hf, hn, ht⟩ | no
  · refine (pi_enumT hg hm ha hs).run pins s0 σ H R I ?_
    refine tG_bindE s v eq k fun Z1 m1 H1 S2 ws us hf2 e1 s1 v1 ra eq1 k1 => ?_
    rw [hf] at hf2
    cases hf2
    simp only [hn, ht] at eq1
    split at eq1
    · rename_i hl
      cases eq1
      cases ra with
      | cons r t =>
        cases t
        cases r with
        | p ra =>
          obtain ⟨a, xs, rfl, h1, h2, h3⟩ := ra.coT ht
          refine ⟨a, xs, rfl, h1.sq, k1.fin s1 ⟨by rw [enumP_len]; exact h3, fun Z2 H2 c => ?_⟩⟩
          have g1 := (c.coT h1).sq
          have g2 := h2.move c
          refine ⟨⟨xs, g1, by rw [g2.len, enumP_len]⟩, fun i x hx => ?_⟩
          obtain ⟨y, hy, rfl⟩ := enumP_at hx
          obtain ⟨u, q1, q2⟩ := g2.get' hy
          refine ⟨⟨xs, u, g1, q1⟩, fun v' H3 ⟨T, x', ev, hT, eH, hxx⟩ => .inr ⟨T, [.int (i : Nat), x'], [.int (i : Nat), y], ev, hT, eH, .cons (.int _) (.cons ?_ .nil), by simp, rfl⟩⟩
          have := hxx xs g1
          rw [q1] at this
          cases this
          exact q2
    · cases eq1
  · refine (pi_enum hg hm ha hs).run pins s0 σ H R I ?_
    refine tG_bindE s v eq k fun Z1 m1 H1 S2 ws us hf2 e1 s1 v1 ra eq1 k1 => ?_
    split at eq1
    · rename_i x
      cases hl : asL x with
      | none =>
        cases ht : asT x with
        | none => simp only [hl, ht] at eq1; cases eq1
        | some l => exact absurd ⟨x, S2, l, hf2, hl, ht⟩ no
      | some l =>
        simp only [hl] at eq1
        split at eq1
        · cases eq1
          cases ra with
          | cons r t =>
            cases t
            cases r with
            | p ra =>
              obtain ⟨a, xs, rfl, h1, h2, h3⟩ := ra.coL hl
              refine ⟨a, xs, rfl, h1.sq, k1.fin s1 ⟨by rw [enumP_len]; exact h3, fun Z2 H2 c => ?_⟩⟩
              have g1 := (c.coL h1).sq
              have g2 := h2.move c
              refine ⟨⟨xs, g1, by rw [g2.len, enumP_len]; exact Nat.le_refl _⟩, fun i x hx => ?_⟩
              obtain ⟨y, hy, rfl⟩ := enumP_at hx
              obtain ⟨u, q1, q2⟩ := g2.get' hy
              refine ⟨⟨xs, u, g1, q1⟩, fun v' H3 ⟨T, x', ev, hT, eH, hxx⟩ => .inr ⟨T, [.int (i : Nat), x'], [.int (i : Nat), y], ev, hT, eH, .cons (.int _) (.cons ?_ .nil), by simp, rfl⟩⟩
              have := hxx xs g1
              rw [q1] at this
              cases this
              exact q2
        · cases eq1
    · cases eq1
end
end Wr

set_option maxHeartbeats 4000000
/-! A22: a lambda handed to a def that calls it in a try; functions held by names. -/
namespace Wr
open PySem PySem.Spec PyProof.Rows L2 ClX LamX

/-- what a def makes of an error of the lambda that it was handed -/
abbrev HF := Str → List (Str × P) → List Ob → Option (Wv × List Ob)
def fTold (h : HF) (f : F Wv) : F Wv := fun ρ S => match f ρ S with
  | none => none
  | some (.ok a, S1) => some (.ok a, S1)
  | some (.exc c fs, S1) => (h c fs S1).map fun q => (.ok q.1, q.2)
def wHF (K : PySem.W.Frag) (mg : Mg) (h : HF) (Q : VK) : XK := fun cls d H' =>
  ∃ B Z m S c fs w S', SOk K mg B Z m H' S ∧ ExR K mg Z H' c fs cls d ∧ h c fs S = some (w, S') ∧ ∀ Z' m' H'', Ext B Z m H' Z' m' H'' → SOk K mg B Z' m' H'' S' → ∀ v, Rw K mg Z' m' H'' v w → Q v H''
def TTh (K : PySem.W.Frag) (mg : Mg) (h : HF) : (XK → Hp → VK → Prop) → Hp → VK → Prop := fun tl H Q => tl (wHF K mg h Q) H Q
/-- the code object and the table of the def in which a lambda stands -/
structure LamC (X : Cx) : Prop where
  ex : ∃ c P, X.env.code = .ref c ∧ TabB X.base X.mg c P ∧ (P, X.env.qual ++ "<lambda>") ∈ tabsOf X.K ∧ ∀ p ∈ tabsOf X.K, p.1 = P → p.2 = X.env.qual ++ "<lambda>"
/-- the def x calls what it is handed, and makes h of its errors -/
structure ToldOk (P0 : Program) (w : World) (K : PySem.W.Frag) (mg : Str → Option Value) (base : Heap) (x : Str) (h : HF) : Prop where
  ex : ∃ (g : Addr) (pg : Arguments) (bg : List Stmt) (sg : Scope) (dV kV doc pm cdv ct oc : Value) (an od : Option Addr) (osl : Array (Option Value)) (Ng : List Str) (a : Str),
    mg x = some (.ref g) ∧ PySem.W.keepIn K (.ref g) = true ∧ K.lookup g = some ⟨oc, od, .func (PySem.W.fnOf x x pg bg sg dV kV doc pm an cdv ct), osl⟩ ∧ PySem.W.codeIn K cdv x = true ∧ L2.Binds K (PySem.W.fnOf x x pg bg sg dV kV doc pm an cdv ct) [a] [] ∧
    FnScope Ng [a] sg ∧ Ng[0]? = some a ∧ Vis sg a ∧ (a == ("__debug__" : Str)) = false ∧ (a == ("__classdict__" : Str)) = false ∧
    ∀ (X : Cx) (q : Str), X.prog = P0 → X.w = w → X.K = K → X.mg = mg → X.base = base → GivesTo X Ng x sg g cdv bg a q (TTh K ⟨mg, P0, w⟩ h)
section
variable {X : Cx} {W : WX} {k : Nat}
theorem se_told {x : Str} {h : HF} {f : F Wv} {params : Arguments} {body : Expr} {scope : Scope} {p lpos pos : Pos} (hg : Gl X x) (T : ToldOk X.prog X.w X.K X.mg X.base x h) (L : LamC X) (hr : Room (k + 2) X.A) (S : LamS X.env.scope scope) (hdef : defaultsOf params X.env = ([], []))
    (hbind : ∀ (q : Str) (cl : List (Str × Addr)) (pm cv ctv : Value), bindArgs (PySem.W.kla_fn "<lambda>" q params body scope cl pm cv ctv) ⟨[], []⟩ = pure []) (hdb : (x == ("__debug__" : Str)) = false)
    (hbody : ∀ (A : Around) (outer : List Env) (s : Shared) (H : Hp) (E : XK) (f' c' : Addr), Room k (A.deeper (lamEnv X scope s.heap.objs.size f' c')) → SE (lamCx X A outer s H E scope f' c') (fun cls d _ H => E cls d H) body f) :
    SE X W (.Call (.Name x p) [.Lambda params body scope lpos] [] pos) (fTold h f) := by
  obtain ⟨g, pg, bg, sg, dV, kV, doc, pm, cdv, ct, oc, an, od, osl, Ng, a, h1, h2, h3, h4, h5, h6, h7, h8, h9, h10, hG⟩ := T.ex
  obtain ⟨c, P, l1, l2, l3, l4⟩ := L.ex
  refine pe_weak (pe_lamcall (T := tabsOf X.K) (TT := TTh X.K X.gl h) (t := fun E => tG relW X (fun cls d _ H => E cls d H) f) hg h1 h2 h3 h4 h5 h6 h7 h8 (hG X _ rfl rfl rfl rfl rfl) l2 l1 l3 l4 hr S hdef hbind (fun A outer s H E f' c' hr' => hbody A outer s H E f' c' hr') hdb h9 h10)
    fun σ H Q ⟨B, Z, m, ρ, S0, r, S', s, v, eq, kk⟩ => ⟨s.tabs.tb, fun H1 eN T1 => ?_⟩
  have e1 : Ext B Z m H Z m H1 := ⟨⟨[], by simp⟩, fun _ z => .inl z, fun _ z => .inl z, fun b u h _ nt => eN b u h nt, fun b ⟨u, hu, nt⟩ => ⟨u, eN b u hu nt, nt⟩⟩
  have s1 : SOk X.K X.gl B Z m H1 S0 := s.stay (fun a u e _ nt => eN a u e nt) e1 ⟨T1⟩
  show tG relW X (fun cls d _ H => wHF X.K X.gl h Q cls d H) f σ H1 Q
  unfold fTold at eq
  cases hf : f ρ S0 with
  | none => rw [hf] at eq; cases eq
  | some q =>
    obtain ⟨r0, S1⟩ := q
    rw [hf] at eq
    refine ⟨B, Z, m, ρ, S0, r0, S1, s1, v.move e1, hf, fun Z' m' H' e' s' => ?_⟩
    cases r0 with
    | ok a0 =>
      cases eq
      exact fun b rb => kk Z' m' H' (e1.trans e') s' b rb
    | exc c0 fs0 =>
      intro cls d xr
      cases hq : h c0 fs0 S1 with
      | none => simp [hq] at eq
      | some q0 =>
        obtain ⟨w0, S2⟩ := q0
        simp only [hq, Option.map_some, Option.some.injEq, Prod.mk.injEq] at eq
        obtain ⟨rfl, rfl⟩ := eq
        exact ⟨B, Z', m', S1, c0, fs0, w0, S2, s', xr, hq, fun Z2 m2 H2 e2 s2 u ru => kk Z2 m2 H2 ((e1.trans e').trans e2) s2 u ru⟩
/-- a call of what a name holds; φ: the defs by their names -/
def fCallV (φ : Str → Option Fm) (i : Nat) (fs : F (List Wv)) : F Wv := fun ρ S => match ρ[i]? with
  | some (some (.p (.fn y))) => (match φ y with
    | some f => fCall f fs ρ S
    | none => none)
  | _ => none
theorem call_goal {n : Nat} {f : Fm} {fs : F (List Wv)} {σ : L2.St} {H : Hp} {Q : VK} (hl : ∀ ρ S ws S', fs ρ S = some (.ok ws, S') → ws.length = n) (h : tG relW X W (fCall f fs) σ H Q) :
    tG relL X W fs σ H fun vs H1 => spF X.K X.gl n f vs H1 Q (WE W σ) := by
  obtain ⟨B, Z, m, ρ, S, r, S', s, v, eq, kk⟩ := h
  refine tG_bindE s v eq kk fun Z1 m1 H1 S1 ws vs hf e1 s1 v1 rl eq1 k1 => ?_
  cases hr0 : f ws S1 with
  | none => rw [hr0] at eq1; cases eq1
  | some q =>
    obtain ⟨r0, S0⟩ := q
    refine ⟨B, Z1, m1, S1, ws, r0, S0, s1, rl, hl _ _ _ _ hf, hr0, fun Z' H' ex s' => ?_⟩
    rw [hr0] at eq1
    cases r0 with
    | ok p0 =>
      cases eq1
      exact Goal.call (r0 := .ok p0) rfl k1 ex s'
    | exc c0 e0 =>
      cases eq1
      exact Goal.call (r0 := .exc c0 e0) rfl k1 ex s'
theorem se_callv {φ : Str → Option Fm} {i n : Nat} {x : Str} {p pos : Pos} {e : Expr} {es : List Expr} {fs : F (List Wv)} (hφ : ∀ y f, φ y = some f → ∃ fa fd ps, X.mg y = some (.ref fa) ∧ PySem.W.keepIn X.K (.ref fa) = true ∧ Binds X.K fd ps [] ∧ FnOk X.prog X.w X.K X.mg X.base (L2.CX X.prog X.w) k fa fd ps (spF X.K X.gl n f))
    (hr : Room k X.A) (hN : X.N[i]? = some x) (hv : Vis X.env.scope x) (tk : Takes X W) (ha : SA X W (e :: es) fs) (hl : ∀ ρ S ws S', fs ρ S = some (.ok ws, S') → ws.length = n) (hdb : (x == ("__debug__" : Str)) = false) (hcd : (x == ("__classdict__" : Str)) = false)
    (he : starEach (e :: es) X.env = (false, eval e X.env) :: starEach es X.env) (hpl : (backTo pos (starEach es X.env)).any (·.1) = false) :
    SE X W (.Call (.Name x p) (e :: es) [] pos) (fCallV φ i fs) := by
  refine ⟨fun pins s0 σ H Q I h => ?_⟩
  have h0 := h
  obtain ⟨B, Z, m, ρ, S, r, S', s, v, eq, kk⟩ := h
  unfold fCallV at eq
  split at eq
  · rename_i y hy
    split at eq
    · rename_i f hf
      obtain ⟨fa, fd, ps, q1, q2, q3, q4⟩ := hφ y f hf
      obtain ⟨u, hu, ru⟩ := v.2 i _ hy
      obtain ⟨a, rfl, ha2⟩ : ∃ a, u = .ref a ∧ X.mg y = some (.ref a) := by
        cases ru with
        | p ru => cases ru with | fn q => exact ⟨_, rfl, q⟩
      rw [q1] at ha2
      cases ha2
      have h1 := call_goal (X := X) (W := W) hl ⟨B, Z, m, ρ, S, r, S', s, v, eq, kk⟩
      refine wpAny_Call_Name_kw (thn ((pe_var (pos := p) hN hv hdb hcd).run pins s0 σ H (fun v H1 => v = .ref fa ∧ H1 = H) I ⟨.ref fa, hu, rfl, rfl⟩) fun u2 s1 ⟨v2, H1, I1, r1, q5⟩ => ?_)
      obtain ⟨rfl, rfl⟩ := q5
      cases r1
      refine PySem.W.callWith_K (h₀ := X.base) I.ok.mod.kin q2 (thn (ha.run pos pins s1 σ _ _ I1 h1) fun us s2 ⟨vs, H2, I2, r2, q6⟩ => ⟨I2.kIn, ?_⟩) he hpl
      exact run_fnS q4 hr q3 (passAt tk σ) I2 r2 q6
    · cases eq
  · cases eq
end
end Wr

set_option maxHeartbeats 4000000
/-! A23: turned sequences, texts said often, the signs of a text, dicts of pairs. -/
namespace Wr
open PySem PySem.Spec PyProof.Rows L2

/-! ### t[::-1] -/
section
variable {prog : Program} {w : World} {A : Around} {E : Value → Shared → Prop} {s : Shared}
theorem adj_rev (n : Nat) : Builtin.Slice.sliceAdjust none none (-1) (n : Int) = ((n : Int) - 1, -1) := by
  unfold Builtin.Slice.sliceAdjust
  rfl
theorem pl_rev (n : Nat) : Builtin.Slice.slicePlaces ((n : Int) - 1) (-1) (-1) = n := by
  unfold Builtin.Slice.slicePlaces
  have h0 : ¬ ((-1 : Int) > 0) := by decide
  rw [if_neg h0]
  have h2 : (- (-1 : Int)) = 1 := by decide
  by_cases h : (n : Int) - 1 > -1
  · rw [if_pos h, h2, Int.ediv_one]
    omega
  · rw [if_neg h]
    omega
theorem applied_rev {sl : Addr} {vs : Value} {n : Nat} {Q : Int × Int × Nat → Shared → Prop} (hs : s.heap.IsSliceOf sl .none .none vs) (ps : IsPart vs (some (-1))) (h : Q ((n : Int) - 1, -1, n) s) :
    wpAny (model prog w) A (Builtin.Slice.sliceApplied (.ref sl) (pure (n : Int))) Q E s := by
  obtain ⟨ob, e1, e2, e3⟩ := id hs
  unfold Builtin.Slice.sliceApplied Builtin.Slice.sliceFields
  refine wpAny_bind (wpAny_bind (wpAny_field e1 e3 (x := .none) rfl (wpAny_bind (wpAny_field e1 e3 (x := .none) rfl (wpAny_bind (wpAny_field e1 e3 (x := vs) rfl (wpAny_pure ?_)))))))
  refine wpAny_bind (HT.slicePart_ ps ?_)
  show wpAny _ _ (if ((-1 : Int) == 0) = true then _ else _) _ _ s
  rw [if_neg (by decide)]
  refine wpAny_bind (HT.slicePart_ .none (wpAny_bind (HT.slicePart_ .none (wpAny_bind (wpAny_pure ?_)))))
  show wpAny _ _ (match Builtin.Slice.sliceAdjust none none (-1) (n : Int) with | (a, b) => pure (a, (-1 : Int), Builtin.Slice.slicePlaces a b (-1))) _ _ s
  rw [adj_rev]
  show wpAny _ _ (pure ((n : Int) - 1, (-1 : Int), Builtin.Slice.slicePlaces ((n : Int) - 1) (-1) (-1))) _ _ s
  rw [pl_rev]
  exact wpAny_pure h
theorem rev_pick (xs : Array Value) : ((List.range xs.size).filterMap fun (k : Nat) => xs[(((xs.size : Int) - 1) + (k : Int) * (-1)).toNat]?).toArray = xs.toList.reverse.toArray := by
  have e : ((List.range xs.size).filterMap fun (k : Nat) => xs[(((xs.size : Int) - 1) + (k : Int) * (-1)).toNat]?) = ((List.range xs.size).map fun k => xs.size - 1 - k).filterMap (xs[·]?) := by
    rw [List.filterMap_map]
    congr 1
    funext k
    have e2 : (((xs.size : Int) - 1) + (k : Int) * (-1)).toNat = xs.size - 1 - k := by omega
    show _ = xs[xs.size - 1 - k]?
    rw [e2]
  rw [e, PySem.W.krv_range, List.filterMap_reverse, PySem.W.krv_all]
theorem item_tup_rev {t sl : Addr} {items : Array Value} {vs : Value} {Q : Value → Shared → Prop} (ht : IsTup s.heap t items) (hs : s.heap.IsSliceOf sl .none .none vs) (ps : IsPart vs (some (-1)))
    (h : Q (.ref s.heap.objs.size) { s with heap := s.heap.push { cls := .type "tuple", data := .seq items.toList.reverse.toArray } }) (hsz : items.size ≤ sizeLine) : wpAny (model prog w) A (getItem (.ref t) (.ref sl)) Q E s := by
  have fits : sizeOk (.seq items.toList.reverse.toArray) := by
    show items.toList.reverse.toArray.size ≤ sizeLine
    rw [List.size_toArray, List.length_reverse, Array.length_toList]
    exact hsz
  obtain ⟨ob, e1, e2, e3⟩ := id hs
  have tS : s.TypeIs (.ref sl) "slice" := ⟨ob, e1, e2⟩
  unfold getItem
  try with_reducible refine wpAny_holding ?_
  first | refine wpAny_bind (wpAny_pure ?_) | skip
  refine wpAny_bind (wpAny_sequenceKey ht.typeIs (by decide) ?_)
  refine wpAny_bind (wpAny_callSpecial?_slot (name := Str.ofString "__getitem__") ht.typeIs PyProof.Rows.slot_tuple_getitem (wpAny_call_entry PyProof.Rows.slot_tuple_getitem ht.typeIs entry_tuple_getitem ?_ (args_tuple_getitem _ _)))
  show wpAny _ _ (Builtin.Tuple.tupleItemsOf (.ref t) >>= _) _ _ s
  refine wpAny_bind (tupleItemsOf_ ht ?_)
  refine wpAny_bind (wpAny_typeOf tS ?_)
  rw [if_pos (by decide)]
  refine wpAny_bind (applied_rev hs ps ?_)
  have no : ¬ ((((items.size : Int) - 1) == 0 && (-1 : Int) == 1 && items.size == items.size) = true) := by
    intro q
    rw [Bool.and_eq_true, Bool.and_eq_true] at q
    exact absurd (eq_of_beq q.1.2) (by decide)
  show wpAny _ _ (if (((items.size : Int) - 1) == 0 && (-1 : Int) == 1 && items.size == items.size) = true then _ else _) _ _ s
  rw [if_neg no, rev_pick]
  first
    | exact wpAny_bind (m := Builtin.Tuple.tupleExact _) (wpAny_newObj_type (wpAny_pure ⟨_, rfl, wpAny_pure h⟩) fits)
    | exact wpAny_bind (m := Builtin.Tuple.tupleExact _) (wpAny_newObj_type (wpAny_bind (wpAny_pure (wpAny_pure ⟨_, rfl, wpAny_pure h⟩))) fits)
    | exact wpAny_bind (wpAny_bind (m := Builtin.Tuple.tupleExact _) (wpAny_newObj_type (wpAny_pure (wpAny_pure ⟨_, rfl, wpAny_pure h⟩)) fits))
    | exact wpAny_bind (wpAny_bind (m := Builtin.Tuple.tupleExact _) (wpAny_newObj_type (wpAny_pure ⟨_, rfl, wpAny_pure h⟩) fits))
end
section
variable {X : Cx}
/-- of a list or of a tuple -/
def tRevX (K : PySem.W.Frag) (te : TE) : TE := fun σ H Q => te σ H fun x H1 => ∃ a xs, x = .ref a ∧ ((SqL K H1 a xs ∧ ∀ p, H1 p = none → Q (.ref p) (upd H1 p (.lst xs.reverse))) ∨ (SqT K H1 a xs ∧ ∀ p, H1 p = none → Q (.ref p) (upd H1 p (.tup xs.reverse))))
theorem pe_revX {e : Expr} {te : TE} {k : Nat} {p1 p2 p3 pos : Pos} (he : PE X e te) : PE X (.Subscript e (.Slice none none (some (.UnaryOp .USub (.Constant (.int 1) k p1) p2)) p3) pos) (tRevX X.K te) := by
  refine ⟨fun pins s σ H Q I h => ?_⟩
  refine Subscript_ (thn (he.run pins s σ H _ I h) fun v s1 ⟨x, H1, I1, r1, q1⟩ => ?_)
  obtain ⟨a, xs, ex, hx⟩ := q1
  subst ex
  cases r1
  have hst : PO X (some (.UnaryOp .USub (.Constant (.int 1) k p1) p2)) (tPart (tUn (rU fun i => .int (-i)) (tC (.int 1)))) := po_some (pe_un un_neg pe_int)
  refine wpAny_Slice (thn (po_none.run pins s1 σ H1 (fun o H2 => o = none ∧ H2 = H1) I1 ⟨rfl, rfl⟩) fun vl s2 ⟨l, H2, I2, pl, el, e2⟩ => ?_)
  subst el e2
  refine thn (po_none.run pins s2 σ H2 (fun o H3 => o = none ∧ H3 = H2) I2 ⟨rfl, rfl⟩) fun vu s3 ⟨u, H3, I3, pu, eu, e3⟩ => ?_
  subst eu e3
  refine thn (hst.run pins s3 σ H3 (fun o H4 => o = some (-1) ∧ H4 = H3) I3 ⟨1, rfl, -1, rfl, rfl, rfl⟩) fun vs s4 ⟨o, H4, I4, ps, eo, e4⟩ => ?_
  subst eo e4
  have I5 : Inv X pins σ H4 { s4 with heap := s4.heap.push { cls := .type "slice", data := .fields #[vl, vu, vs] } } := I4.kept (t' := s4.toks) fun b ob q => Heap.get?_push_of_some _ q
  show wpAny (model X.prog X.w) X.A (subscriptTail e (.Slice none none (some (.UnaryOp .USub (.Constant (.int 1) k p1) p2)) p3) (.ref a) (.ref s4.heap.objs.size)) (EP X pins σ Q) X.xe { s4 with heap := s4.heap.push { cls := .type "slice", data := .fields #[vl, vu, vs] } }
  rcases hx with ⟨hx, q⟩ | ⟨hx, q⟩
  · obtain ⟨its, r, ht, hz⟩ := I5.list hx
    have hlen := r.length
    refine tail_any (ops := [.ref a, .ref s4.heap.objs.size]) ht.isList.typeIs (PySem.slot_list_getitem.lookup) ?_ (by with_unfolding_all rfl)
    refine wpAny_getItem_list_slice ht.isList (Heap.IsSliceOf.new _ vl vu vs) pl pu ps (by decide) ?_ (by rw [List.size_toArray]; omega)
    rw [PySem.W.krv_pick]
    exact ⟨.ref _, _, I5.laid (t' := s4.toks) (o := .lst xs.reverse) (fun b ob q => Heap.get?_push_of_some _ q) (Nat.le_refl _) ⟨by rw [List.length_reverse]; exact hz, _, 0, r.reverse, Heap.get?_push_size _ rfl⟩, rfl, q _ (I5.hok.fresh (Nat.le_refl _))⟩
  · obtain ⟨its, r, ht, hz⟩ := I5.tuple hx
    have hlen := r.length
    cases pl
    cases pu
    refine tail_any (ops := [.ref a, .ref s4.heap.objs.size]) ht.typeIs (PyProof.Rows.slot_tuple_getitem.lookup) ?_ (by with_unfolding_all rfl)
    refine item_tup_rev ht (Heap.IsSliceOf.new _ _ _ vs) ps ?_ (by rw [List.size_toArray]; omega)
    exact ⟨.ref _, _, I5.laid (t' := s4.toks) (o := .tup xs.reverse) (fun b ob q => Heap.get?_push_of_some _ q) (Nat.le_refl _) ⟨by rw [List.length_reverse]; exact hz, _, r.reverse, IsTup.new _ _⟩, rfl, q _ (I5.hok.fresh (Nat.le_refl _))⟩
theorem RpL.rev {K : PySem.W.Frag} {mg : Mg} {Z : Addr → Prop} {H : Hp} : ∀ {vs : List V} {ps : List P}, RpL K mg Z H vs ps → RpL K mg Z H vs.reverse ps.reverse
  | _, _, .nil => .nil
  | _, _, .cons r t => by
    rw [List.reverse_cons, List.reverse_cons]
    exact (RpL.rev t).app (.cons r .nil)
def fRev (own : Bool) (fa : F Wv) : F Wv := bindF fa fun a => fun _ S => match view a S with
  | some (.lst l) => newL own l.reverse S
  | some (.lsf l) => newL own l.reverse S
  | some (.tup l) => some (.ok (.p (.tup l.reverse)), S)
  | _ => none
theorem se_rev {W : WX} {own : Bool} {e : Expr} {fa : F Wv} {k : Nat} {p1 p2 p3 pos : Pos} (he : SE X W e fa) : SE X W (.Subscript e (.Slice none none (some (.UnaryOp .USub (.Constant (.int 1) k p1) p2)) p3) pos) (fRev own fa) := by
  refine pe_weak (pe_revX he) fun σ H Q ⟨B, Z, m, ρ, S, r, S', s, v, eq, kk⟩ => ?_
  refine tG_bind s v eq kk fun Z1 m1 H1 S1 x vx e1 s1 v1 rx eq1 k1 => ?_
  split at eq1
  · rename_i l hl
    have rv := view_ok s1 rx hl
    have hz := rv.lenL (l := l) (.inl rfl)
    obtain ⟨a, xs, rfl, ha, ra⟩ := rv.lstI
    exact ⟨a, xs, rfl, .inl ⟨SqL.of ha, fun p hp => newL_ok s1 (by rw [List.length_reverse]; exact hz) ra.rev eq1 k1 hp⟩⟩
  · rename_i l hl
    have rv := view_ok s1 rx hl
    have hz := rv.lenL (l := l) (.inl rfl)
    obtain ⟨a, xs, rfl, ha, ra⟩ := rv.lsfI
    exact ⟨a, xs, rfl, .inl ⟨ha, fun p hp => newL_ok s1 (by rw [List.length_reverse]; exact hz) ra.rev eq1 k1 hp⟩⟩
  · rename_i l hl
    cases eq1
    have rv := view_ok s1 rx hl
    have hz := rv.lenL (l := l) (.inr rfl)
    obtain ⟨a, xs, rfl, ha, ra⟩ := rv.tupI
    exact ⟨a, xs, rfl, .inr ⟨SqT.of ha, fun p hp => k1.fin' (ext_new hp) (s1.new hp) (.p (new_tup s1 hp (by rw [List.length_reverse]; exact hz) ra.rev))⟩⟩
  · cases eq1
/-! ### 'x' * n -/
def repsS (n : Nat) (x : Str) : Str := ⟨(List.replicate n x.cps).foldl (· ++ ·) #[]⟩
theorem foldl_all (p : Nat → Bool) (x : Array Nat) (hx : x.all p = true) : ∀ (n : Nat) (acc : Array Nat), acc.all p = true → ((List.replicate n x).foldl (· ++ ·) acc).all p = true
  | 0, acc, h => h
  | n + 1, acc, h => by
    rw [List.replicate_succ, List.foldl_cons]
    exact foldl_all p x hx n _ (by rw [Array.all_append, h, hx]; rfl)
theorem repsS_ok {n : Nat} {x : Str} (h : PySem.PyData.strOk x = true) : PySem.PyData.strOk (repsS n x) = true := by
  unfold PySem.PyData.strOk repsS at *
  exact foldl_all _ _ h n #[] (by simp)
theorem foldl_size (x : Array Nat) : ∀ (n : Nat) (acc : Array Nat), ((List.replicate n x).foldl (· ++ ·) acc).size = acc.size + n * x.size
  | 0, acc => by simp
  | n + 1, acc => by
    rw [List.replicate_succ, List.foldl_cons, foldl_size x n, Array.size_append, Nat.add_mul]
    omega
def rRepS : R2 := fun x y H Q => ∃ a j, x = .str a ∧ y = .int j ∧ 2 ≤ j ∧ j ≤ 4096 ∧ 1 ≤ a.length ∧ a.length ≤ 4096 ∧ Q (.str (repsS j.toNat a)) H
theorem op_repS : OpR X (binaryOp .Mult) rRepS := by
  intro pins s σ H x y v u Q I rx ry h
  obtain ⟨a, j, rfl, rfl, h1, h2, h3, h4, q⟩ := h
  obtain ⟨ta, rfl⟩ := rx
  obtain ⟨tj, rfl⟩ := ry
  have big : a.length * j.toNat ≤ 16777216 := Nat.le_trans (Nat.mul_le_mul h4 (show j.toNat ≤ 4096 by omega)) (by decide)
  refine P.mul_str (by rw [decide_eq_false (by omega), decide_eq_false (by omega)]; rfl) (fun _ _ => ?_) (fun _ _ => ?_) ?_
  · have : (a.length : Int) ≤ (2 ^ 63 - 1) / j := by
      rw [Int.le_ediv_iff_mul_le (by omega)]
      have e : (a.length : Int) * j = ((a.length * j.toNat : Nat) : Int) := by
        rw [Int.natCast_mul, Int.toNat_of_nonneg (by omega)]
      rw [e]
      omega
    omega
  · unfold Builtin.Str.tooLong
    rw [sizeLine_eq]
    exact decide_eq_false (by omega)
  · rw [if_neg (by omega), if_neg]
    · refine ⟨?_, .str _, H, I.tok _, ⟨_, rfl⟩, q⟩
      show (repsS j.toNat a).cps.size ≤ sizeLine
      unfold repsS
      rw [foldl_size, sizeLine_eq]
      have : a.cps.size = a.length := rfl
      rw [this, Nat.mul_comm]
      simpa using big
    · rw [Bool.or_eq_true]
      rintro (z | z)
      · have := eq_of_beq z; omega
      · have := eq_of_beq z; omega
def repS : P → P → Option P
  | .str x, .int j => if 2 ≤ j ∧ j ≤ 4096 ∧ 1 ≤ x.length ∧ x.length ≤ 4096 then some (.str (repsS j.toNat x)) else none
  | _, _ => none
theorem ok_repS : OpOk X rRepS repS := by
  intro B Z m H S v w x y z Q s rv rw_ e k
  cases x <;> cases y <;> simp only [repS] at e <;> first | (cases e; done) | skip
  split at e
  · rename_i hl
    cases e
    exact ⟨_, _, rv.strI, rw_.intI, hl.1, hl.2.1, hl.2.2.1, hl.2.2.2, k H _ Ext.refl s (.str _ (repsS_ok rv.strO))⟩
  · cases e
/-! ### list of a text -/
def signsS (x : Str) : List Str := x.cps.toList.map fun c => ⟨#[c]⟩
def rListS : List V → Hp → VK → Prop := fun xs H Q => ∃ a, xs = [V.str a] ∧ a.cps.size ≤ 16777216 ∧ ∀ p, H p = none → Q (.ref p) (upd H p (.lst ((signsS a).map V.str)))
theorem vals_signs {x : Str} {acc : Array Value} (h : ItemsOf (SignAt x) acc x.cps.size) : Vals ((signsS x).map V.str) acc.toList := by
  obtain ⟨h1, h2⟩ := h
  have e : (signsS x).map V.str = x.cps.toList.map fun c => V.str ⟨#[c]⟩ := by
    unfold signsS
    rw [List.map_map]
    rfl
  rw [e]
  have go : ∀ (l : List Nat) (us : List Value) (k : Nat), l.length = us.length → (∀ j v, us[j]? = some v → SignAt x (k + j) v) → (∀ j, l[j]? = x.cps[k + j]? ∨ l.length ≤ j) → Vals (l.map fun c => V.str ⟨#[c]⟩) us := by
    intro l
    induction l with
    | nil =>
      intro us k hl _ _
      cases us with
      | nil => exact .nil
      | cons _ _ => cases hl
    | cons c r ih =>
      intro us k hl hs hx
      cases us with
      | nil => cases hl
      | cons u us =>
        obtain ⟨c', t, e1, e2⟩ := hs 0 u rfl
        have e3 : some c = x.cps[k + 0]? := by
          rcases hx 0 with z | z
          · simpa using z
          · simp at z
        rw [Nat.add_zero] at e1 e3
        rw [e1] at e3
        cases e3
        refine .cons ⟨t, e2⟩ (ih us (k + 1) (by simpa using hl) (fun j v hj => ?_) fun j => ?_)
        · have := hs (j + 1) v (by simpa using hj)
          rwa [show k + 1 + j = k + (j + 1) by omega]
        · rcases hx (j + 1) with z | z
          · left
            rw [show k + 1 + j = k + (j + 1) by omega]
            simpa using z
          · right
            simpa using z
  refine go _ _ 0 (by simp [h1]) (fun j v hj => by rw [Nat.zero_add]; exact h2 j v (by simpa using hj)) fun j => .inl (by rw [Nat.zero_add]; simp)
theorem call_listS (hc : X.calm = true) : CallR X (.type "list") rListS := by
  intro pins s σ H vs us Q I r h
  obtain ⟨a, rfl, hz, q⟩ := h
  obtain ⟨u, eu, rx⟩ := vals1 r
  subst eu
  obtain ⟨t, rfl⟩ := rx
  refine call_list_str (I.ok.hd hc) a t (fun h' tk acc' c' k e hi => ?_) (by rw [sizeLine_eq]; exact hz)
  exact ⟨.ref s.heap.objs.size, _, I.laid (t' := tk) (o := .lst ((signsS a).map V.str)) k (Nat.le_refl _) ⟨by unfold signsS; simp; rw [sizeLine_eq]; exact hz, _, c', vals_signs hi, e⟩, rfl, q _ (I.hok.fresh (Nat.le_refl _))⟩
def listS : List P → Option (List P)
  | [.str x] => if x.cps.size ≤ 16777216 then some ((signsS x).map P.str) else none
  | _ => none
theorem ok_listS : CallNew X rListS listS := by
  intro B Z m H S vs xs l Q s rl e k
  unfold listS at e
  split at e
  · split at e
    · rename_i x hz
      cases e
      cases rl with
      | cons r t =>
        cases t
        have ok := r.strO
        refine ⟨x, by rw [r.strI], hz, fun p hp => k p _ hp (by unfold signsS; simp; rw [sizeLine_eq]; exact hz) (RpL.ofStrs _ fun y hy => ?_)⟩
        unfold signsS at hy
        obtain ⟨c, hc, rfl⟩ := List.mem_map.mp hy
        unfold PySem.PyData.strOk at ok ⊢
        have := Array.all_eq_true_iff_forall_mem.mp ok c (by simpa using hc)
        simpa using this
    · cases e
  · cases e
theorem CallNew.or {r r' : List V → Hp → VK → Prop} {fo fo' : List P → Option (List P)} (h : CallNew X r fo) (h' : CallNew X r' fo') : CallNew X (fun x H Q => r x H Q ∨ r' x H Q) (fun x => (fo x).or (fo' x)) := by
  intro B Z m H S vs xs z Q s rl e k
  replace e : (fo xs).or (fo' xs) = some z := e
  cases hf : fo xs with
  | some z' =>
    rw [hf] at e
    cases e
    exact .inl (h B Z m H S vs xs _ Q s rl hf k)
  | none =>
    rw [hf] at e
    exact .inr (h' B Z m H S vs xs z Q s rl e k)
/-! ### dict of a list of pairs -/
def pairP : P → Option (Key × P)
  | .tup [k, v] => (keyP k).map fun kk => (kk, v)
  | _ => none
def pairsP : List P → Option (List (Key × P))
  | [] => some []
  | x :: r => match pairP x, pairsP r with
    | some a, some l => some (a :: l)
    | _, _ => none
def mergeP (l more : List (Key × P)) : List (Key × P) := more.foldl (fun acc kv => putP acc kv.1 kv.2) l
def dictPy : List P → Option P
  | [.lst l] => (pairsP l).map fun kvs => .dK (mergeP [] kvs)
  | [.lsf l] => (pairsP l).map fun kvs => .dK (mergeP [] kvs)
  | _ => none
theorem RpK.merge {K : PySem.W.Frag} {mg : Mg} {Z : Addr → Prop} {H : Hp} : ∀ {more : List (Key × V)} {moreP : List (Key × P)} {l : List (Key × V)} {lP : List (Key × P)}, RpK K mg Z H more moreP → RpK K mg Z H l lP → RpK K mg Z H (mergeK l more) (mergeP lP moreP)
  | _, _, _, _, .nil, h => h
  | _, _, _, _, .cons (k := k) (v := v) (p := p) (vs := vs) (ps := ps) r t, h => by
    show RpK K mg Z H (mergeK (putK _ k v) vs) (mergeP (putP _ k p) ps)
    exact RpK.merge t (RpK.put r k h).1
theorem pairs_at {K : PySem.W.Frag} {mg : Mg} {Z : Addr → Prop} {H : Hp} : ∀ {ys : List V} {l : List P} {kvs : List (Key × P)}, RpL K mg Z H ys l → pairsP l = some kvs → ∃ (ps : List Addr) (vs : List (Key × V)), ys = ps.map V.ref ∧ Paired (fun p kv => SqT K H p [kV kv.1, kv.2]) ps vs ∧ RpK K mg Z H vs kvs
  | _, _, _, .nil, h => by
    cases h
    exact ⟨[], [], rfl, .nil, .nil⟩
  | _, _, _, .cons (p := p) (ps := r) r1 t, h => by
    simp only [pairsP] at h
    cases ha : pairP p with
    | none => simp [ha] at h
    | some a =>
      cases hb : pairsP r with
      | none => simp [ha, hb] at h
      | some b =>
        simp only [ha, hb, Option.some.injEq] at h
        subst h
        obtain ⟨ps, vs, e1, e2, e3⟩ := pairs_at t hb
        unfold pairP at ha
        split at ha
        · rename_i k v
          cases hk : keyP k with
          | none => simp [hk] at ha
          | some kk =>
            simp only [hk, Option.map_some, Option.some.injEq] at ha
            subst ha
            cases r1 with
            | tup h1 hz hl r2 =>
              cases r2 with
              | cons q1 q2 =>
                cases q2 with
                | cons q3 q4 =>
                  cases q4
                  have ek := RV.key (.cold q1) hk
                  subst ek
                  exact ⟨_ :: ps, (kk, _) :: vs, by rw [e1]; rfl, .cons (SqT.of h1) e2, .cons q3 e3⟩
        · cases ha
theorem ok_dict : CallOk X (fun xs H Q => ∃ (a : Addr) (ps : List Addr) (kvs : List (Key × V)), xs = [.ref a] ∧ SqL X.K H a (ps.map V.ref) ∧ Paired (fun p kv => SqT X.K H p [kV kv.1, kv.2]) ps kvs ∧ ∀ p, H p = none → Q (.ref p) (upd H p (.dK (mergeK [] kvs)))) dictPy := by
  intro B Z m H S vs xs z Q s rl e k
  unfold dictPy at e
  have fin : ∀ {l : List P} {ys : List V} {a : Addr} {kvs : List (Key × P)}, SqL X.K H a ys → RpL X.K X.gl Z H ys l → pairsP l = some kvs → P.dK (mergeP [] kvs) = z → ∃ (a' : Addr) (ps : List Addr) (kvs : List (Key × V)), [V.ref a] = [.ref a'] ∧ SqL X.K H a' (ps.map V.ref) ∧ Paired (fun p kv => SqT X.K H p [kV kv.1, kv.2]) ps kvs ∧ ∀ p, H p = none → Q (.ref p) (upd H p (.dK (mergeK [] kvs))) := by
    intro l ys a kvs ha ra hp hz
    subst hz
    obtain ⟨ps, ws, rfl, e2, e3⟩ := pairs_at ra hp
    refine ⟨a, ps, ws, rfl, ha, e2, fun p hp => ?_⟩
    have ex := ext_new (B := B) (Z := Z) (m := m) (o := .dK (mergeK [] ws)) hp
    exact k _ _ ex (s.new hp nt_dK) (.dK (.inl upd_same) (s.cold_new hp) ((RpK.merge e3 .nil).move ex.cold))
  split at e
  · rename_i l
    cases hp : pairsP l with
    | none => simp [hp] at e
    | some kvs =>
      simp only [hp, Option.map_some, Option.some.injEq] at e
      cases rl with
      | cons r t =>
        cases t
        obtain ⟨a, ys, rfl, ha, ra⟩ := r.lstI
        exact fin (SqL.of ha) ra hp e
  · rename_i l
    cases hp : pairsP l with
    | none => simp [hp] at e
    | some kvs =>
      simp only [hp, Option.map_some, Option.some.injEq] at e
      cases rl with
      | cons r t =>
        cases t
        obtain ⟨a, ys, rfl, ha, ra⟩ := r.lsfI
        exact fin ha ra hp e
  · cases e
end
end Wr

set_option maxHeartbeats 4000000
/-! B1: the small language, what it is worth, and how a text of the program is held against it. -/
namespace Wr
open PySem PySem.Spec PyProof.Rows L2

inductive BO where
  | add | sub | mul | mod | fdiv | pow | shl | shr | band | bor
  deriving DecidableEq
inductive CO where
  | eq | ne | lt | le | gt | ge | is | isnot | in_ | notin
  deriving DecidableEq
inductive BF where
  | len | all | any | sum | tuple | int | set | str | dict
  deriving DecidableEq
inductive BN where
  | list | sorted
  deriving DecidableEq
inductive Ty where
  | int | bool | str | list | tuple | dict
  deriving DecidableEq
inductive Tg where
  | nm (i : Nat) | tup (is : List Nat)
  deriving DecidableEq
mutual
inductive E where
  | var (i : Nat) | int (i : Int) | str (x : Str) | bl (b : Bool) | non | glb (k : Nat)
  | bin (o : BO) (a b : E) | cmp (o : CO) (a b : E) | chn (o p : CO) (a b c : E)
  | and (es : Es) | or (es : Es) | not (a : E) | ite (t : T) (a b : E)
  | tup (es : Es) | lst (own : Bool) (es : Es)
  | ix (a b : E) | sl (own : Bool) (a : E) (lo hi : O)
  | bf (f : BF) (es : Es) | bn (own : Bool) (f : BN) (es : Es)
  | isi (t : Ty) (a : E) | isi2 (t u : Ty) (a : E)
  | call (j : Nat) (es : Es) | call0 (j : Nat) | callv (i : Nat) (es : Es) | told (j : Nat) (e : E) | rev (own : Bool) (a : E)
  | lc (own : Bool) (nms : List (Str × Nat)) (g : Tg) (it : I) (t : T) (e : E)
  | lcn (own : Bool) (nms : List (Str × Nat)) (g : Tg) (it : I) (t : T) (cs : Cs) (e : E)
  | neg (a : E) | low (a : E) | dc (nms : List (Str × Nat)) (g : Tg) (it : I) (t : T) (k v : E)
  | frz (a : E) | app (o e : E) | pop (o : E) | ext (o e : E)
inductive Es where
  | nil | cons (e : E) (r : Es) | star (e : E) (r : Es)
inductive O where
  | no | yes (e : E)
inductive Cs where
  | nil | cons (g : Tg) (it : I) (t : T) (r : Cs)
inductive T where
  | yes | tru (a : E) | cmp (o : CO) (a b : E) | chn (o p : CO) (a b c : E) | and (ts : Ts) | or (ts : Ts) | not (t : T)
inductive Ts where
  | nil | cons (t : T) (r : Ts)
inductive I where
  | seq (a : E) | rng1 (a : E) | rng2 (a b : E) | zip (a b : E) | enum (a : E)
end
def Es.plain : Es → Bool
  | .nil => true
  | .cons _ r => r.plain
  | .star _ _ => false
mutual
inductive S where
  | expr (e : E) | asg (g : Tg) (e : E) | par (i j : Nat) (a b : E) | seti (o i v : E)
  | rais0 (j : Nat) | rais1 (j : Nat) (e : E) | tryR (b : Ss) (hs : List (Str × Option Nat × HX))
  | ifs (t : T) (a b : Ss) | fors (g : Tg) (it : I) (b : Ss) | whl (t : T) (b : Ss)
  | ret (e : E) | retN | pass | brk | cont
inductive Ss where
  | nil | cons (s : S) (r : Ss)
end

/-! ### what they are worth -/
def addP (x y : P) : Option P := (intOp (fun i j => some (i + j)) x y).or ((catStr x y).or ((catLst x y).or (catTup x y)))
def mulI (i j : Int) : Option Int := if (-(2 ^ 64) < i ∧ i < 2 ^ 64) ∨ (-(2 ^ 64) < j ∧ j < 2 ^ 64) then some (i * j) else none
def mulP (x y : P) : Option P := ((intOp mulI x y).or (repLst x y)).or (repS x y)
def modI (i j : Int) : Option Int := if 0 < j then some (i % j) else none
def divI (i j : Int) : Option Int := if 0 < j ∧ j < 1073741824 then some (i / j) else none
def powI (i j : Int) : Option Int := if 0 ≤ j ∧ j ≤ 1000000 ∧ i.natAbs < 2 ^ 64 then some (i ^ j.toNat) else none
def shlI (i j : Int) : Option Int := if 0 ≤ j ∧ j ≤ 1000000 ∧ i.natAbs < 2 ^ 64 then some (i * 2 ^ j.toNat) else none
def shrI (i j : Int) : Option Int := if 0 ≤ j then some (i / 2 ^ j.toNat) else none
def evBO : BO → P → P → Option P
  | .add => addP
  | .sub => intOp fun i j => some (i - j)
  | .mul => mulP
  | .mod => intOp modI
  | .fdiv => intOp divI
  | .pow => intOp powI
  | .shl => intOp shlI
  | .shr => intOp shrI
  | .band => intOp fun i j => some (Builtin.bitAnd i j)
  | .bor => intOp fun i j => some (Builtin.bitOr i j)
def ltP (x y : P) : Option P := (cmpI (fun i j => decide (i < j)) x y).or (ltStr x y)
def evCO : CO → P → P → Option P
  | .eq => eqF
  | .ne => neF
  | .lt => ltP
  | .le => cmpI fun i j => decide (i ≤ j)
  | .gt => cmpI fun i j => decide (j < i)
  | .ge => cmpI fun i j => decide (j ≤ i)
  | .is => isF false
  | .isnot => isF true
  | .in_ => fun x y => (inF false x y).or (inSet false x y)
  | .notin => fun x y => (inF true x y).or (inSet true x y)
def evBF : BF → List P → Option P
  | .len => lenP
  | .all => allPy false
  | .any => allPy true
  | .sum => sumPy
  | .tuple => tupPy
  | .int => intPy
  | .set => setPy
  | .str => strPy
  | .dict => dictPy
def evBN : BN → List P → Option (List P)
  | .list => fun xs => (listPy xs).or (listS xs)
  | .sorted => sortedPy
def Ty.nm : Ty → String
  | .int => "int" | .bool => "bool" | .str => "str" | .list => "list" | .tuple => "tuple" | .dict => "dict"
def evTg : Tg → FG
  | .nm i => gNm i
  | .tup is => gTupN is
def Tg.slots : Tg → List Nat
  | .nm i => [i]
  | .tup is => is
/-- what stands at the module's top: the defs by name and number of parameters, the constants -/
structure Gc where
  fns : List (Str × Nat)
  vals : List (Str × P)
  /-- own exception classes, the field of each -/
  excs : List (Str × Option Str) := []
  /-- which class a clause takes -/
  exm : List ((Str × Str) × Bool) := []
  /-- the defs that call what they are handed: their number of slots, their clauses -/
  tolds : List (Str × Nat × List (Str × Option Nat × HX)) := []
def slotOk (io : Option Nat) (ρ : Vars) : Bool := match io with
  | some i => decide (i < ρ.length)
  | none => true
def runH (ex : List ((Str × Str) × Bool)) (c : Str) (fs : List (Str × P)) : List (Str × Option Nat × HX) → FS
  | [] => fun ρ S => some (.exc c fs ρ, S)
  | (x, io, hx) :: r => fun ρ S => match ex.lookup (c, x) with
    | some true => if slotOk io ρ = true then (evH (c == x) fs hx).map fun p => (.go (.ret (.p p)) ρ, S) else none
    | some false => runH ex c fs r ρ S
    | none => none
/-- what a def with these clauses makes of an error of the lambda that it was handed -/
def hfOf (ex : List ((Str × Str) × Bool)) (n : Nat) (hs : List (Str × Option Nat × HX)) : HF := fun c fs S => match runH ex c fs hs (List.replicate n none) S with
  | some (.go (.ret w) _, S') => some (w, S')
  | _ => none
def Es.len : Es → Nat
  | .nil => 0
  | .cons _ r => r.len + 1
  | .star _ r => r.len + 1
/-- a call without arguments that does not raise -/
def fCall0 (f : Fm) : F Wv := fun _ S => match f [] S with
  | some (.ok p, S') => some (.ok (.p p), S')
  | _ => none
section
variable (G : Gc) (Γ : List Fm)
/-- the def of that name with n parameters -/
def fnBy (n : Nat) (y : Str) : Option Fm := (G.fns.findIdx? fun p => decide (p.1 = y) && decide (p.2 = n)).bind (Γ[·]?)
def call0F (j : Nat) : F Wv := match Γ[j]? with
  | some f => fCall0 f
  | none => failF
def callF (j : Nat) (fs : F (List Wv)) : F Wv := match Γ[j]? with
  | some f => fCall f fs
  | none => failF
def vOf (k : Nat) : F Wv := match G.vals[k]? with
  | some (_, p) => fC p
  | none => failF
mutual
def evE : E → F Wv
  | .var i => fVar i
  | .int i => fC (.int i)
  | .str x => fC (.str x)
  | .bl b => fC (.bl b)
  | .non => fC .non
  | .glb k => vOf G k
  | .bin o a b => f2 (evBO o) (evE a) (evE b)
  | .cmp o a b => f2 (evCO o) (evE a) (evE b)
  | .chn o p a b c => fChain (evCO o) (evCO p) (evE a) (evE b) (evE c)
  | .and es => evAnd es
  | .or es => evOr es
  | .not a => fNot (evE a)
  | .ite t a b => fIf (evT t) (evE a) (evE b)
  | .tup es => fTup (evEs es)
  | .lst own es => fLst own (evEs es)
  | .ix a b => f2 ixP (evE a) (evE b)
  | .sl own a lo hi => fSl own (evE a) (evO lo) (evO hi)
  | .bf f es => fB (evBF f) (evEs es)
  | .bn own f es => fBn own (evBN f) (evEs es)
  | .isi t a => fOne (isiP t.nm) (evE a)
  | .isi2 t u a => fOne (isi2P t.nm u.nm) (evE a)
  | .call j es => callF Γ j (evEs es)
  | .call0 j => call0F Γ j
  | .callv i es => fCallV (fnBy G Γ es.len) i (evEs es)
  | .told j e => (match G.tolds[j]? with
    | some (_, n, hs) => fTold (hfOf G.exm n hs) (evE e)
    | none => failF)
  | .rev own a => fRev own (evE a)
  | .lc own nms g it t e => fLc own (nms.map (·.2)) (evI it) (evTg g) (evT t) (evE e)
  | .lcn own nms g it t cs e => fLcN own (nms.map (·.2)) ⟨evI it, evTg g, g.slots, evT t⟩ (evCs cs) (evE e)
  | .neg a => fOne negP (evE a)
  | .low a => fOne lowP (evE a)
  | .dc nms g it t k v => fDc (nms.map (·.2)) (evI it) (evTg g) (evT t) (evE k) (evE v)
  | .frz a => fFrz (evE a)
  | .app o e => fApp (evE o) (evE e)
  | .pop o => fPop (evE o)
  | .ext o e => fExt (evE o) (evE e)
def evCs : Cs → List Cla
  | .nil => []
  | .cons g it t r => ⟨evI it, evTg g, g.slots, evT t⟩ :: evCs r
def evO : O → F (Option Int)
  | .no => retF none
  | .yes e => fPart (evE e)
def evEs : Es → F (List Wv)
  | .nil => fNil
  | .cons e r => fCons (evE e) (evEs r)
  | .star e r => fStar (evE e) (evEs r)
def evAnd : Es → F Wv
  | .nil => failF
  | .star _ _ => failF
  | .cons e .nil => evE e
  | .cons e (.star _ _) => failF
  | .cons e (.cons e2 r) => fAnd (evE e) (evAnd (.cons e2 r))
def evOr : Es → F Wv
  | .nil => failF
  | .star _ _ => failF
  | .cons e .nil => evE e
  | .cons e (.star _ _) => failF
  | .cons e (.cons e2 r) => fOr (evE e) (evOr (.cons e2 r))
def evT : T → F Bool
  | .yes => retF true
  | .tru a => fTru (evE a)
  | .cmp o a b => asB (f2 (evCO o) (evE a) (evE b))
  | .chn o p a b c => asB (fChain (evCO o) (evCO p) (evE a) (evE b) (evE c))
  | .and ts => evAndT ts
  | .or ts => evOrT ts
  | .not t => fNotT (evT t)
def evAndT : Ts → F Bool
  | .nil => failF
  | .cons e .nil => evT e
  | .cons e (.cons e2 r) => fAndT (evT e) (evAndT (.cons e2 r))
def evOrT : Ts → F Bool
  | .nil => failF
  | .cons e .nil => evT e
  | .cons e (.cons e2 r) => fOrT (evT e) (evOrT (.cons e2 r))
def evI : I → F (List P)
  | .seq a => fItems (evE a)
  | .rng1 a => fRng1 (fCons (evE a) fNil)
  | .rng2 a b => fRng2 (fCons (evE a) (fCons (evE b) fNil))
  | .zip a b => fZip (fCons (evE a) (fCons (evE b) fNil))
  | .enum a => fEnum (fCons (evE a) fNil)
end
def fTry (ex : List ((Str × Str) × Bool)) (fb : FS) (hs : List (Str × Option Nat × HX)) : FS := fun ρ S => match fb ρ S with
  | some (.exc c fs ρ', S') => runH ex c fs hs ρ' S'
  | r => r
mutual
/-- n: the most turns of a while -/
def evS (n : Nat) : S → FS
  | .expr e => dropS (evE G Γ e)
  | .asg g e => fAsg (evE G Γ e) (evTg g)
  | .par i j a b => fPar i j (fCons (evE G Γ a) (fCons (evE G Γ b) fNil))
  | .seti o i v => fSetI (evE G Γ v) (evE G Γ o) (evE G Γ i)
  | .rais0 j => match G.excs[j]? with
    | some (c, none) => fRaise0 c
    | _ => fun _ _ => none
  | .rais1 j e => match G.excs[j]? with
    | some (c, some f) => fRaise1 c f (evE G Γ e)
    | _ => fun _ _ => none
  | .tryR b hs => fTry G.exm (evSs n b) hs
  | .ifs t a b => fIfS (evT G Γ t) (evSs n a) (evSs n b)
  | .fors g it b => fFor (evI G Γ it) (evTg g) (evSs n b)
  | .whl t b => whileS (evT G Γ t) (evSs n b) n
  | .ret e => fRet (evE G Γ e)
  | .retN => fRetN
  | .pass => skipS
  | .brk => fun ρ S => some (.go .brk ρ, S)
  | .cont => fun ρ S => some (.go .cont ρ, S)
def evSs (n : Nat) : Ss → FS
  | .nil => skipS
  | .cons s r => seqS (evS n s) (evSs n r)
end
end
end Wr

set_option maxHeartbeats 4000000
/-! B2: a text held against the small language; that it is worth what it says. -/
namespace Wr
open PySem PySem.Spec PyProof.Rows L2

structure Cc where
  N : List Str
  names : List (Str × NameKind)
  tg : List (Str × NameKind)
  /-- lambdas may stand here -/
  lam : Bool := false
def relN (outer names : List (Str × NameKind)) : List (Str × NameKind) :=
  names.map fun (n, k) => if (k == .free && outer.lookup n == some .cell) then (n, .cell) else (n, k)
def Cc.blk (c : Cc) (scope : Scope) : Cc := { N := c.N, names := relN c.names scope.names, tg := scope.names, lam := c.lam }
/-- in a lambda -/
def Cc.inLam (c : Cc) (scope : Scope) : Cc := { N := c.N, names := scope.names, tg := [], lam := false }
def scOf (ns : List (Str × NameKind)) : Scope := { kind := .function, names := ns, isGenerator := false, isCoroutine := false }
def noPar : Arguments → Bool
  | ⟨[], [], none, [], [], none, []⟩ => true
  | _ => false
def okN (x : Str) : Bool := !(x == ("__debug__" : Str)) && (!(x == ("__classdict__" : Str)) && !decide (x = ("__name__" : Str)))
def visB (c : Cc) (x : Str) : Bool := match c.names.lookup x with
  | some .local => true | some .cell => true | some .free => true | _ => false
def locB (c : Cc) (x : Str) : Bool := match c.tg.lookup x with
  | some .local => true | some .cell => true | _ => false
def glB (c : Cc) (x : Str) : Bool := decide (c.names.lookup x = some .globalImplicit)
def notStar : Expr → Bool | .Starred _ _ => false | _ => true
def notSet : Expr → Bool | .Set _ _ _ => false | _ => true
def notComp : Expr → Bool | .ListComp _ _ _ _ => false | .SetComp _ _ _ _ => false | .DictComp _ _ _ _ _ => false | _ => true
def notSlice : Expr → Bool | .Slice _ _ _ _ => false | _ => true
def notTup : Expr → Bool | .Tuple _ _ _ => false | .List _ _ => false | _ => true
def notCall : Expr → Bool | .Call _ _ _ _ => false | _ => true
def notCallB : Expr → Bool | .Call (.Name _ _) [] [] _ => false | _ => true
def plainT : Expr → Bool
  | .UnaryOp .Not _ _ => false | .BoolOp _ _ _ => false | .IfExp _ _ _ _ => false | .Compare _ _ _ _ => false | _ => true
def bOp : BO → Operator
  | .add => .Add | .sub => .Sub | .mul => .Mult | .mod => .Mod | .fdiv => .FloorDiv | .pow => .Pow | .shl => .LShift | .shr => .RShift | .band => .BitAnd | .bor => .BitOr
def cOp : CO → CmpOp
  | .eq => .Eq | .ne => .NotEq | .lt => .Lt | .le => .LtE | .gt => .Gt | .ge => .GtE | .is => .Is | .isnot => .IsNot | .in_ => .In | .notin => .NotIn
def bfS : BF → Str
  | .len => "len" | .all => "all" | .any => "any" | .sum => "sum" | .tuple => "tuple" | .int => "int" | .set => "set" | .str => "str" | .dict => "dict"
def bnS : BN → Str
  | .list => "list" | .sorted => "sorted"
def tyS : Ty → Str
  | .int => "int" | .bool => "bool" | .str => "str" | .list => "list" | .tuple => "tuple" | .dict => "dict"
def isYes : T → Bool | .yes => true | _ => false
def ckNms (c : Cc) : List Nat → List Expr → Bool
  | [], [] => true
  | i :: is, .Name x _ :: es => decide (c.N[i]? = some x) && (locB c x && ckNms c is es)
  | _, _ => false
def ckTg (c : Cc) : Tg → Expr → Bool
  | .nm i, .Name x _ => decide (c.N[i]? = some x) && locB c x
  | .tup is, .Tuple es _ _ => ckNms c is es
  | _, _ => false
section
variable (G : Gc)
mutual
def ckE : Cc → E → Expr → Bool
  | c, .var i, .Name x _ => decide (c.N[i]? = some x) && (visB c x && okN x)
  | c, .int i, .Constant (.int j) _ _ => decide (i = j)
  | c, .str x, .Constant (.str y) _ _ => decide (x = y) && PySem.PyData.strOk x
  | c, .bl b, .Constant (.bool d) _ _ => decide (b = d)
  | c, .non, .Constant .none _ _ => true
  | c, .glb k, .Name x _ => (match G.vals[k]? with | some (y, _) => decide (y = x) | none => false) && (glB c x && okN x)
  | c, .bin o a b, .BinOp x op y _ => decide (op = bOp o) && (ckE c a x && ckE c b y)
  | c, .cmp o a b, .Compare x [op] [y] _ => decide (op = cOp o) && (ckE c a x && (ckE c b y && notSet y))
  | c, .chn o p a b d, .Compare x [op, op'] [y, z] _ => decide (op = cOp o) && (decide (op' = cOp p) && (ckE c a x && (ckE c b y && (ckE c d z && notSet z))))
  | c, .and es, .BoolOp .And xs _ => es.plain && ckEs c es xs
  | c, .or es, .BoolOp .Or xs _ => es.plain && ckEs c es xs
  | c, .not a, .UnaryOp .Not x _ => ckE c a x
  | c, .ite t a b, .IfExp x y z _ => ckT c t x && (ckE c a y && ckE c b z)
  | c, .tup es, .Tuple xs _ _ => ckEs c es xs
  | c, .lst _ es, .List xs _ => ckEs c es xs
  | c, .ix a b, .Subscript x y _ => ckE c a x && (ckE c b y && notSlice y)
  | c, .sl _ a lo hi, .Subscript x (.Slice l h none _) _ => ckE c a x && (ckO c lo l && ckO c hi h)
  | c, .bf f es, .Call (.Name x _) (y :: ys) [] _ => decide (x = bfS f) && (glB c x && (es.plain && ckEs c es (y :: ys)))
  | c, .bn _ f es, .Call (.Name x _) (y :: ys) [] _ => decide (x = bnS f) && (glB c x && (es.plain && ckEs c es (y :: ys)))
  | c, .isi t a, .Call (.Name x _) [y, .Name z _] [] _ => decide (x = ("isinstance" : Str)) && (decide (z = tyS t) && (glB c x && (glB c z && (notStar y && ckE c a y))))
  | c, .isi2 t u a, .Call (.Name x _) [y, .Tuple [.Name z _, .Name z2 _] _ _] [] _ => decide (x = ("isinstance" : Str)) && (decide (z = tyS t) && (decide (z2 = tyS u) && (glB c x && (glB c z && (glB c z2 && (notStar y && ckE c a y))))))
  | c, .call j es, .Call (.Name x _) (y :: ys) [] _ => (match G.fns[j]? with | some (f, n) => decide (f = x) && decide (n = (y :: ys).length) | none => false) && (glB c x && (okN x && (es.plain && ckEs c es (y :: ys))))
  | c, .call0 j, .Call (.Name x _) [] [] _ => (match G.fns[j]? with | some (f, n) => decide (f = x) && decide (n = 0) | none => false) && (glB c x && okN x)
  | c, .callv i es, .Call (.Name x _) (y :: ys) [] _ => decide (c.N[i]? = some x) && (visB c x && (okN x && (es.plain && ckEs c es (y :: ys))))
  | c, .told j e, .Call (.Name x _) [.Lambda params body scope _] [] _ => c.lam && ((match G.tolds[j]? with | some (y, _) => decide (y = x) | none => false) && (glB c x && (okN x && (noPar params && (LamX.lamSB (scOf c.names) scope && ckE (c.inLam scope) e body)))))
  | c, .rev _ a, .Subscript x (.Slice none none (some (.UnaryOp .USub (.Constant (.int k) _ _) _)) _) _ => decide (k = 1) && ckE c a x
  | c, .lc _ nms g it t e, .ListComp elt [⟨tg, iter, ifs, 0⟩] scope _ =>
    blkC c.N { kind := .function, names := c.names, isGenerator := false, isCoroutine := false } scope nms && (ckI c tg it iter && (notSet iter && (ckTg (c.blk scope) g tg && (g.slots.all (fun j => decide (j ∈ nms.map (·.2))) &&
      ((match ifs with | [] => isYes t | [x] => ckT (c.blk scope) t x | _ => false) && ckE (c.blk scope) e elt)))))
  | c, .neg a, .UnaryOp .USub x _ => ckE c a x
  | c, .lcn own nms g it t cs e, .ListComp elt (⟨tg, iter, ifs, 0⟩ :: rest) scope _ =>
    blkC c.N { kind := .function, names := c.names, isGenerator := false, isCoroutine := false } scope nms && (ckI c tg it iter && (notSet iter && (ckTg (c.blk scope) g tg && (g.slots.all (fun j => decide (j ∈ nms.map (·.2))) &&
      ((match ifs with | [] => isYes t | [x] => ckT (c.blk scope) t x | _ => false) && (ckCs (c.blk scope) (nms.map (·.2)) cs rest && ckE (c.blk scope) e elt))))))
  | c, .low a, .Call (.Attribute x m ap) [] [] cp => decide (m = ("lower" : Str)) && (decide (ap.endLine = cp.line) && (notCallB x && ckE c a x))
  | c, .dc nms g it t k v, .DictComp kx vx [⟨tg, iter, ifs, 0⟩] scope _ =>
    blkC c.N { kind := .function, names := c.names, isGenerator := false, isCoroutine := false } scope nms && (ckI c tg it iter && (notSet iter && (ckTg (c.blk scope) g tg && (g.slots.all (fun j => decide (j ∈ nms.map (·.2))) &&
      ((match ifs with | [] => isYes t | [x] => ckT (c.blk scope) t x | _ => false) && (ckE (c.blk scope) k kx && ckE (c.blk scope) v vx))))))
  | c, .frz a, x => ckE c a x
  | c, .app o e, .Call (.Attribute x m ap) [y] [] cp => decide (m = ("append" : Str)) && (decide (ap.endLine = cp.line) && (notCall x && (notStar y && (ckE c o x && ckE c e y))))
  | c, .pop o, .Call (.Attribute x m ap) [] [] cp => decide (m = ("pop" : Str)) && (decide (ap.endLine = cp.line) && (notCall x && ckE c o x))
  | c, .ext o e, .Call (.Attribute x m ap) [y] [] cp => decide (m = ("extend" : Str)) && (decide (ap.endLine = cp.line) && (notCall x && (notStar y && (ckE c o x && ckE c e y))))
  | _, _, _ => false
def ckCs : Cc → List Nat → Cs → List Comprehension → Bool
  | _, _, .nil, [] => true
  | c, vs, .cons g it t r, ⟨tg, iter, ifs, 0⟩ :: rest => ckI c tg it iter && (notSet iter && (ckTg c g tg && (g.slots.all (fun j => decide (j ∈ vs)) && ((match ifs with | [] => isYes t | [x] => ckT c t x | _ => false) && ckCs c vs r rest))))
  | _, _, _, _ => false
def ckO : Cc → O → Option Expr → Bool
  | _, .no, none => true
  | c, .yes e, some x => ckE c e x
  | _, _, _ => false
def ckEs : Cc → Es → List Expr → Bool
  | _, .nil, [] => true
  | c, .cons e r, x :: xs => notStar x && (ckE c e x && ckEs c r xs)
  | c, .star e r, .Starred x _ :: xs => ckE c e x && ckEs c r xs
  | _, _, _ => false
def ckT : Cc → T → Expr → Bool
  | c, .tru a, x => plainT x && ckE c a x
  | c, .cmp o a b, .Compare x [op] [y] _ => decide (op = cOp o) && (ckE c a x && (ckE c b y && notSet y))
  | c, .chn o p a b d, .Compare x [op, op'] [y, z] _ => decide (op = cOp o) && (decide (op' = cOp p) && (ckE c a x && (ckE c b y && (ckE c d z && notSet z))))
  | c, .and ts, .BoolOp .And xs _ => ckTs c ts xs
  | c, .or ts, .BoolOp .Or xs _ => ckTs c ts xs
  | c, .not t, .UnaryOp .Not x _ => ckT c t x
  | _, _, _ => false
def ckTs : Cc → Ts → List Expr → Bool
  | _, .nil, [] => true
  | c, .cons t r, x :: xs => ckT c t x && ckTs c r xs
  | _, _, _ => false
def ckI : Cc → Expr → I → Expr → Bool
  | c, _, .seq a, x => ckE c a x
  | c, _, .rng1 a, .Call (.Name x _) [y] [] _ => decide (x = ("range" : Str)) && (glB c x && (notStar y && ckE c a y))
  | c, _, .rng2 a b, .Call (.Name x _) [y, z] [] _ => decide (x = ("range" : Str)) && (glB c x && (notStar y && (ckE c a y && (notStar z && ckE c b z))))
  | c, .Tuple _ _ _, .enum a, .Call (.Name x _) [y] [] _ => decide (x = ("enumerate" : Str)) && (glB c x && (notStar y && ckE c a y))
  | c, .Tuple _ _ _, .zip a b, .Call (.Name x _) [y, z] [] _ => decide (x = ("zip" : Str)) && (glB c x && (notStar y && (ckE c a y && (notStar z && ckE c b z))))
  | _, _, _, _ => false
end
end
end Wr

set_option maxHeartbeats 8000000
/-! B3: an expression that was held against the small language is worth what that says. -/
namespace Wr
open PySem PySem.Spec PyProof.Rows L2

def bltNames : List Str := ["len", "all", "any", "sum", "tuple", "int", "list", "isinstance", "range", "zip", "bool", "str", "dict", "set", "sorted", "enumerate"]
/-- the surroundings in which a text is worth what is said -/
structure CtxOk (G : Gc) (Γ : List Fm) (k : Nat) (c : Cc) (X : Cx) (W : WX) : Prop where
  N : X.N = c.N
  nd : X.N.Nodup
  names : X.env.scope.names = c.names
  kind : X.env.scope.kind = .function
  tgL : ∀ x, c.tg.lookup x = some .local → X.env.scope.names.lookup x = some .local
  tgC : ∀ x, c.tg.lookup x = some .cell → X.env.scope.names.lookup x = some .cell ∧ X.fn x = true
  calm : X.calm = true
  room : Room k X.A
  tk : Takes X W
  blt : ∀ x ∈ bltNames, X.mg x = none
  vals : ∀ (j : Nat) (x : Str) (p : P), G.vals[j]? = some (x, p) → ∃ v u, X.mg x = some u ∧ RelV v u ∧ ∀ Z H, Rp X.K X.gl Z H v p
  fns : ∀ (j : Nat) (x : Str) (n : Nat) (f : Fm), G.fns[j]? = some (x, n) → Γ[j]? = some f → ∃ fa fd ps, X.mg x = some (.ref fa) ∧ PySem.W.keepIn X.K (.ref fa) = true ∧ Binds X.K fd ps [] ∧ FnOk X.prog X.w X.K X.mg X.base (L2.CX X.prog X.w) k fa fd ps (spF X.K X.gl n f)
  lev : 2 ≤ k
  excs : ∀ (j : Nat) (x : Str) (fo : Option Str), G.excs[j]? = some (x, fo) → XFact X.prog X.w X.K X.mg X.base x fo ∧ (∀ f, fo = some f → ∃ C, X.mg x = some (.ref C) ∧ XfC X.K C ∧ PySem.W.findIn X.K (.ref C) f = some none)
  exm : ∀ (x y : Str) (b : Bool), G.exm.lookup (x, y) = some b → ∃ C D, X.mg x = some (.ref C) ∧ X.mg y = some (.ref D) ∧ PySem.W.exmOne X.K (.ref C) (.ref D) = some b
  lam : c.lam = true → LamC X ∧ Room (k + 2) X.A
  tolds : ∀ (j : Nat) (x : Str) (n : Nat) (hs : List (Str × Option Nat × HX)), G.tolds[j]? = some (x, n, hs) → ToldOk X.prog X.w X.K X.mg X.base x (hfOf G.exm n hs)
section
variable {X : Cx} {c : Cc}
theorem relN_eq (outer names : List (Str × NameKind)) : relN outer names = names.map (fun p => (p.1, if (p.2 == NameKind.free && List.lookup p.1 outer == some NameKind.cell) = true then NameKind.cell else p.2)) := by
  unfold relN
  apply List.map_congr_left
  rintro ⟨n, q⟩ _
  show (if (q == NameKind.free && List.lookup n outer == some NameKind.cell) = true then (n, NameKind.cell) else (n, q)) = _
  split <;> rfl
theorem lk_rel {outer : List (Str × NameKind)} {kd : NameKind} (hk : kd ≠ .free) : ∀ {names : List (Str × NameKind)} {x : Str}, names.lookup x = some kd → (relN outer names).lookup x = some kd
  | [], _, h => by simp at h
  | (n, q) :: r, x, h => by
    have ih := @lk_rel outer kd hk r x
    rw [relN_eq] at ih ⊢
    rw [List.map_cons]
    by_cases hx : (x == n) = true
    · rw [List.lookup_cons, hx] at h
      cases h
      have e : (kd == NameKind.free) = false := by cases kd <;> first | rfl | exact absurd rfl hk
      rw [List.lookup_cons, hx]
      simp only [e, Bool.false_and, Bool.false_eq_true, if_false]
    · have hx' : (x == n) = false := by simpa using hx
      rw [List.lookup_cons, hx'] at h
      rw [List.lookup_cons, hx']
      exact ih h
theorem CtxOk.block {G : Gc} {Γ : List Fm} {k : Nat} {W : WX} (h : CtxOk G Γ k c X W) (s : Shared) (H : Hp) (scope : Scope) (hs : scope.kind = .function) (C : Addr) (cl : List (Str × Addr)) (fp : List Addr) :
    CtxOk G Γ k (c.blk scope) (X.blk s H scope (compEnvC scope cl C X.env) fp) W0 where
  N := h.N
  nd := h.nd
  names := by
    show (relabel scope X.env).names = relN c.names scope.names
    unfold relabel relN
    simp only [h.kind, Env.kindOf, h.names]
    have e : (ScopeKind.function == ScopeKind.function) = true := rfl
    simp only [e, Bool.and_true]
  kind := hs
  tgL := fun x hx => by
    show (relabel scope X.env).names.lookup x = _
    have e : (relabel scope X.env).names = relN c.names scope.names := by
      unfold relabel relN
      simp only [h.kind, Env.kindOf, h.names]
      have e : (ScopeKind.function == ScopeKind.function) = true := rfl
      simp only [e, Bool.and_true]
    rw [e]
    exact lk_rel (by decide) hx
  tgC := fun x hx => by
    have e : (relabel scope X.env).names = relN c.names scope.names := by
      unfold relabel relN
      simp only [h.kind, Env.kindOf, h.names]
      have e : (ScopeKind.function == ScopeKind.function) = true := rfl
      simp only [e, Bool.and_true]
    refine ⟨?_, ?_⟩
    · show (relabel scope X.env).names.lookup x = _
      rw [e]
      exact lk_rel (by decide) hx
    · show (List.lookup x scope.names == some NameKind.cell) = true
      have hx' : List.lookup x scope.names = some NameKind.cell := hx
      rw [hx']
      rfl
  calm := h.calm
  room := h.room
  tk := takes0
  blt := h.blt
  vals := h.vals
  fns := h.fns
  lev := h.lev
  excs := h.excs
  exm := h.exm
  lam := fun e => ⟨⟨(h.lam e).1.ex⟩, (h.lam e).2⟩
  tolds := h.tolds
theorem vis_of {G : Gc} {Γ : List Fm} {k : Nat} {W : WX} (h : CtxOk G Γ k c X W) {x : Str} (hx : visB c x = true) : Vis X.env.scope x := by
  unfold visB at hx
  unfold Vis
  rw [h.names]
  split at hx
  · rename_i e; exact .inl e
  · rename_i e; exact .inr (.inl e)
  · rename_i e; exact .inr (.inr e)
  · cases hx
theorem loc_of {G : Gc} {Γ : List Fm} {k : Nat} {W : WX} (h : CtxOk G Γ k c X W) {x : Str} (hx : locB c x = true) : Loc X.env.scope x ∧ (X.fn x = true ∨ X.env.scope.names.lookup x = some .local) := by
  unfold locB at hx
  split at hx
  · rename_i e
    have q := h.tgL x e
    exact ⟨.inl q, .inr q⟩
  · rename_i e
    obtain ⟨q1, q2⟩ := h.tgC x e
    exact ⟨.inr q1, .inl q2⟩
  · cases hx
theorem gl_of {G : Gc} {Γ : List Fm} {k : Nat} {W : WX} (h : CtxOk G Γ k c X W) {x : Str} (hx : glB c x = true) : Gl X x := by
  unfold glB at hx
  show X.env.scope.names.lookup x = _
  rw [h.names]
  exact of_decide_eq_true hx
theorem okN_of {x : Str} (h : okN x = true) : (x == ("__debug__" : Str)) = false ∧ (x == ("__classdict__" : Str)) = false ∧ x ≠ ("__name__" : Str) := by
  unfold okN at h
  simp only [Bool.and_eq_true, Bool.not_eq_true', decide_eq_false_iff_not] at h
  exact h
/-! ### the shapes of syntax -/
theorem star1 {e : Expr} {es : List Expr} (h : notStar e = true) : starEach (e :: es) X.env = (false, eval e X.env) :: starEach es X.env := by
  cases e <;> first | rfl | (simp [notStar] at h)
theorem behind0 {op : CmpOp} {e : Expr} (h : notSet e = true) : behindInMarks op e = false := by
  cases e <;> first | rfl | (simp [notSet] at h)
theorem folded0 {e : Expr} (h : notSet e = true) (x : Value) : foldedSetIterable e X.env x = pure x := by
  cases e <;> first | rfl | (simp [notSet] at h)
theorem plainIx {e : Expr} (h : notSlice e = true) : PlainIx e := by
  intro o i
  cases e <;> first | rfl | (simp [notSlice] at h)
theorem truT {e : Expr} (h : plainT e = true) : ∀ whole, isTrue e X.env whole = (do let v ← whole; standAt e.pos; holding [v] (truthy v)) := by
  intro whole
  cases e <;> first | rfl | (simp [plainT] at h; done) | skip
  rename_i op a p
  cases op <;> first | rfl | (simp [plainT] at h)
theorem base0 {e : Expr} {a : Str} (h : notCall e = true) : attributeBase e a X.env (eval e X.env) = eval e X.env := by
  cases e <;> first | rfl | (simp [notCall] at h)
theorem base1 {e : Expr} {a : Str} (h : notCallB e = true) : attributeBase e a X.env (eval e X.env) = eval e X.env := by
  unfold notCallB at h
  split at h
  · cases h
  · rename_i hne
    unfold attributeBase
    split
    · rename_i id p1 p2
      exact absurd rfl (hne _ _ _)
    · rfl
theorem swaps0 {e : Expr} (t : Option Expr) (l : Nat) (h : notComp e = true) : swapsWith e t l X.env = pure false := by
  cases e <;> first | rfl | (simp [notComp] at h)
theorem backTo_any {pos : Pos} {l : List (Bool × Sem Value)} (h : l.any (·.1) = false) : (backTo pos l).any (·.1) = false := by
  unfold backTo
  rw [List.any_map]
  exact h
end
/-- no starred one among them -/
def nostars : List Expr → Bool
  | [] => true
  | x :: xs => notStar x && nostars xs
theorem nostars_any {X : Cx} : ∀ {es : List Expr}, nostars es = true → (starEach es X.env).any (·.1) = false
  | [], _ => rfl
  | e :: es, h => by
    simp only [nostars, Bool.and_eq_true] at h
    rw [star1 h.1, List.any_cons, nostars_any h.2]
    rfl
theorem ckEs_ns {G : Gc} : ∀ {es : Es} {c : Cc} {xs : List Expr}, es.plain = true → ckEs G c es xs = true → nostars xs = true
  | .nil, c, [], _, _ => rfl
  | .nil, c, _ :: _, _, h => by simp [ckEs] at h
  | .cons e r, c, [], _, h => by simp [ckEs] at h
  | .cons e r, c, x :: xs, p, h => by
    simp only [ckEs, Bool.and_eq_true] at h
    simp only [nostars, h.1, ckEs_ns (show r.plain = true from p) h.2.2, Bool.and_self]
  | .star e r, c, xs, p, h => by cases p
theorem ckEs_len {G : Gc} : ∀ {es : Es} {c : Cc} {xs : List Expr}, es.plain = true → ckEs G c es xs = true → xs.length = es.len
  | .nil, c, [], _, _ => rfl
  | .nil, c, _ :: _, _, h => by simp [ckEs] at h
  | .cons e r, c, [], _, h => by simp [ckEs] at h
  | .cons e r, c, x :: xs, p, h => by
    simp only [ckEs, Bool.and_eq_true] at h
    exact congrArg Nat.succ (ckEs_len (show r.plain = true from p) h.2.2)
  | .star e r, c, xs, p, h => by cases p
theorem evEs_len {G : Gc} {Γ : List Fm} : ∀ (es : Es) {ρ S ws S'}, es.plain = true → evEs G Γ es ρ S = some (.ok ws, S') → ws.length = es.len
  | .nil, ρ, S, ws, S', _, h => by
    simp only [evEs, fNil, retF] at h
    cases h; rfl
  | .star e r, ρ, S, ws, S', p, h => by cases p
  | .cons e r, ρ, S, ws, S', p, h => by
    simp only [evEs, fCons, bindF] at h
    cases h1 : evE G Γ e ρ S with
    | none => rw [h1] at h; cases h
    | some q =>
      obtain ⟨ra, S1⟩ := q
      rw [h1] at h
      cases ra with
      | exc _ _ => cases h
      | ok a =>
        simp only at h
        cases h2 : evEs G Γ r ρ S1 with
        | none => rw [h2] at h; cases h
        | some q2 =>
          obtain ⟨rb, S2⟩ := q2
          rw [h2] at h
          cases rb with
          | exc _ _ => cases h
          | ok b =>
            cases h
            exact congrArg Nat.succ (evEs_len r (show r.plain = true from p) h2)

/-! ### the operators -/
section
variable {X : Cx}
theorem bo_ok (o : BO) : ∃ r, OpR X (binaryOp (bOp o)) r ∧ OpOk X r (evBO o) := by
  cases o
  · exact ⟨_, op_add.or (op_add_str.or (op_cat.or op_catA)), ok_rI0.or (ok_catStr.or (ok_catLst.or ok_catTup))⟩
  · exact ⟨_, op_sub, ok_rI0⟩
  · refine ⟨_, (op_mul.or op_rep).or op_repS, OpOk.or (OpOk.or (ok_rI (g := fun i j => i * j) fun i j z h => ?_) ok_repLst) ok_repS⟩
    unfold mulI at h
    split at h
    · rename_i q; cases h; exact ⟨q, rfl⟩
    · cases h
  · refine ⟨_, op_mod, ok_rI (g := fun i j => i % j) fun i j z h => ?_⟩
    unfold modI at h
    split at h
    · rename_i q; cases h; exact ⟨q, rfl⟩
    · cases h
  · refine ⟨_, op_fdiv, ok_rI (g := fun i j => i / j) fun i j z h => ?_⟩
    unfold divI at h
    split at h
    · rename_i q; cases h; exact ⟨q, rfl⟩
    · cases h
  · refine ⟨_, op_pow, ok_rI (g := fun i j => i ^ j.toNat) fun i j z h => ?_⟩
    unfold powI at h
    split at h
    · rename_i q; cases h; exact ⟨q, rfl⟩
    · cases h
  · refine ⟨_, op_shl, ok_rI (g := fun i j => i * 2 ^ j.toNat) fun i j z h => ?_⟩
    unfold shlI at h
    split at h
    · rename_i q; cases h; exact ⟨q, rfl⟩
    · cases h
  · refine ⟨_, op_shr, ok_rI (g := fun i j => i / 2 ^ j.toNat) fun i j z h => ?_⟩
    unfold shrI at h
    split at h
    · rename_i q; cases h; exact ⟨q, rfl⟩
    · cases h
  · exact ⟨_, op_and, ok_rI0⟩
  · exact ⟨_, op_or, ok_rI0⟩
theorem co_ok (hr : X.A.units + 64 < cLine) (o : CO) : ∃ r, OpR X (compareOp (cOp o)) r ∧ OpOk X r (evCO o) := by
  have hu : X.A.units + 1 < cLine := by omega
  cases o
  · exact ⟨_, op_eqM hr, ok_eq⟩
  · exact ⟨_, op_neM hr, ok_ne⟩
  · exact ⟨_, op_lt.or op_lt_str, ok_cmpI.or ok_ltStr⟩
  · exact ⟨_, op_le, ok_cmpI⟩
  · exact ⟨_, op_gt, ok_cmpI⟩
  · exact ⟨_, op_ge, ok_cmpI⟩
  · exact ⟨_, op_isN, ok_is⟩
  · exact ⟨_, op_notN, ok_isnot⟩
  · exact ⟨_, (op_inAll hu).or op_inX, (ok_in false).or (ok_inX false)⟩
  · exact ⟨_, (op_notInAll hu).or op_notInX, (ok_in true).or (ok_inX true)⟩
end
theorem boot_all : bootBuiltins "all" = some (.builtin "all") := by decide +kernel
theorem boot_sorted : bootBuiltins "sorted" = some (.builtin "sorted") := by decide +kernel
theorem boot_any : bootBuiltins "any" = some (.builtin "any") := by decide +kernel
section
variable {X : Cx} {W : WX} {G : Gc} {Γ : List Fm} {k : Nat} {c : Cc}
theorem bf_ok (hc : CtxOk G Γ k c X W) (f : BF) {x : Str} {p pos : Pos} {e : Expr} {es : List Expr} {fs : F (List Wv)} (hx : x = bfS f) (hg : Gl X x) (ha : SA X W (e :: es) fs) (h1 : notStar e = true) (h2 : nostars es = true) :
    SE X W (.Call (.Name x p) (e :: es) [] pos) (fB (evBF f) fs) := by
  have s1 := star1 (X := X) (es := es) h1
  have s2 := backTo_any (pos := pos) (nostars_any (X := X) h2)
  cases f <;> subst hx
  · exact se_B call_len ok_len hg (hc.blt _ (by decide)) PySem.boot_len ha (by decide) (by decide) s1 s2
  · exact se_B (cr_all hc.calm) ok_all hg (hc.blt _ (by decide)) boot_all ha (by decide) (by decide) s1 s2
  · exact se_B (cr_any hc.calm) ok_any hg (hc.blt _ (by decide)) boot_any ha (by decide) (by decide) s1 s2
  · exact se_B (cr_sum hc.calm) ok_sum hg (hc.blt _ (by decide)) PyProof.Rows.boot_sum ha (by decide) (by decide) s1 s2
  · exact se_T call_tuple_of ok_tuple hg (hc.blt _ (by decide)) PyProof.Rows.boot_tuple ha (by decide) (by decide) s1 s2
  · exact se_T call_int1 ok_int hg (hc.blt _ (by decide)) PyProof.Rows.boot_int ha (by decide) (by decide) s1 s2
  · exact se_T (cr_setT hc.calm) ok_set hg (hc.blt _ (by decide)) PyProof.Rows.boot_set ha (by decide) (by decide) s1 s2
  · exact se_T ((call_str_int.or SkE.call_str_str).or call_str_none) ok_str hg (hc.blt _ (by decide)) PyProof.Rows.boot_str ha (by decide) (by decide) s1 s2
  · exact se_T (call_dictP hc.calm) ok_dict hg (hc.blt _ (by decide)) PyProof.Rows.boot_dict ha (by decide) (by decide) s1 s2
theorem bn_ok (hc : CtxOk G Γ k c X W) (own : Bool) (f : BN) {x : Str} {p pos : Pos} {e : Expr} {es : List Expr} {fs : F (List Wv)} (hx : x = bnS f) (hg : Gl X x) (ha : SA X W (e :: es) fs) (h1 : notStar e = true) (h2 : nostars es = true) :
    SE X W (.Call (.Name x p) (e :: es) [] pos) (fBn own (evBN f) fs) := by
  have s1 := star1 (X := X) (es := es) h1
  have s2 := backTo_any (pos := pos) (nostars_any (X := X) h2)
  cases f <;> subst hx
  · exact se_Tn (CallR.or call_list_of (call_listS hc.calm)) (CallNew.or ok_list ok_listS) hg (hc.blt _ (by decide)) PyProof.Rows.boot_list ha (by decide) (by decide) s1 s2
  · exact se_Bn (CallR.or (cr_sortX hc.calm) cr_sortL) ok_sorted hg (hc.blt _ (by decide)) boot_sorted ha (by decide) (by decide) s1 s2
theorem boot_ty (t : Ty) : bootBuiltins (tyS t) = some (.type t.nm) := by
  cases t
  · exact PyProof.Rows.boot_int
  · exact PyProof.Rows.boot_bool
  · exact PyProof.Rows.boot_str
  · exact PyProof.Rows.boot_list
  · exact PyProof.Rows.boot_tuple
  · exact PyProof.Rows.boot_dict
theorem ty_in (t : Ty) : t.nm ∈ isiNames ∧ tyS t ∈ bltNames ∧ tyS t ≠ ("__name__" : Str) ∧ (tyS t == ("__debug__" : Str)) = false := by
  cases t <;> exact ⟨by decide, by decide, by decide, by decide⟩
theorem nms_of (hc : CtxOk G Γ k c X W) : ∀ {is : List Nat} {es : List Expr}, ckNms c is es = true → NmsAt X es is
  | [], [], _ => .nil
  | [], _ :: _, h => by simp [ckNms] at h
  | i :: is, [], h => by simp [ckNms] at h
  | i :: is, e :: es, h => by
    cases e <;> simp only [ckNms] at h <;> first | (cases h; done) | skip
    simp only [Bool.and_eq_true, decide_eq_true_eq] at h
    obtain ⟨q1, q2⟩ := loc_of hc h.2.1
    exact .cons (by rw [hc.N]; exact h.1) q1 q2 (nms_of hc h.2.2)
theorem tg_ok (hc : CtxOk G Γ k c X W) (g : Tg) (x : Expr) (h : ckTg c g x = true) : SG X x g.slots (evTg g) := by
  cases g with
  | nm i =>
    cases x <;> simp only [ckTg] at h <;> first | (cases h; done) | skip
    simp only [Bool.and_eq_true, decide_eq_true_eq] at h
    obtain ⟨q1, q2⟩ := loc_of hc h.2
    exact sg_name hc.nd (by rw [hc.N]; exact h.1) q1 q2
  | tup is =>
    cases x <;> simp only [ckTg] at h <;> first | (cases h; done) | skip
    exact sg_tup hc.nd hc.calm (nms_of hc h)
end
end Wr

set_option maxHeartbeats 8000000
/-! B4: soundness for expressions. -/
namespace Wr
open PySem PySem.Spec PyProof.Rows L2

theorem se_fail {X : Cx} {W : WX} {e : Expr} : SE X W e failF := ⟨fun pins s σ H Q I ⟨B, Z, m, ρ, S, r, S', s, v, eq, k⟩ => by cases eq⟩
theorem sw_fail {X : Cx} {W : WX} {e : Expr} : SW X W e failF := ⟨fun wh pins s σ H Q I ⟨B, Z, m, ρ, S, r, S', s, v, eq, k⟩ => by cases eq⟩
theorem blk_of {N : List Str} {sc : Scope} {ns : List (Str × NameKind)} {scope : Scope} {own : List (Str × Nat)} (hn : sc.names = ns) (h : blkC N { kind := .function, names := ns, isGenerator := false, isCoroutine := false } scope own = true) : BlkOk N sc scope own := by
  refine blkOk_by ?_
  unfold blkC at h ⊢
  rw [hn]
  exact h
theorem yes_of {t : T} (h : isYes t = true) : t = .yes := by
  cases t <;> first | rfl | (simp [isYes] at h)
section
variable {X : Cx}
theorem ms_of {o e : Expr} {name : Str} {apos cpos : Pos} (h1 : notCall o = true) (h2 : apos.endLine = cpos.line) (h3 : notStar e = true) : MSyn X o name e [] apos cpos where
  base := base0 h1
  few := by rw [star1 (X := X) (es := []) h3]; rfl
  line := by rw [h2]; exact beq_self_eq_true _
  st := star1 h3
  plain := rfl
end
section
variable {G : Gc} {Γ : List Fm} {k : Nat}
theorem lm_of {o p : CO} {y z : Expr} (h : notSet z = true) : lastMarks [cOp o, cOp p] [y, z] = false := by
  show behindInMarks (cOp p) z = false
  exact behind0 h
theorem foldedAny {e : Expr} {env : Env} (h : notSet e = true) (x : Value) : foldedSetIterable e env x = pure x := by
  cases e <;> first | rfl | (simp [notSet] at h)
theorem sndCsI : (cs : Cs) → {c : Cc} → {vs : List Nat} → (l : List Comprehension) → ckCs G c vs cs l = true → ∀ q ∈ evCs G Γ cs, ∀ j ∈ q.is, j ∈ vs
  | .nil, c, vs, l, h => fun q hq => by unfold evCs at hq; cases hq
  | .cons g it t r, c, vs, l, h => fun q hq => by
    unfold ckCs at h; (split at h <;> first | contradiction | skip)
    rename_i heq; cases heq
    simp only [Bool.and_eq_true] at h
    obtain ⟨h2, h3, h4, h5, h6, h7⟩ := h
    unfold evCs at hq
    rcases List.mem_cons.mp hq with e | e
    · rw [e]
      exact fun j hj => of_decide_eq_true (List.all_eq_true.mp h5 j hj)
    · exact sndCsI r _ h7 q e
theorem lamS_of {X : Cx} {ns : List (Str × NameKind)} {scope : Scope} (hn : X.env.scope.names = ns) (h : LamX.lamSB (scOf ns) scope = true) : LamX.LamS X.env.scope scope := by
  have L := LamX.lamS_by h
  refine ⟨L.kind, L.co, L.gen, L.own, fun y hy e => ?_⟩
  rw [hn]
  exact L.free y hy e
theorem CtxOk.inLam {c : Cc} {X : Cx} {W : WX} (h : CtxOk G Γ k c X W) {scope : Scope} (S : LamX.LamS X.env.scope scope) (A : Around) (outer : List Env) (s : Shared) (H : Hp) (E : XK) (f' c' : Addr) (hr : Room k (A.deeper (LamX.lamEnv X scope s.heap.objs.size f' c'))) :
    CtxOk G Γ k (c.inLam scope) (LamX.lamCx X A outer s H E scope f' c') (fun cls d _ H => E cls d H) where
  N := h.N
  nd := h.nd
  names := rfl
  kind := S.kind
  tgL := fun x hx => by cases hx
  tgC := fun x hx => by cases hx
  calm := rfl
  room := hr
  tk := takes_of rfl rfl rfl rfl
  blt := h.blt
  vals := h.vals
  fns := h.fns
  lev := h.lev
  excs := h.excs
  exm := h.exm
  lam := fun e => by cases e
  tolds := h.tolds
theorem noPar_of {a : Arguments} (h : noPar a = true) : a = ⟨[], [], none, [], [], none, []⟩ := by
  unfold noPar at h
  split at h
  · rfl
  · cases h
theorem se_call0' {X : Cx} {W : WX} {fa : Addr} {fd : FuncData} {ps : List Str} {f : Fm} {x : Str} {p pos : Pos} (F0 : FnOk X.prog X.w X.K X.mg X.base (L2.CX X.prog X.w) k fa fd ps (spF X.K X.gl 0 f)) (hr : Room k X.A) (hg : Gl X x) (hm : X.mg x = some (.ref fa)) (hk : PySem.W.keepIn X.K (.ref fa) = true) (hb : Binds X.K fd ps [])
    (hdb : (x == ("__debug__" : Str)) = false) : SE X W (.Call (.Name x p) [] [] pos) (fCall0 f) := by
  refine pe_weak (pe_call0 F0 hr hg hm hk hb .nil passL hdb) fun σ H Q ⟨B, Z, m, ρ, S, r, S', s, v, eq, k⟩ => ?_
  show spF X.K X.gl 0 f [] H Q E0
  unfold fCall0 at eq
  split at eq
  · rename_i p0 S0 hf
    cases eq
    exact ⟨B, Z, m, S, [], .ok p0, _, s, .nil, rfl, hf, fun Z' H' ex s' => Goal.call (r0 := .ok p0) rfl k ex s'⟩
  · cases eq
mutual
theorem sndE : (e : E) → {c : Cc} → {X : Cx} → {W : WX} → CtxOk G Γ k c X W → (x : Expr) → ckE G c e x = true → SE X W x (evE G Γ e)
  | .var i, c, X, W, hc, x, h => by
    unfold ckE at h; (split at h <;> first | contradiction | skip)
    rename_i heq; cases heq
    simp only [Bool.and_eq_true, decide_eq_true_eq] at h
    obtain ⟨h1, h2, h3⟩ := h
    obtain ⟨o1, o2, o3⟩ := okN_of h3
    unfold evE
    exact se_var (by rw [hc.N]; exact h1) (vis_of hc h2) o1 o2
  | .int i, c, X, W, hc, x, h => by
    unfold ckE at h; (split at h <;> first | contradiction | skip)
    rename_i heq; cases heq
    cases of_decide_eq_true h
    unfold evE
    exact se_int
  | .str s, c, X, W, hc, x, h => by
    unfold ckE at h; (split at h <;> first | contradiction | skip)
    rename_i heq; cases heq
    simp only [Bool.and_eq_true, decide_eq_true_eq] at h
    obtain ⟨rfl, h2⟩ := h
    unfold evE
    exact se_str h2
  | .bl b, c, X, W, hc, x, h => by
    unfold ckE at h; (split at h <;> first | contradiction | skip)
    rename_i heq; cases heq
    cases of_decide_eq_true h
    unfold evE
    exact se_bl
  | .non, c, X, W, hc, x, h => by
    unfold ckE at h; (split at h <;> first | contradiction | skip)
    unfold evE
    exact se_non
  | .glb j, c, X, W, hc, x, h => by
    unfold ckE at h; (split at h <;> first | contradiction | skip)
    rename_i heq; cases heq
    simp only [Bool.and_eq_true] at h
    obtain ⟨h1, h2, h3⟩ := h
    obtain ⟨o1, o2, o3⟩ := okN_of h3
    split at h1
    · rename_i y p hv
      cases of_decide_eq_true h1
      obtain ⟨v, u, q1, q2, q3⟩ := hc.vals _ _ _ hv
      unfold evE vOf
      simp only [hv]
      exact se_glob (gl_of hc h2) q1 q2 q3 o1
    · cases h1
  | .bin o a b, c, X, W, hc, x, h => by
    unfold ckE at h; (split at h <;> first | contradiction | skip)
    rename_i heq; cases heq
    simp only [Bool.and_eq_true, decide_eq_true_eq] at h
    obtain ⟨rfl, h2, h3⟩ := h
    obtain ⟨r, q1, q2⟩ := bo_ok (X := X) o
    unfold evE
    exact se_bin q1 q2 (sndE a hc _ h2) (sndE b hc _ h3)
  | .cmp o a b, c, X, W, hc, x, h => by
    unfold ckE at h; (split at h <;> first | contradiction | skip)
    rename_i heq; cases heq
    simp only [Bool.and_eq_true, decide_eq_true_eq] at h
    obtain ⟨rfl, h2, h3, h4⟩ := h
    obtain ⟨r, q1, q2⟩ := co_ok (X := X) (by have := hc.room.un; omega) o
    unfold evE
    exact se_cmp q1 q2 (sndE a hc _ h2) (sndE b hc _ h3) (behind0 h4)
  | .chn o p a b d, c, X, W, hc, x, h => by
    unfold ckE at h; (split at h <;> first | contradiction | skip)
    rename_i heq; cases heq
    simp only [Bool.and_eq_true, decide_eq_true_eq] at h
    obtain ⟨rfl, rfl, h2, h3, h4, h5⟩ := h
    obtain ⟨r, q1, q2⟩ := co_ok (X := X) (by have := hc.room.un; omega) o
    obtain ⟨r', q1', q2'⟩ := co_ok (X := X) (by have := hc.room.un; omega) p
    unfold evE
    exact se_chain q1 q2 q1' q2' (sndE a hc _ h2) (sndE b hc _ h3) (sndE d hc _ h4) (lm_of h5)
  | .and es, c, X, W, hc, x, h => by
    unfold ckE at h; (split at h <;> first | contradiction | skip)
    rename_i heq; cases heq
    unfold evE
    simp only [Bool.and_eq_true] at h
    exact sndAnd es hc _ _ h.2
  | .or es, c, X, W, hc, x, h => by
    unfold ckE at h; (split at h <;> first | contradiction | skip)
    rename_i heq; cases heq
    unfold evE
    simp only [Bool.and_eq_true] at h
    exact sndOr es hc _ _ h.2
  | .not a, c, X, W, hc, x, h => by
    unfold ckE at h; (split at h <;> first | contradiction | skip)
    rename_i heq; cases heq
    unfold evE
    exact se_not (sndE a hc _ h)
  | .ite t a b, c, X, W, hc, x, h => by
    unfold ckE at h; (split at h <;> first | contradiction | skip)
    rename_i heq; cases heq
    simp only [Bool.and_eq_true] at h
    obtain ⟨h1, h2, h3⟩ := h
    unfold evE
    exact se_if (sndT t hc _ h1) (sndE a hc _ h2) (sndE b hc _ h3)
  | .tup es, c, X, W, hc, x, h => by
    unfold ckE at h; (split at h <;> first | contradiction | skip)
    rename_i heq; cases heq
    unfold evE
    exact se_tup (sndEs es hc _ h)
  | .lst own es, c, X, W, hc, x, h => by
    unfold ckE at h; (split at h <;> first | contradiction | skip)
    rename_i heq; cases heq
    unfold evE
    exact se_lst (sndEs es hc _ h)
  | .ix a b, c, X, W, hc, x, h => by
    unfold ckE at h; (split at h <;> first | contradiction | skip)
    rename_i heq; cases heq
    simp only [Bool.and_eq_true] at h
    obtain ⟨h1, h2, h3⟩ := h
    unfold evE
    exact se_ix (by have := hc.room.un; omega) (sndE a hc _ h1) (sndE b hc _ h2) (plainIx h3)
  | .sl own a lo hi, c, X, W, hc, x, h => by
    unfold ckE at h; (split at h <;> first | contradiction | skip)
    rename_i heq; cases heq
    simp only [Bool.and_eq_true] at h
    obtain ⟨h1, h2, h3⟩ := h
    unfold evE
    exact se_sl (sndE a hc _ h1) (sndO lo hc _ h2) (sndO hi hc _ h3)
  | .bf f es, c, X, W, hc, x, h => by
    unfold ckE at h; (split at h <;> first | contradiction | skip)
    rename_i heq; cases heq
    simp only [Bool.and_eq_true, decide_eq_true_eq] at h
    obtain ⟨h1, h2, h0, h3⟩ := h
    have ns := ckEs_ns h0 h3
    simp only [nostars, Bool.and_eq_true] at ns
    unfold evE
    exact bf_ok hc f h1 (gl_of hc h2) (sndEs es hc _ h3) ns.1 ns.2
  | .bn own f es, c, X, W, hc, x, h => by
    unfold ckE at h; (split at h <;> first | contradiction | skip)
    rename_i heq; cases heq
    simp only [Bool.and_eq_true, decide_eq_true_eq] at h
    obtain ⟨h1, h2, h0, h3⟩ := h
    have ns := ckEs_ns h0 h3
    simp only [nostars, Bool.and_eq_true] at ns
    unfold evE
    exact bn_ok hc _ f h1 (gl_of hc h2) (sndEs es hc _ h3) ns.1 ns.2
  | .isi t a, c, X, W, hc, x, h => by
    unfold ckE at h; (split at h <;> first | contradiction | skip)
    rename_i heq; cases heq
    simp only [Bool.and_eq_true, decide_eq_true_eq] at h
    obtain ⟨rfl, rfl, h3, h4, h5, h6⟩ := h
    obtain ⟨t1, t2, t3, t4⟩ := ty_in t
    unfold evE
    exact se_isi t1 (sndE a hc _ h6) (gl_of hc h3) (hc.blt _ (by decide)) (gl_of hc h4) (hc.blt _ t2) (boot_ty t) t3 t4 (star1 h5) rfl
  | .isi2 t u a, c, X, W, hc, x, h => by
    unfold ckE at h; (split at h <;> first | contradiction | skip)
    rename_i heq; cases heq
    simp only [Bool.and_eq_true, decide_eq_true_eq] at h
    obtain ⟨rfl, rfl, rfl, h3, h4, h4', h5, h6⟩ := h
    obtain ⟨t1, t2, t3, t4⟩ := ty_in t
    obtain ⟨u1, u2, u3, u4⟩ := ty_in u
    unfold evE
    exact se_isi2 t1 u1 (sndE a hc _ h6) (gl_of hc h3) (hc.blt _ (by decide)) (gl_of hc h4) (hc.blt _ t2) (boot_ty t) t3 t4 (gl_of hc h4') (hc.blt _ u2) (boot_ty u) u3 u4 (star1 h5) rfl
  | .call j es, c, X, W, hc, x, h => by
    unfold ckE at h; (split at h <;> first | contradiction | skip)
    rename_i heq; cases heq
    simp only [Bool.and_eq_true] at h
    obtain ⟨h1, h2, h3, h0, h4⟩ := h
    obtain ⟨o1, o2, o3⟩ := okN_of h3
    split at h1
    · rename_i f n hv
      simp only [Bool.and_eq_true, decide_eq_true_eq] at h1
      obtain ⟨rfl, rfl⟩ := h1
      have ns := ckEs_ns h0 h4
      simp only [nostars, Bool.and_eq_true] at ns
      unfold evE callF
      cases hg : Γ[j]? with
      | none =>
        simp only
        exact se_fail
      | some fm =>
        obtain ⟨fa, fd, ps, q1, q2, q3, q4⟩ := hc.fns _ _ _ _ hv hg
        simp only
        exact se_call q4 hc.room (gl_of hc h2) q1 q2 q3 hc.tk (sndEs es hc _ h4) (fun ρ S ws S' e => by rw [evEs_len es h0 e, ckEs_len h0 h4]) o1 (star1 ns.1) (backTo_any (nostars_any ns.2))
    · cases h1
  | .call0 j, c, X, W, hc, x, h => by
    unfold ckE at h; (split at h <;> first | contradiction | skip)
    rename_i heq; cases heq
    simp only [Bool.and_eq_true] at h
    obtain ⟨h1, h2, h3⟩ := h
    obtain ⟨o1, o2, o3⟩ := okN_of h3
    split at h1
    · rename_i f n hv
      simp only [Bool.and_eq_true, decide_eq_true_eq] at h1
      obtain ⟨rfl, rfl⟩ := h1
      unfold evE call0F
      cases hg : Γ[j]? with
      | none =>
        simp only
        exact se_fail
      | some fm =>
        obtain ⟨fa, fd, ps, q1, q2, q3, q4⟩ := hc.fns _ _ _ _ hv hg
        simp only
        exact se_call0' q4 hc.room (gl_of hc h2) q1 q2 q3 o1
    · cases h1
  | .callv i es, c, X, W, hc, x, h => by
    unfold ckE at h; (split at h <;> first | contradiction | skip)
    rename_i heq; cases heq
    simp only [Bool.and_eq_true, decide_eq_true_eq] at h
    obtain ⟨h1, h2, h3, h0, h4⟩ := h
    obtain ⟨o1, o2, o3⟩ := okN_of h3
    have ns := ckEs_ns h0 h4
    simp only [nostars, Bool.and_eq_true] at ns
    unfold evE
    refine se_callv (k := k) (n := es.len) (fun y f hf => ?_) hc.room (by rw [hc.N]; exact h1) (vis_of hc h2) hc.tk (sndEs es hc _ h4) (fun ρ S ws S' e => evEs_len es h0 e) o1 o2 (star1 ns.1) (backTo_any (nostars_any ns.2))
    unfold fnBy at hf
    obtain ⟨j, hj, hg⟩ := Option.bind_eq_some_iff.mp hf
    obtain ⟨hlt, hp, _⟩ := List.findIdx?_eq_some_iff_getElem.mp hj
    simp only [Bool.and_eq_true, decide_eq_true_eq] at hp
    exact hc.fns j y es.len f (by rw [List.getElem?_eq_getElem hlt, ← hp.1, ← hp.2]) hg
  | .told j e, c, X, W, hc, x, h => by
    unfold ckE at h; (split at h <;> first | contradiction | skip)
    rename_i heq; cases heq
    simp only [Bool.and_eq_true] at h
    obtain ⟨h1, h2, h3, h4, h5, h6, h7⟩ := h
    split at h2
    · rename_i y n hs hv
      cases of_decide_eq_true h2
      unfold evE
      simp only [hv]
      obtain ⟨l1, l2⟩ := hc.lam h1
      have S := lamS_of hc.names h6
      cases noPar_of h5
      exact se_told (k := k) (gl_of hc h3) (hc.tolds _ _ _ _ hv) l1 l2 S rfl (fun _ _ _ _ _ => rfl) (okN_of h4).1 fun A outer s H E f' c' hr => sndE e (hc.inLam S A outer s H E f' c' hr) _ h7
    · cases h2
  | .rev own a, c, X, W, hc, x, h => by
    unfold ckE at h; (split at h <;> first | contradiction | skip)
    rename_i heq; cases heq
    simp only [Bool.and_eq_true, decide_eq_true_eq] at h
    obtain ⟨rfl, h2⟩ := h
    unfold evE
    exact se_rev (sndE a hc _ h2)
  | .lc own nms g it t e, c, X, W, hc, x, h => by
    unfold ckE at h; (split at h <;> first | contradiction | skip)
    rename_i heq; cases heq
    simp only [Bool.and_eq_true] at h
    obtain ⟨h1, h2, h3, h4, h5, h6, h7⟩ := h
    have ok := blk_of (sc := X.env.scope) hc.names h1
    unfold evE
    refine se_lc hc.calm hc.nd (sndI it hc _ _ h2) (by rw [hc.N]; exact ok) (fun j hj => ?_) (fun s H C cl fp => tg_ok (hc.block s H _ ok.kind C cl fp) g _ h4) (fun s H C cl fp => ?_) (fun s H C cl fp => sndE e (hc.block s H _ ok.kind C cl fp) _ h7) (folded0 h3)
    · exact of_decide_eq_true (List.all_eq_true.mp h5 j hj)
    · split at h6
      · cases yes_of h6
        unfold evT
        exact sts_nil
      · exact sts_one (sndT t (hc.block s H _ ok.kind C cl fp) _ h6)
      · cases h6
  | .lcn own nms g it t cs e, c, X, W, hc, x, h => by
    unfold ckE at h; (split at h <;> first | contradiction | skip)
    rename_i heq; cases heq
    simp only [Bool.and_eq_true] at h
    obtain ⟨h1, h2, h3, h4, h5, h6, h7, h8⟩ := h
    have ok := blk_of (sc := X.env.scope) hc.names h1
    unfold evE
    refine se_lcN (c := ⟨evI G Γ it, evTg g, g.slots, evT G Γ t⟩) hc.calm hc.nd (sndI it hc _ _ h2) (by rw [hc.N]; exact ok) (fun j hj => of_decide_eq_true (List.all_eq_true.mp h5 j hj)) (sndCsI cs _ h7) (fun s H C cl fp => tg_ok (hc.block s H _ ok.kind C cl fp) g _ h4) (fun s H C cl fp => ?_)
      (fun s H C cl fp => sndCs cs (hc.block s H _ ok.kind C cl fp) _ h7 (sndE e (hc.block s H _ ok.kind C cl fp) _ h8)) (folded0 h3)
    split at h6
    · cases yes_of h6
      unfold evT
      exact sts_nil
    · exact sts_one (sndT t (hc.block s H _ ok.kind C cl fp) _ h6)
    · cases h6
  | .neg a, c, X, W, hc, x, h => by
    unfold ckE at h; (split at h <;> first | contradiction | skip)
    rename_i heq; cases heq
    unfold evE
    exact se_neg (sndE a hc _ h)
  | .low a, c, X, W, hc, x, h => by
    unfold ckE at h; (split at h <;> first | contradiction | skip)
    rename_i heq; cases heq
    simp only [Bool.and_eq_true, decide_eq_true_eq] at h
    obtain ⟨rfl, h2, h3, h4⟩ := h
    unfold evE
    exact se_low (sndE a hc _ h4) (base1 h3) (by rw [h2]; exact beq_self_eq_true _)
  | .dc nms g it t kk v, c, X, W, hc, x, h => by
    unfold ckE at h; (split at h <;> first | contradiction | skip)
    rename_i heq; cases heq
    simp only [Bool.and_eq_true] at h
    obtain ⟨h1, h2, h3, h4, h5, h6, h7, h8⟩ := h
    have ok := blk_of (sc := X.env.scope) hc.names h1
    unfold evE
    refine se_dc hc.calm hc.nd (sndI it hc _ _ h2) (by rw [hc.N]; exact ok) (fun j hj => ?_) (fun s H C cl fp => tg_ok (hc.block s H _ ok.kind C cl fp) g _ h4) (fun s H C cl fp => ?_) (fun s H C cl fp => sndE kk (hc.block s H _ ok.kind C cl fp) _ h7) (fun s H C cl fp => sndE v (hc.block s H _ ok.kind C cl fp) _ h8) (folded0 h3)
    · exact of_decide_eq_true (List.all_eq_true.mp h5 j hj)
    · split at h6
      · cases yes_of h6
        unfold evT
        exact sts_nil
      · exact sts_one (sndT t (hc.block s H _ ok.kind C cl fp) _ h6)
      · cases h6
  | .frz a, c, X, W, hc, x, h => by
    unfold ckE at h
    have h' : ckE G c a x = true := h
    unfold evE
    exact se_frz (sndE a hc _ h')
  | .app o e, c, X, W, hc, x, h => by
    unfold ckE at h; (split at h <;> first | contradiction | skip)
    rename_i heq; cases heq
    simp only [Bool.and_eq_true, decide_eq_true_eq] at h
    obtain ⟨rfl, h2, h3, h4, h5, h6⟩ := h
    unfold evE
    exact se_app (ms_of h3 h2 h4) (sndE o hc _ h5) (sndE e hc _ h6) rfl
  | .pop o, c, X, W, hc, x, h => by
    unfold ckE at h; (split at h <;> first | contradiction | skip)
    rename_i heq; cases heq
    simp only [Bool.and_eq_true, decide_eq_true_eq] at h
    obtain ⟨rfl, h2, h3, h5⟩ := h
    unfold evE
    exact se_pop (base0 h3) (by rw [h2]; exact beq_self_eq_true _) (sndE o hc _ h5)
  | .ext o e, c, X, W, hc, x, h => by
    unfold ckE at h; (split at h <;> first | contradiction | skip)
    rename_i heq; cases heq
    simp only [Bool.and_eq_true, decide_eq_true_eq] at h
    obtain ⟨rfl, h2, h3, h4, h5, h6⟩ := h
    unfold evE
    exact se_ext (ms_of h3 h2 h4) (sndE o hc _ h5) (sndE e hc _ h6)
theorem sndCs : (cs : Cs) → {c : Cc} → {X : Cx} → {vs : List Nat} → {elt : Expr} → {fe : F Wv} → CtxOk G Γ k c X W0 → (l : List Comprehension) → ckCs G c vs cs l = true → SE X W0 elt fe → ClaOk X elt fe vs l (evCs G Γ cs)
  | .nil, c, X, vs, elt, fe, hc, l, h, he => by
    unfold ckCs at h; (split at h <;> first | contradiction | skip)
    unfold evCs
    exact .last he
  | .cons g it t r, c, X, vs, elt, fe, hc, l, h, he => by
    unfold ckCs at h; (split at h <;> first | contradiction | skip)
    rename_i heq; cases heq
    simp only [Bool.and_eq_true] at h
    obtain ⟨h2, h3, h4, h5, h6, h7⟩ := h
    unfold evCs
    refine .more (c := ⟨evI G Γ it, evTg g, g.slots, evT G Γ t⟩) (sndI it hc _ _ h2) (tg_ok hc g _ h4) ?_ (fun env x => foldedAny h3 x) (fun j hj => of_decide_eq_true (List.all_eq_true.mp h5 j hj)) (sndCs r hc _ h7 he)
    split at h6
    · cases yes_of h6
      unfold evT
      exact sts_nil
    · exact sts_one (sndT t hc _ h6)
    · cases h6
theorem sndO : (o : O) → {c : Cc} → {X : Cx} → {W : WX} → CtxOk G Γ k c X W → (x : Option Expr) → ckO G c o x = true → SO X W x (evO G Γ o)
  | .no, c, X, W, hc, x, h => by
    cases x with
    | none => unfold evO; exact so_none
    | some x => simp [ckO] at h
  | .yes e, c, X, W, hc, x, h => by
    cases x with
    | none => simp [ckO] at h
    | some x =>
      unfold ckO at h
      unfold evO
      exact so_some (sndE e hc _ h)
theorem sndEs : (es : Es) → {c : Cc} → {X : Cx} → {W : WX} → CtxOk G Γ k c X W → (xs : List Expr) → ckEs G c es xs = true → SA X W xs (evEs G Γ es)
  | .nil, c, X, W, hc, xs, h => by
    cases xs with
    | nil => unfold evEs; exact sa_nil
    | cons x xs => simp [ckEs] at h
  | .cons e r, c, X, W, hc, xs, h => by
    cases xs with
    | nil => simp [ckEs] at h
    | cons x xs =>
      unfold ckEs at h
      simp only [Bool.and_eq_true] at h
      obtain ⟨h1, h2, h3⟩ := h
      unfold evEs
      exact sa_cons (sndE e hc _ h2) (sndEs r hc _ h3) (star1 h1)
  | .star e r, c, X, W, hc, xs, h => by
    unfold ckEs at h; (split at h <;> first | contradiction | skip)
    rename_i heq; cases heq
    simp only [Bool.and_eq_true] at h
    unfold evEs
    exact sa_star (sndE e hc _ h.1) (sndEs r hc _ h.2)
theorem sndAnd : (es : Es) → {c : Cc} → {X : Cx} → {W : WX} → CtxOk G Γ k c X W → (xs : List Expr) → (pos : Pos) → ckEs G c es xs = true → SE X W (.BoolOp .And xs pos) (evAnd G Γ es)
  | .nil, c, X, W, hc, xs, pos, h => by
    unfold evAnd
    exact se_fail
  | .star e r, c, X, W, hc, xs, pos, h => by
    unfold evAnd
    exact se_fail
  | .cons e (.star e2 r), c, X, W, hc, xs, pos, h => by
    unfold evAnd
    exact se_fail
  | .cons e .nil, c, X, W, hc, xs, pos, h => by
    cases xs with
    | nil => simp [ckEs] at h
    | cons x xs =>
      unfold ckEs at h
      simp only [Bool.and_eq_true] at h
      obtain ⟨h1, h2, h3⟩ := h
      cases xs with
      | nil => unfold evAnd; exact se_one (sndE e hc _ h2)
      | cons x2 xs => simp [ckEs] at h3
  | .cons e (.cons e2 r), c, X, W, hc, xs, pos, h => by
    cases xs with
    | nil => simp [ckEs] at h
    | cons x xs =>
      unfold ckEs at h
      simp only [Bool.and_eq_true] at h
      obtain ⟨h1, h2, h3⟩ := h
      cases xs with
      | nil => simp [ckEs] at h3
      | cons x2 xs =>
        unfold evAnd
        exact se_and (sndE e hc _ h2) (sndAnd (.cons e2 r) hc _ pos h3)
theorem sndOr : (es : Es) → {c : Cc} → {X : Cx} → {W : WX} → CtxOk G Γ k c X W → (xs : List Expr) → (pos : Pos) → ckEs G c es xs = true → SE X W (.BoolOp .Or xs pos) (evOr G Γ es)
  | .nil, c, X, W, hc, xs, pos, h => by
    unfold evOr
    exact se_fail
  | .star e r, c, X, W, hc, xs, pos, h => by
    unfold evOr
    exact se_fail
  | .cons e (.star e2 r), c, X, W, hc, xs, pos, h => by
    unfold evOr
    exact se_fail
  | .cons e .nil, c, X, W, hc, xs, pos, h => by
    cases xs with
    | nil => simp [ckEs] at h
    | cons x xs =>
      unfold ckEs at h
      simp only [Bool.and_eq_true] at h
      obtain ⟨h1, h2, h3⟩ := h
      cases xs with
      | nil => unfold evOr; exact se_one (sndE e hc _ h2)
      | cons x2 xs => simp [ckEs] at h3
  | .cons e (.cons e2 r), c, X, W, hc, xs, pos, h => by
    cases xs with
    | nil => simp [ckEs] at h
    | cons x xs =>
      unfold ckEs at h
      simp only [Bool.and_eq_true] at h
      obtain ⟨h1, h2, h3⟩ := h
      cases xs with
      | nil => simp [ckEs] at h3
      | cons x2 xs =>
        unfold evOr
        exact se_or (sndE e hc _ h2) (sndOr (.cons e2 r) hc _ pos h3)
theorem sndT : (t : T) → {c : Cc} → {X : Cx} → {W : WX} → CtxOk G Γ k c X W → (x : Expr) → ckT G c t x = true → ST X W x (evT G Γ t)
  | .yes, c, X, W, hc, x, h => by
    unfold ckT at h; cases h
  | .tru a, c, X, W, hc, x, h => by
    unfold ckT at h
    have h' : plainT x = true ∧ ckE G c a x = true := by simpa using h
    unfold evT
    exact st_tru (sndE a hc _ h'.2) (truT h'.1)
  | .cmp o a b, c, X, W, hc, x, h => by
    unfold ckT at h; (split at h <;> first | contradiction | skip)
    rename_i heq; cases heq
    simp only [Bool.and_eq_true, decide_eq_true_eq] at h
    obtain ⟨rfl, h2, h3, h4⟩ := h
    obtain ⟨r, q1, q2⟩ := co_ok (X := X) (by have := hc.room.un; omega) o
    unfold evT
    exact st_cmp q1 q2 (sndE a hc _ h2) (sndE b hc _ h3) (behind0 h4)
  | .chn o p a b d, c, X, W, hc, x, h => by
    unfold ckT at h; (split at h <;> first | contradiction | skip)
    rename_i heq; cases heq
    simp only [Bool.and_eq_true, decide_eq_true_eq] at h
    obtain ⟨rfl, rfl, h2, h3, h4, h5⟩ := h
    obtain ⟨r, q1, q2⟩ := co_ok (X := X) (by have := hc.room.un; omega) o
    obtain ⟨r', q1', q2'⟩ := co_ok (X := X) (by have := hc.room.un; omega) p
    unfold evT
    exact st_chain q1 q2 q1' q2' (sndE a hc _ h2) (sndE b hc _ h3) (sndE d hc _ h4) (lm_of h5)
  | .and ts, c, X, W, hc, x, h => by
    unfold ckT at h; (split at h <;> first | contradiction | skip)
    rename_i heq; cases heq
    unfold evT
    exact st_sw (sndAndT ts hc _ _ h)
  | .or ts, c, X, W, hc, x, h => by
    unfold ckT at h; (split at h <;> first | contradiction | skip)
    rename_i heq; cases heq
    unfold evT
    exact st_sw (sndOrT ts hc _ _ h)
  | .not t, c, X, W, hc, x, h => by
    unfold ckT at h; (split at h <;> first | contradiction | skip)
    rename_i heq; cases heq
    unfold evT
    exact st_not (sndT t hc _ h)
theorem sndAndT : (ts : Ts) → {c : Cc} → {X : Cx} → {W : WX} → CtxOk G Γ k c X W → (xs : List Expr) → (pos : Pos) → ckTs G c ts xs = true → SW X W (.BoolOp .And xs pos) (evAndT G Γ ts)
  | .nil, c, X, W, hc, xs, pos, h => by
    unfold evAndT
    exact sw_fail
  | .cons t .nil, c, X, W, hc, xs, pos, h => by
    cases xs with
    | nil => simp [ckTs] at h
    | cons x xs =>
      unfold ckTs at h
      simp only [Bool.and_eq_true] at h
      obtain ⟨h2, h3⟩ := h
      cases xs with
      | nil => unfold evAndT; exact sw_and1 (sndT t hc _ h2)
      | cons x2 xs => simp [ckTs] at h3
  | .cons t (.cons t2 r), c, X, W, hc, xs, pos, h => by
    cases xs with
    | nil => simp [ckTs] at h
    | cons x xs =>
      unfold ckTs at h
      simp only [Bool.and_eq_true] at h
      obtain ⟨h2, h3⟩ := h
      cases xs with
      | nil => simp [ckTs] at h3
      | cons x2 xs =>
        unfold evAndT
        exact sw_and (sndT t hc _ h2) (sndAndT (.cons t2 r) hc _ pos h3)
theorem sndOrT : (ts : Ts) → {c : Cc} → {X : Cx} → {W : WX} → CtxOk G Γ k c X W → (xs : List Expr) → (pos : Pos) → ckTs G c ts xs = true → SW X W (.BoolOp .Or xs pos) (evOrT G Γ ts)
  | .nil, c, X, W, hc, xs, pos, h => by
    unfold evOrT
    exact sw_fail
  | .cons t .nil, c, X, W, hc, xs, pos, h => by
    cases xs with
    | nil => simp [ckTs] at h
    | cons x xs =>
      unfold ckTs at h
      simp only [Bool.and_eq_true] at h
      obtain ⟨h2, h3⟩ := h
      cases xs with
      | nil => unfold evOrT; exact sw_or1 (sndT t hc _ h2)
      | cons x2 xs => simp [ckTs] at h3
  | .cons t (.cons t2 r), c, X, W, hc, xs, pos, h => by
    cases xs with
    | nil => simp [ckTs] at h
    | cons x xs =>
      unfold ckTs at h
      simp only [Bool.and_eq_true] at h
      obtain ⟨h2, h3⟩ := h
      cases xs with
      | nil => simp [ckTs] at h3
      | cons x2 xs =>
        unfold evOrT
        exact sw_or (sndT t hc _ h2) (sndOrT (.cons t2 r) hc _ pos h3)
theorem sndI : (it : I) → {c : Cc} → {X : Cx} → {W : WX} → CtxOk G Γ k c X W → (tg x : Expr) → ckI G c tg it x = true → SI X W tg x (evI G Γ it)
  | .seq a, c, X, W, hc, tg, x, h => by
    unfold ckI at h
    have h' : ckE G c a x = true := h
    unfold evI
    exact si_seq (sndE a hc _ h')
  | .rng1 a, c, X, W, hc, tg, x, h => by
    unfold ckI at h; (split at h <;> first | contradiction | skip)
    rename_i heq; cases heq
    simp only [Bool.and_eq_true, decide_eq_true_eq] at h
    obtain ⟨rfl, h2, h3, h4⟩ := h
    unfold evI
    exact si_range1 (gl_of hc h2) (hc.blt _ (by decide)) (sa_cons (sndE a hc _ h4) sa_nil (star1 h3)) (star1 h3)
  | .rng2 a b, c, X, W, hc, tg, x, h => by
    unfold ckI at h; (split at h <;> first | contradiction | skip)
    rename_i heq; cases heq
    simp only [Bool.and_eq_true, decide_eq_true_eq] at h
    obtain ⟨rfl, h2, h3, h4, h5, h6⟩ := h
    unfold evI
    exact si_range2 (gl_of hc h2) (hc.blt _ (by decide)) (sa_cons (sndE a hc _ h4) (sa_cons (sndE b hc _ h6) sa_nil (star1 h5)) (star1 h3)) (by rw [star1 h3, star1 h5]; rfl) (star1 h5)
  | .enum a, c, X, W, hc, tg, x, h => by
    unfold ckI at h; (split at h <;> first | contradiction | skip)
    rename_i heq; cases heq
    simp only [Bool.and_eq_true, decide_eq_true_eq] at h
    obtain ⟨rfl, h2, h3, h4⟩ := h
    unfold evI
    exact si_enum (gl_of hc h2) (hc.blt _ (by decide)) (sa_cons (sndE a hc _ h4) sa_nil (star1 h3)) (star1 h3)
  | .zip a b, c, X, W, hc, tg, x, h => by
    unfold ckI at h; (split at h <;> first | contradiction | skip)
    rename_i heq; cases heq
    simp only [Bool.and_eq_true, decide_eq_true_eq] at h
    obtain ⟨rfl, h2, h3, h4, h5, h6⟩ := h
    unfold evI
    exact si_zip (gl_of hc h2) (hc.blt _ (by decide)) (sa_cons (sndE a hc _ h4) (sa_cons (sndE b hc _ h6) sa_nil (star1 h5)) (star1 h3)) (star1 h3) (backTo_any (by rw [star1 h5]; rfl))
end
end
end Wr

set_option maxHeartbeats 4000000
/-! C1: the suites of except clauses held against what they hand back. -/
namespace Wr
open PySem PySem.Spec PyProof.Rows L2 ClX

def ckH (c : Cc) (i : Option Nat) : HX → Expr → Bool
  | .con .non, .Constant .none _ _ => true
  | .con (.bl b), .Constant (.bool d) _ _ => decide (b = d)
  | .con (.int b), .Constant (.int d) _ _ => decide (b = d)
  | .con (.str b), .Constant (.str d) _ _ => decide (b = d)
  | .fld f, .Attribute (.Name x _) g _ => decide (f = g) && ((match i with | some j => decide (c.N[j]? = some x) | none => false) && (visB c x && okN x))
  | .pair a b, .Tuple [x, y] _ _ => ckH c i a x && (ckH c i b y && (notStar x && notStar y))
  | .cat a b, .BinOp x .Add y _ => ckH c i a x && ckH c i b y
  | .slow a, .Call (.Attribute (.Call (.Name s _) [x] [] _) lw ap) [] [] cp => decide (s = ("str" : Str)) && (decide (lw = ("lower" : Str)) && (decide (ap.endLine = cp.line) && (glB c s && (notStar x && ckH c i a x))))
  | _, _ => false
section
variable {X : Cx} {c : Cc} {xn : Str} {Cn : Addr} {i : Option Nat}
/-- what a clause's class must have for its field to be read -/
def FldC (K : PySem.W.Frag) (C : Addr) (f : Str) : Prop := XfC K C ∧ PySem.W.findIn K (.ref C) f = some none
def HX.flds : HX → List Str
  | .con _ => []
  | .fld f => [f]
  | .pair a b => a.flds ++ b.flds
  | .cat a b => a.flds ++ b.flds
  | .slow a => a.flds
theorem vis_raw {x : Str} (hn : X.env.scope.names = c.names) (h : visB c x = true) : Vis X.env.scope x := by
  unfold visB at h
  unfold Vis
  rw [hn]
  split at h
  · rename_i e; exact .inl e
  · rename_i e; exact .inr (.inl e)
  · rename_i e; exact .inr (.inr e)
  · cases h
theorem hx_ok (hN : X.N = c.N) (hn : X.env.scope.names = c.names) (hm : X.mg xn = some (.ref Cn)) (hs : X.mg "str" = none) {a : Addr} {oe : Obj} {cls : Value} {d : Option Addr} {pn : List (Addr × Obj)} (hz : Zc cls d oe) (hf : ∃ vs, oe.data = .fields vs) :
    ∀ (hx : HX) (e : Expr), (∀ f ∈ hx.flds, FldC X.K Cn f) → ckH c i hx e = true → PE (X.suite a ((a, oe) :: pn)) e (tH X i xn hx a cls d)
  | .con p, e, hfl, h => by
    have con : ∀ {v : V} {σ : L2.St} {H : Hp} {Q : VK}, (∀ Z H', Rp X.K X.gl Z H' v p ∨ conP p = false) → tH X i xn (.con p) a cls d σ H Q → Q v H := by
      intro v σ H Q hr ⟨B, Z, m, S, c0, fs, q, s, hi, hx, ev, k⟩
      simp only [evH] at ev
      split at ev
      · rename_i hc
        cases ev
        rcases hr Z H with r | r
        · exact k H v Ext.refl s r
        · rw [hc] at r; cases r
      · cases ev
    unfold ckH at h
    split at h <;> first | contradiction | skip
    · rename_i heq; cases heq
      exact pe_weak pe_non fun σ H Q q => con (fun _ _ => .inl .non) q
    · rename_i heq; cases heq
      cases of_decide_eq_true h
      exact pe_weak pe_bl fun σ H Q q => con (fun _ _ => .inl (.bl _)) q
    · rename_i heq; cases heq
      cases of_decide_eq_true h
      exact pe_weak pe_int fun σ H Q q => con (fun _ _ => .inl (.int _)) q
    · rename_i b d' _ _ heq; cases heq
      cases of_decide_eq_true h
      refine pe_weak pe_str fun σ H Q q => con (fun _ _ => ?_) q
      cases hb : PySem.PyData.strOk b with
      | true => exact .inl (.str _ hb)
      | false => exact .inr hb
  | .fld f, e, hfl, h => by
    unfold ckH at h
    split at h <;> first | contradiction | skip
    rename_i heq; cases heq
    simp only [Bool.and_eq_true, decide_eq_true_eq] at h
    obtain ⟨rfl, h2, h3, h4⟩ := h
    split at h2
    · rename_i j
      have h2 := of_decide_eq_true h2
      obtain ⟨o1, o2, o3⟩ := okN_of h4
      obtain ⟨T, no⟩ := hfl f (by simp [HX.flds])
      have vv := vis_raw hn h3
      refine pe_weak (pe_xf T no hz hf (pe_var (X := X.suite a ((a, oe) :: pn)) (i := j) (by show X.N[j]? = _; rw [hN]; exact h2) vv o1 o2) rfl) fun σ H Q ⟨B, Z, m, S, c0, fs, q, s, hi, hx, ev, k⟩ => ?_
      refine ⟨_, hi j rfl, rfl, ?_⟩
      simp only [evH] at ev
      split at ev
      · rename_i hc
        obtain ⟨C1, e1, e2, e3⟩ := hx
        have ec : c0 = xn := by simpa using hc
        subst ec
        have e1' : X.mg c0 = some (.ref C1) := e1
        rw [hm] at e1'
        cases e1'
        rcases e3 with e3 | ⟨dx, xs, q1, q2, q3, q4⟩
        · rw [e3] at ev; cases ev
        · obtain ⟨v, r1, r2⟩ := q4 f q ev
          exact ⟨e2, dx, xs, v, q1, q3, r1, k H v Ext.refl s r2⟩
      · cases ev
    · cases h2
  | .pair h1 h2, e, hfl, h => by
    unfold ckH at h
    split at h <;> first | contradiction | skip
    rename_i heq; cases heq
    simp only [Bool.and_eq_true] at h
    obtain ⟨g1, g2, g3, g4⟩ := h
    have p1 := hx_ok hN hn hm hs (a := a) (pn := pn) hz hf h1 _ (fun f q => hfl f (by simp [HX.flds, q])) g1
    have p2 := hx_ok hN hn hm hs (a := a) (pn := pn) hz hf h2 _ (fun f q => hfl f (by simp [HX.flds, q])) g2
    refine pe_weak (pe_tup (pa_cons p1 (pa_cons p2 pa_nil (star1 g4)) (star1 g3))) fun σ H Q ⟨B, Z, m, S, c0, fs, q, s, hi, hx, ev, k⟩ => ?_
    simp only [evH] at ev
    cases e1 : evH (c0 == xn) fs h1 with
    | none => simp [e1] at ev
    | some x =>
      cases e2 : evH (c0 == xn) fs h2 with
      | none => simp [e1, e2] at ev
      | some y =>
        simp only [e1, e2, Option.some.injEq] at ev
        subst ev
        refine ⟨B, Z, m, S, c0, fs, x, s, hi, hx, e1, fun H1 v1 x1 s1 r1 => ?_⟩
        refine ⟨B, Z, m, S, c0, fs, y, s1, hi, hx.ext x1, e2, fun H2 v2 x2 s2 r2 => ?_⟩
        refine ⟨by show 2 ≤ sizeLine; decide, fun p hp => ?_⟩
        have x3 : Ext B Z m H2 Z m (upd H2 p (.tup [v1, v2])) := ext_new hp
        exact k _ _ ((x1.trans x2).trans x3) (s2.new hp) (new_tup s2 hp (by show 2 ≤ sizeLine; decide) (.cons (r1.move x2.cold) (.cons r2 .nil)))
  | .cat h1 h2, e, hfl, h => by
    unfold ckH at h
    split at h <;> first | contradiction | skip
    rename_i heq; cases heq
    simp only [Bool.and_eq_true] at h
    obtain ⟨g1, g2⟩ := h
    have p1 := hx_ok hN hn hm hs (a := a) (pn := pn) hz hf h1 _ (fun f q => hfl f (by simp [HX.flds, q])) g1
    have p2 := hx_ok hN hn hm hs (a := a) (pn := pn) hz hf h2 _ (fun f q => hfl f (by simp [HX.flds, q])) g2
    refine pe_weak (pe_op op_add_str p1 p2) fun σ H Q ⟨B, Z, m, S, c0, fs, q, s, hi, hx, ev, k⟩ => ?_
    simp only [evH] at ev
    cases e1 : evH (c0 == xn) fs h1 with
    | none => simp [e1] at ev
    | some x =>
      cases e2 : evH (c0 == xn) fs h2 with
      | none => simp [e1, e2] at ev
      | some y =>
        simp only [e1, e2] at ev
        cases x <;> cases y <;> simp only [catStr] at ev <;> first | (cases ev; done) | skip
        rename_i x y
        split at ev
        · rename_i hl
          cases ev
          refine ⟨B, Z, m, S, c0, fs, _, s, hi, hx, e1, fun H1 v1 x1 s1 r1 => ?_⟩
          refine ⟨B, Z, m, S, c0, fs, _, s1, hi, hx.ext x1, e2, fun H2 v2 x2 s2 r2 => ?_⟩
          cases r1 with
          | str _ o1 =>
            cases r2 with
            | str _ o2 => exact ⟨x, y, rfl, rfl, hl, k H2 _ (x1.trans x2) s2 (.str _ (strOk_app o1 o2))⟩
        · cases ev
  | .slow h1, e, hfl, h => by
    unfold ckH at h
    split at h <;> first | contradiction | skip
    rename_i heq; cases heq
    simp only [Bool.and_eq_true, decide_eq_true_eq] at h
    obtain ⟨rfl, rfl, g1, g2, g3, g4⟩ := h
    have p1 := hx_ok hN hn hm hs (a := a) (pn := pn) hz hf h1 _ (fun f q => hfl f (by simpa [HX.flds] using q)) g4
    have gg : Gl (X.suite a ((a, oe) :: pn)) "str" := by
      unfold glB at g2
      show X.env.scope.names.lookup _ = _
      rw [hn]
      exact of_decide_eq_true g2
    refine pe_weak (pe_lower (pe_callTy (X := X.suite a ((a, oe) :: pn)) ((call_str_int.or SkE.call_str_str).or call_str_none) gg hs PyProof.Rows.boot_str (pa_cons p1 pa_nil (star1 g3)) (by decide) (by decide) (star1 g3) rfl) rfl (by rw [g1]; exact beq_self_eq_true _)) fun σ H Q ⟨B, Z, m, S, c0, fs, q, s, hi, hx, ev, k⟩ => ?_
    simp only [evH] at ev
    cases e1 : evH (c0 == xn) fs h1 with
    | none => simp [e1] at ev
    | some x =>
      simp only [e1] at ev
      refine ⟨B, Z, m, S, c0, fs, x, s, hi, hx, e1, fun H1 v1 x1 s1 r1 => ?_⟩
      have fin : ∀ {y : Str}, lowP (.str y) = some q → (∃ a, V.str y = .str a) ∧ ∃ a, V.str y = V.str a ∧ ([] : List V) = [] ∧ a.length ≤ 5592405 ∧ Q (.str (Txt.lower a)) H1 := by
        intro y hy
        unfold lowP at hy
        simp only at hy
        split at hy
        · rename_i hl
          cases hy
          exact ⟨⟨y, rfl⟩, y, rfl, rfl, hl.1, k H1 _ x1 s1 (.str _ hl.2)⟩
        · cases hy
      obtain ⟨y, y1, y2⟩ : ∃ y, strP1 x = some y ∧ lowP y = some q := Option.bind_eq_some_iff.mp ev
      cases x <;> simp only [strP1] at y1 <;> first | (cases y1; done) | skip
      · cases y1
        cases r1
        exact .inr ⟨rfl, fin y2⟩
      · split at y1
        · rename_i hl
          cases y1
          cases r1
          exact .inl (.inl ⟨_, rfl, hl.1, fin y2⟩)
        · cases y1
      · cases y1
        cases r1
        exact .inl (.inr ⟨_, rfl, fin y2⟩)
end
end Wr

set_option maxHeartbeats 4000000
/-! C2: try, over data. -/
namespace Wr
open PySem PySem.Spec PyProof.Rows L2 ClX

section
variable {G : Gc} {Γ : List Fm} {k : Nat} {c : Cc} {X : Cx} {W : WX}
/-- in the body of a try -/
theorem CtxOk.tr (h : CtxOk G Γ k c X W) {W' : WX} {pn : List (Addr × Obj)} {xe : Value → Shared → Prop} (tk : Takes (X.tr pn xe) W') : CtxOk G Γ k c (X.tr pn xe) W' where
  N := h.N
  nd := h.nd
  names := h.names
  kind := h.kind
  tgL := h.tgL
  tgC := h.tgC
  calm := h.calm
  room := h.room
  tk := tk
  blt := h.blt
  vals := h.vals
  fns := h.fns
  lev := h.lev
  excs := h.excs
  exm := h.exm
  lam := fun e => ⟨⟨(h.lam e).1.ex⟩, (h.lam e).2⟩
  tolds := h.tolds
/-- the fields that a clause's suite reads are its class's -/
def fldsIn (G : Gc) (x : Str) (hx : HX) : Bool := hx.flds.all fun f => G.excs.any fun p => decide (p.1 = x) && decide (p.2 = some f)
/-- a class that a clause names -/
def clsIn (G : Gc) (x : Str) : Bool := G.excs.any fun p => decide (p.1 = x)
def ckHs (G : Gc) (c : Cc) : List (Str × Option Nat × HX) → List ExceptHandler → Bool
  | [], [] => true
  | (x, none, hx) :: r, .ExceptHandler (some (.Name y _)) none [.Return (some e) _] _ :: hs => decide (x = y) && (glB c y && (okN y && (clsIn G x && (fldsIn G x hx && (ckH c none hx e && ckHs G c r hs)))))
  | (x, some i, hx) :: r, .ExceptHandler (some (.Name y _)) (some n) [.Return (some e) _] _ :: hs => decide (x = y) && (glB c y && (okN y && (clsIn G x && (fldsIn G x hx && (decide (c.N[i]? = some n) && (decide (c.names.lookup n = some .local) && (ckH c (some i) hx e && ckHs G c r hs)))))))
  | _, _ => false
/-- what a clause's suite does -/
def tsH (X : Cx) (i : Option Nat) (x : Str) (hx : HX) : Addr → Value → Option Addr → TS := fun a cls d D σ H => tH X i x hx a cls d σ H fun v H1 => D.rt v H1
/-- what is asked of the surroundings of except clauses -/
structure CtxH (G : Gc) (c : Cc) (X : Cx) : Prop where
  N : X.N = c.N
  nd : X.N.Nodup
  names : X.env.scope.names = c.names
  blt : ∀ x ∈ bltNames, X.mg x = none
  excs : ∀ (j : Nat) (x : Str) (fo : Option Str), G.excs[j]? = some (x, fo) → XFact X.prog X.w X.K X.mg X.base x fo ∧ (∀ f, fo = some f → ∃ C, X.mg x = some (.ref C) ∧ XfC X.K C ∧ PySem.W.findIn X.K (.ref C) f = some none)
  exm : ∀ (x y : Str) (b : Bool), G.exm.lookup (x, y) = some b → ∃ C D, X.mg x = some (.ref C) ∧ X.mg y = some (.ref D) ∧ PySem.W.exmOne X.K (.ref C) (.ref D) = some b
theorem CtxOk.h (hc : CtxOk G Γ k c X W) : CtxH G c X := ⟨hc.N, hc.nd, hc.names, hc.blt, hc.excs, hc.exm⟩
theorem glH (hc : CtxH G c X) {x : Str} (hx : glB c x = true) : Gl X x := by
  unfold glB at hx
  show X.env.scope.names.lookup x = _
  rw [hc.names]
  exact of_decide_eq_true hx
theorem cls_of (hc : CtxH G c X) {x : Str} (h : clsIn G x = true) : ∃ C, X.mg x = some (.ref C) := by
  obtain ⟨p, hp, q⟩ := List.any_eq_true.mp h
  obtain ⟨j, hj⟩ := List.getElem?_of_mem hp
  obtain ⟨y, fo⟩ := p
  have e : y = x := of_decide_eq_true q
  subst e
  obtain ⟨⟨C, _, _, hm, _⟩, _⟩ := hc.excs j y fo hj
  exact ⟨C, hm⟩
theorem flds_of (hc : CtxH G c X) {x : Str} {hx : HX} {C : Addr} (hm : X.mg x = some (.ref C)) (h : fldsIn G x hx = true) : ∀ f ∈ hx.flds, FldC X.K C f := by
  intro f hf
  obtain ⟨p, hp, q⟩ := List.any_eq_true.mp (List.all_eq_true.mp h f hf)
  obtain ⟨j, hj⟩ := List.getElem?_of_mem hp
  obtain ⟨y, fo⟩ := p
  simp only [Bool.and_eq_true, decide_eq_true_eq] at q
  obtain ⟨rfl, rfl⟩ := q
  obtain ⟨C1, h1, h2, h3⟩ := (hc.excs j y (some f) hj).2 f rfl
  rw [hm] at h1
  cases h1
  exact ⟨h2, h3⟩
/-- the clauses as ps_try_mix wants them, and what is wished of an error -/
theorem hs_ok (hc : CtxH G c X) {B Z : Addr → Prop} {m : List Addr} {H : Hp} {σ : L2.St} {ρ : Vars} {S S' : List Ob} {D : Ends} {r : SR} {cn : Str} {fs : List (Str × P)} {cls : Value} {d : Option Addr} : ∀ (hs : List (Str × Option Nat × HX)) (es : List ExceptHandler), ckHs G c hs es = true →
    ∃ l, ClsOk X es l ∧ ∀ {B Z : Addr → Prop} {m : List Addr} {H : Hp} {σ : L2.St} {ρ : Vars} {S S' : List Ob} {D : Ends} {r : SR} {cn : Str} {fs : List (Str × P)} {cls : Value} {d : Option Addr},
      SOk X.K X.gl B Z m H S → EnvOk X.K X.gl Z m H σ ρ → ExR X.K X.gl Z H cn fs cls d → runH G.exm cn fs hs ρ S = some (r, S') → GoalS X W B D Z m H r S' → wMix X.K W D l cls d σ H
  | [], es, h => by
    cases es with
    | cons _ _ => simp [ckHs] at h
    | nil =>
      refine ⟨[], .nil, fun s v x eq kk => ?_⟩
      simp only [runH] at eq
      cases eq
      exact kk _ _ _ Ext.refl s _ _ _ v x
  | (x, io, hx) :: hs, es, h => by
    unfold ckHs at h
    have suite : ∀ {io : Option Nat} {C : Addr} {e : Expr} {rp : Pos}, X.mg x = some (.ref C) → fldsIn G x hx = true → ckH c io hx e = true → SuiteOk X [.Return (some e) rp] (tsH X io x hx) := by
      intro io C e rp hm hfl hck a oe cls d pn hz hf
      exact pss_one (ps_ret (hx_ok hc.N hc.names hm (hc.blt _ (by decide)) hz hf hx e (flds_of hc hm hfl) hck))
    have step : ∀ {io : Option Nat} {C : Addr} {l : List Cl}, X.mg x = some (.ref C) →
        (∀ {B Z : Addr → Prop} {m : List Addr} {H : Hp} {σ : L2.St} {ρ : Vars} {S S' : List Ob} {D : Ends} {r : SR} {cn : Str} {fs : List (Str × P)} {cls : Value} {d : Option Addr},
          SOk X.K X.gl B Z m H S → EnvOk X.K X.gl Z m H σ ρ → ExR X.K X.gl Z H cn fs cls d → runH G.exm cn fs hs ρ S = some (r, S') → GoalS X W B D Z m H r S' → wMix X.K W D l cls d σ H) →
        ∀ {B Z : Addr → Prop} {m : List Addr} {H : Hp} {σ : L2.St} {ρ : Vars} {S S' : List Ob} {D : Ends} {r : SR} {cn : Str} {fs : List (Str × P)} {cls : Value} {d : Option Addr},
          SOk X.K X.gl B Z m H S → EnvOk X.K X.gl Z m H σ ρ → ExR X.K X.gl Z H cn fs cls d → runH G.exm cn fs ((x, io, hx) :: hs) ρ S = some (r, S') → GoalS X W B D Z m H r S' → wMix X.K W D ((.ref C, io, tsH X io x hx) :: l) cls d σ H := by
      intro io C l hm ih B Z m H σ ρ S S' D r cn fs cls d s v xr eq kk
      simp only [runH] at eq
      cases hl : G.exm.lookup (cn, x) with
      | none => rw [hl] at eq; cases eq
      | some b =>
        rw [hl] at eq
        obtain ⟨C1, C2, e1, e2, e3⟩ := hc.exm cn x b hl
        rw [hm] at e2
        cases e2
        have xr0 := xr
        obtain ⟨C3, f1, f2, f3⟩ := xr
        have f1' : X.mg cn = some (.ref C3) := f1
        rw [e1] at f1'
        cases f1'
        subst f2
        have go : ∀ (Ds : Ends) (τ : L2.St) (a : Addr), Ds.rt = D.rt → b = true → (∀ j, io = some j → j < ρ.length → τ[j]? = some (some (.ref a))) → tsH X io x hx a (.ref C1) d Ds τ H := by
          intro Ds τ a hD hb hτ
          subst hb
          simp only at eq
          split at eq
          · rename_i hs2
            cases hp : evH (cn == x) fs hx with
            | none => rw [hp] at eq; cases eq
            | some p =>
              rw [hp] at eq
              cases eq
              refine ⟨B, Z, m, S, cn, fs, p, s, fun j hj => hτ j hj ?_, xr0, hp, fun H' u e' s' ru => ?_⟩
              · subst hj
                exact of_decide_eq_true hs2
              · rw [hD]
                exact kk _ _ _ e' s' u (.p ru)
          · cases eq
        have no : b = false → wMix X.K W D l (.ref C1) d σ H := fun hb => by
          subst hb
          exact ih s v xr0 eq kk
        cases io with
        | none => exact ⟨b, e3, fun hb a _ => go D σ a rfl hb (fun j hj => by cases hj), no⟩
        | some i => exact ⟨b, e3, fun hb a _ => go (dropN i D) (σ.set i (some (.ref a))) a rfl hb (fun j hj hlt => by
            cases hj
            rw [List.getElem?_set_self (by rw [← v.1]; exact hlt)]), no⟩
    split at h <;> first | contradiction | skip
    · rename_i heq; cases heq
      simp only [Bool.and_eq_true, decide_eq_true_eq] at h
      obtain ⟨rfl, h2, h3, h4, h5, h6, h7⟩ := h
      obtain ⟨C, hm⟩ := cls_of hc h4
      obtain ⟨l, hl, ih⟩ := hs_ok (B := B) (Z := Z) (m := m) (H := H) (σ := σ) (ρ := ρ) (S := S) (S' := S') (D := D) (r := r) (cn := cn) (fs := fs) (cls := cls) (d := d) hc hs _ h7
      exact ⟨_, .plain ⟨glH hc h2, (okN_of h3).1, .inl hm⟩ (suite hm h5 h6) hl, step hm ih⟩
    · rename_i heq; cases heq
      simp only [Bool.and_eq_true, decide_eq_true_eq] at h
      obtain ⟨rfl, h2, h3, h4, h5, h6, h6', h7, h8⟩ := h
      obtain ⟨C, hm⟩ := cls_of hc h4
      obtain ⟨l, hl, ih⟩ := hs_ok (B := B) (Z := Z) (m := m) (H := H) (σ := σ) (ρ := ρ) (S := S) (S' := S') (D := D) (r := r) (cn := cn) (fs := fs) (cls := cls) (d := d) hc hs _ h8
      exact ⟨_, .named ⟨glH hc h2, (okN_of h3).1, .inl hm⟩ hc.nd (by rw [hc.N]; exact h6) (by show X.env.scope.names.lookup _ = _; rw [hc.names]; exact h6') (suite hm h5 h7) hl, step hm ih⟩
theorem OutS.go {W W' : WX} {D : Ends} {Z : Addr → Prop} {m : List Addr} {H : Hp} {f : Fl} {ρ : Vars} (h : OutS X W D Z m H (.go f ρ)) : OutS X W' D Z m H (.go f ρ) := by
  cases f <;> exact h
theorem ss_try {fb : FS} {body : List Stmt} {h0 : ExceptHandler} {es : List ExceptHandler} {hs : List (Str × Option Nat × HX)} {pos : Pos} (hc : CtxOk G Γ k c X W) (stk : X.stack = X.env :: X.outer) (frm : X.env.frame = some X.env.locals)
    (hb : ∀ (W' : WX) (pn : List (Addr × Obj)) (xe : Value → Shared → Prop), Takes (X.tr pn xe) W' → PassesOwn (model X.prog X.w) X.A X.env xe → SSs (X.tr pn xe) W' body fb) (h : ckHs G c hs (h0 :: es) = true) :
    SS X W (.Try body (h0 :: es) [] [] pos) (fTry G.exm fb hs) := by
  obtain ⟨l, hl, wish⟩ := hs_ok (B := fun _ => False) (Z := fun _ => False) (m := []) (H := fun _ => none) (σ := []) (ρ := []) (S := []) (S' := []) (D := ⟨fun _ _ => True, fun _ _ => True, fun _ _ => True, fun _ _ => True⟩) (r := .go .nx []) (cn := "") (fs := []) (cls := .none) (d := none) hc.h hs _ h
  refine ps_weak (ps_try_mix (tb := fun W' => tS X W' fb) stk frm hc.tk hb hl) fun D σ H ⟨B, Z, m, ρ, S, r, S', s, v, eq, kk⟩ => ?_
  unfold fTry at eq
  cases hf : fb ρ S with
  | none => rw [hf] at eq; cases eq
  | some q =>
    obtain ⟨r1, S1⟩ := q
    rw [hf] at eq
    refine ⟨B, Z, m, ρ, S, r1, S1, s, v, hf, fun Z' m' H' e' s' => ?_⟩
    cases r1 with
    | exc cn fs ρ1 => exact fun cls d τ v' xr => wish s' v' xr eq (kk.move e')
    | go f ρ1 =>
      cases eq
      exact OutS.go (kk Z' m' H' e' s')
end
/-! ### a def that calls what it is handed -/
def ckTold (G : Gc) (c : Cc) (a : Str) (hs : List (Str × Option Nat × HX)) : List Stmt → Bool
  | [.Try [.Return (some (.Call (.Name b _) [] [] _)) _] (h0 :: es) [] [] _] => decide (b = a) && ckHs G c hs (h0 :: es)
  | _ => false
theorem takesLen {X : Cx} {W : WX} (t : Takes X W) : Takes X (fun cls d σ H => σ.length = X.N.length → W cls d σ H) := fun u s' ⟨a, B, sI, pins, σ, H, cls, d, e, I, nb, up, sky, na, os, ag, w⟩ =>
  t u s' ⟨a, B, sI, pins, σ, H, cls, d, e, I, nb, up, sky, na, os, ag, w I.len⟩
section
variable {P0 : Program} {w : World} {K : PySem.W.Frag} {mg : Str → Option Value} {base : Heap} {G : Gc}
theorem told_ok {x a : Str} {st : Stmt} {g : Addr} {fd : FuncData} {Ng : List Str} {hs : List (Str × Option Nat × HX)} (blt : ∀ x ∈ bltNames, mg x = none)
    (excs : ∀ (j : Nat) (x : Str) (fo : Option Str), G.excs[j]? = some (x, fo) → XFact P0 w K mg base x fo ∧ (∀ f, fo = some f → ∃ C, mg x = some (.ref C) ∧ XfC K C ∧ PySem.W.findIn K (.ref C) f = some none))
    (exm : ∀ (x y : Str) (b : Bool), G.exm.lookup (x, y) = some b → ∃ C D, mg x = some (.ref C) ∧ mg y = some (.ref D) ∧ PySem.W.exmOne K (.ref C) (.ref D) = some b)
    (hm : mg x = some (.ref g)) (F0 : Fun K x x st g fd) (hb : Binds K fd [a] []) (SC : FnScope Ng [a] (defScope st)) (h0 : Ng[0]? = some a) (hv : Vis (defScope st) a) (hd : okN a = true) (cl : Cc) (cN : cl.N = Ng) (cn : cl.names = (defScope st).names)
    (h : ckTold G cl a hs (defBody st) = true) : ToldOk P0 w K mg base x (hfOf G.exm Ng.length hs) := by
  obtain ⟨oc, od, kV, doc, pm, an, cdv, ct, osl, e, lk, hcd⟩ := F0.ex
  subst e
  refine ⟨g, defArgs st, defBody st, defScope st, .none, kV, doc, pm, cdv, ct, oc, an, od, osl, Ng, a, hm, F0.kp, lk, hcd, hb, SC, h0, hv, (okN_of hd).1, (okN_of hd).2.1, fun X q e1 e2 e3 e4 e5 => ?_⟩
  obtain ⟨Xprog, Xw, Kf, Xmg, Xbase, XA, XN, Xs0, XH0, Xenv, Xouter, Xstack, Xex, Xfn, Xcalm, Xpn, Xxe⟩ := X
  dsimp only at e1 e2 e3 e4 e5
  subst e1 e2 e3 e4 e5
  intro f c' s H Q tl act hc0 hT
  have hNd : Ng.Nodup := SC.nd
  have hC : CtxH G cl (cxOf C8.CX0 Xprog Xw Kf Xmg Xbase Ng x (defScope st) g cdv XA Xstack s H C8.E0).nox := ⟨cN.symm, hNd, cn.symm, blt, excs, exm⟩
  have hst : (L2.start Ng [V.ref f])[0]? = some (some (V.ref f)) := rfl
  unfold ckTold at h
  split at h
  · rename_i b p1 p2 p3 e0 es p8 heq
    simp only [Bool.and_eq_true, decide_eq_true_eq] at h
    obtain ⟨rfl, h2⟩ := h
    obtain ⟨l, hl, wish⟩ := hs_ok (W := fun _ _ _ _ => False) (B := fun _ => False) (Z := fun _ => False) (m := []) (H := fun _ => none) (σ := []) (ρ := []) (S := []) (S' := []) (D := ⟨fun _ _ => True, fun _ _ => True, fun _ _ => True, fun _ _ => True⟩) (r := .go .nx []) (cn := "") (fs := []) (cls := .none) (d := none) hC hs _ h2
    rw [heq]
    refine ⟨_, pss_one (ps_try_mix (X := (cxOf C8.CX0 Xprog Xw Kf Xmg Xbase Ng x (defScope st) g cdv XA Xstack s H C8.E0).nox) (tb := fun W D σ H => ∃ Ech : XK, (∀ cls d σ' H', Ech cls d H' → σ'.length = Ng.length → W cls d σ' H') ∧ σ[0]? = some (some (.ref f)) ∧ H c' = some (LamX.CodeO c' q) ∧ tl Ech H D.rt)
      rfl rfl LamX.takes0 (fun W pn xe tk _ => ?_) hl), ?_⟩
    · refine ⟨fun pins s' σ H' D I h' => ?_⟩
      obtain ⟨Ech, hW, q1, q2, q3⟩ := h'
      have hp := act (fun cls d σ H => σ.length = Ng.length → W cls d σ H) pn xe Ech p1 p2 (takesLen tk) hW
      exact (pss_one (ps_ret (pos := p3) hp)).run pins s' σ H' D I ⟨q1, q2, q3⟩
    · refine ⟨wHF Kf ⟨Xmg, Xprog, Xw⟩ (hfOf G.exm Ng.length hs) Q, fun cls d σ' H' hw hlen => ?_, hst, hc0, hT⟩
      obtain ⟨B, Z, m, S, c0, fs, w0, S', s1, xr, hh, kk⟩ := hw
      unfold hfOf at hh
      split at hh
      · rename_i w1 ρ1 S1 hrun
        cases hh
        exact wish s1 (ρ := List.replicate Ng.length none) ⟨by rw [List.length_replicate, hlen], fun i w hi => by rw [List.getElem?_replicate] at hi; split at hi <;> cases hi⟩ xr hrun fun Z' m' H'' e' s' v rv => kk Z' m' H'' e' s' v rv
      · cases hh
  · cases h
end
end Wr

set_option maxHeartbeats 8000000
/-! B5: statements held against the small language, and a def by its text. -/
namespace Wr
open PySem PySem.Spec PyProof.Rows L2

def locS (c : Cc) (x : Str) : Bool := decide (c.names.lookup x = some .local)
def notTupV : Expr → Bool | .Tuple _ _ _ => false | _ => true
/-- one of the names is a cell: the stores are not swapped -/
def cellIn (c : Cc) (es : List Expr) : Bool := es.any fun
  | .Name x _ => decide (c.names.lookup x = some .cell)
  | _ => false
/-- y = v: is the store taken within a comprehension -/
def isLc : E → Bool
  | .lc _ _ _ _ _ _ => true
  | .lcn _ _ _ _ _ _ _ => true
  | _ => false
def swapY (c : Cc) (x : Str) (px : Pos) : Expr → Bool
  | .ListComp _ _ scope pos => locS c x && (decide (px.line = pos.line) && !(scope.names.any fun (n, k) => n == x && (k == .local || k == .cell)))
  | _ => false
def celY (c : Cc) (x : Str) : Expr → Bool
  | .ListComp _ _ _ _ => decide (c.names.lookup x = some .cell)
  | .DictComp _ _ _ _ _ => decide (c.names.lookup x = some .cell)
  | e => notComp e
section
variable (G : Gc)
mutual
def ckS : Cc → S → Stmt → Bool
  | c, .expr e, .Expr x _ => notComp x && ckE G c e x
  | c, .pass, .Pass _ => true
  | c, .pass, .Expr (.Constant (.str _) _ _) _ => true
  | c, .brk, .Break _ => true
  | c, .cont, .Continue _ => true
  | c, .ret e, .Return (some x) _ => ckE G c e x
  | c, .retN, .Return none _ => true
  | c, .ifs t a b, .If x p q _ => ckT G c t x && (ckSs c a p && ckSs c b q)
  | c, .fors g it b, .For tg x p [] _ => notSet x && (ckI G c tg it x && (ckTg c g tg && ckSs c b p))
  | c, .whl t b, .While x p [] _ => ckT G c t x && ckSs c b p
  | c, .asg (.nm i) e, .Assign [.Name x px] y _ => decide (c.N[i]? = some x) && (locB c x && (ckE G c e y && (celY c x y || (isLc e && swapY c x px y))))
  | c, .asg (.tup is) e, .Assign [.Tuple es k p] y _ => ckTg c (.tup is) (.Tuple es k p) && (ckE G c e y && (notTupV y || cellIn c es))
  | c, .rais0 j, .Raise (some (.Call (.Name x _) [] [] _)) none _ => (match G.excs[j]? with | some (y, none) => decide (y = x) | _ => false) && (glB c x && okN x)
  | c, .rais1 j e, .Raise (some (.Call (.Name x _) [y] [] _)) none _ => (match G.excs[j]? with | some (z, some _) => decide (z = x) | _ => false) && (glB c x && (okN x && (notStar y && ckE G c e y)))
  | c, .tryR b hs, .Try body (h0 :: es) [] [] _ => ckSs c b body && ckHs G c hs (h0 :: es)
  | c, .par i j a b, .Assign [.Tuple [.Name x px, .Name y py] _ _] (.Tuple [x1, y1] _ _) _ => decide (c.N[i]? = some x) && (decide (c.N[j]? = some y) && (decide (i ≠ j) && (decide (x ≠ y) && (decide (px.line = py.line) && (locS c x && (locS c y &&
      (!(([x1, y1] : List Expr).all (foldedForSure 8)) && (!(([x1, y1] : List Expr).all (constantsAlone 8)) && (notStar x1 && (notStar y1 && (ckE G c a x1 && ckE G c b y1)))))))))))
  | c, .seti o i v, .Assign [.Subscript x y _] z _ => notSlice y && (ckE G c o x && (ckE G c i y && ckE G c v z))
  | _, _, _ => false
def ckSs : Cc → Ss → List Stmt → Bool
  | _, .nil, [] => true
  | c, .cons s r, x :: xs => ckS c s x && ckSs c r xs
  | _, _, _ => false
end
end

section
variable {X : Cx}
def starB (e : Expr) : Bool := match e with | .Starred .. => true | _ => false
theorem starB0 {e : Expr} (h : notStar e = true) : starB e = false := by
  cases e <;> first | rfl | (simp [notStar] at h)
theorem locS_of {c : Cc} {x : Str} (hn : X.env.scope.names = c.names) (h : locS c x = true) : X.env.scope.names.lookup x = some .local := by
  rw [hn]
  exact of_decide_eq_true h
theorem swt0 {t y : Expr} {l : Nat} (h : (match t with | .Name _ _ => false | _ => true) = true) : swapsWithSole [t] y l X.env = pure false := by
  show swapsWith y (some t) l X.env = _
  cases t <;> first | (simp at h; done) | (cases y <;> rfl)
theorem sws0 {ts : List Expr} {y : Expr} (h : notTupV y = true) : swappedStores ts y X.env = pure none := by
  unfold swappedStores
  cases y <;> first | (simp [notTupV] at h; done) | skip
  all_goals
    split
    · rename_i heq
      split at heq <;> contradiction
    · rfl
theorem fm_lt {α β : Type} (f : α → Option β) : ∀ {l : List α} {x : α}, x ∈ l → f x = none → (l.filterMap f).length < l.length
  | a :: r, x, h, e => by
    rw [List.filterMap_cons, List.length_cons]
    have le : (r.filterMap f).length ≤ r.length := List.length_filterMap_le _ _
    rcases List.mem_cons.mp h with q | q
    · rw [← q, e]
      exact Nat.lt_succ_of_le le
    · have ih := fm_lt f q e
      cases f a with
      | none => exact Nat.lt_succ_of_lt ih
      | some b => exact Nat.succ_lt_succ ih
theorem sws_cell {c : Cc} {es : List Expr} {y : Expr} {k : Nat} {p : Pos} (hn : X.env.scope.names = c.names) (h : cellIn c es = true) : swappedStores [.Tuple es k p] y X.env = pure none := by
  unfold swappedStores
  cases y <;> first | rfl | skip
  rename_i vs k2 p2
  have lt : (es.filterMap fun
      | .Name id pos => if X.env.kindOf id == some .local && pos.line == ((es.head?.map (·.pos.line)).getD 0) then some id else none
      | _ => none).length < es.length := by
    obtain ⟨e, he, q⟩ := List.any_eq_true.mp h
    refine fm_lt _ he ?_
    split at q
    · rename_i x px
      have q := of_decide_eq_true q
      have e2 : (X.env.kindOf x == some NameKind.local) = false := by
        rw [show X.env.kindOf x = X.env.scope.names.lookup x from rfl, hn, q]
        rfl
      simp only [e2, Bool.false_and, Bool.false_eq_true, if_false]
    · cases q
  dsimp only
  split
  · rfl
  · split
    · rfl
    · refine if_pos ?_
      rw [Bool.or_eq_true]
      exact .inl (bne_iff_ne.mpr (Nat.ne_of_lt lt))
theorem assign_sub {o i : Expr} {tpos : Pos} (h : notSlice i = true) (v : Value) : assign (.Subscript o i tpos) X.env v = (do
      let ov ← holding [v] (eval o X.env)
      let iv ← holding [v, ov] (eval i X.env)
      standAt tpos
      holding [v, ov, iv] (setItem ov iv v)
      release [v, ov, iv] []) := by
  cases i <;> first | rfl | (simp [notSlice] at h)
theorem kindOf_eq (env : Env) (x : Str) : env.kindOf x = env.scope.names.lookup x := rfl
theorem sw_cell {x : Str} {y : Expr} {px : Pos} {l : Nat} {c : Cc} (hn : X.env.scope.names = c.names) (h : celY c x y = true) : swapsWith y (some (.Name x px)) l X.env = pure false := by
  unfold celY at h
  split at h
  · rename_i elt gs scope pos
    have q := of_decide_eq_true h
    rw [← hn] at q
    unfold swapsWith
    have e : (X.env.kindOf x == some NameKind.local) = false := by
      rw [kindOf_eq, q]
      rfl
    simp only [e, Bool.and_false, Bool.false_and]
  · rename_i kx vx gs scope pos
    have q := of_decide_eq_true h
    rw [← hn] at q
    unfold swapsWith
    have e : (X.env.kindOf x == some NameKind.local) = false := by
      rw [kindOf_eq, q]
      rfl
    simp only [e, Bool.and_false, Bool.false_and]
  · exact swaps0 _ _ h
theorem par_sw {x y : Str} {px py pt pt2 : Pos} {kt k2} {x1 y1 : Expr} (hk : X.env.scope.kind = .function) (h1 : X.env.scope.names.lookup x = some .local) (h2 : X.env.scope.names.lookup y = some .local) (hl : px.line = py.line) (hne : x ≠ y)
    (hf : ([x1, y1] : List Expr).all (foldedForSure 8) = false) (hcst : ([x1, y1] : List Expr).all (constantsAlone 8) = false) (s1 : notStar x1 = true) (s2 : notStar y1 = true) :
    swappedStores [.Tuple [.Name x px, .Name y py] kt pt] (.Tuple [x1, y1] k2 pt2) X.env = pure (some [x, y]) := by
  have kx : (X.env.kindOf x == some NameKind.local) = true := by rw [kindOf_eq, h1]; rfl
  have ky : (X.env.kindOf y == some NameKind.local) = true := by rw [kindOf_eq, h2]; rfl
  have hb : X.env.blockKind = .function := by unfold Env.blockKind; rw [hk]; rfl
  have st : ¬ ([x1, y1] : List Expr).any starB = true := by
    simp only [List.any_cons, List.any_nil, starB0 s1, starB0 s2, Bool.or_self, Bool.false_eq_true, not_false_eq_true]
  have hne' : (y == x) = false := by simpa using Ne.symm hne
  have e2 : (([x, y] : List Str).eraseDups.length != 0 + 1 + 1) = false := by
    simp only [List.eraseDups_cons, List.filter_cons, List.filter_nil, hne', Bool.not_false, if_true, List.eraseDups_nil, List.length_cons, List.length_nil]
    rfl
  unfold swappedStores
  simp only [hb, List.length_cons, List.length_nil, List.head?_cons, Option.map_some, Option.getD_some, Expr.pos, hf, hcst, List.filterMap_cons, List.filterMap_nil, kx, ky, hl, beq_self_eq_true, Bool.and_self, Bool.true_and, if_true, e2]
  rw [if_neg (by decide)]
  refine Eq.trans (if_neg st) ?_
  rw [if_neg (by decide), if_neg (by decide), if_neg (by decide)]
end
section
variable {G : Gc} {Γ : List Fm} {k : Nat}
theorem sndLc {e : E} {i : Nat} {x : Str} {px pos : Pos} {y : Expr} {c : Cc} {X : Cx} {W : WX} (hc : CtxOk G Γ k c X W) (h1 : c.N[i]? = some x) (h3 : ckE G c e y = true) (h4 : isLc e = true ∧ swapY c x px y = true) :
    SS X W (.Assign [.Name x px] y pos) (fAsg (evE G Γ e) (gNm i)) := by
  obtain ⟨h0, h4⟩ := h4
  unfold swapY at h4
  split at h4
  · rename_i elt gs scope yp
    simp only [Bool.and_eq_true, decide_eq_true_eq, Bool.not_eq_true'] at h4
    obtain ⟨h5, h6, h7⟩ := h4
    have lx := locS_of hc.names h5
    have hsw : ∀ l, swapsWith (.ListComp elt gs scope yp) (some (.Name x px)) l X.env = pure true := fun l => sw_true hc.kind lx (by rw [h6]; exact beq_self_eq_true _) h7
    cases e <;> first | (simp [isLc] at h0; done) | skip
    · unfold ckE at h3; (split at h3 <;> first | contradiction | skip)
      rename_i heq heq2; cases heq; cases heq2
      simp only [Bool.and_eq_true] at h3
      obtain ⟨h1', h2, h3, h4, h5, h6, h7⟩ := h3
      have ok := blk_of (sc := X.env.scope) hc.names h1'
      unfold evE
      refine ss_setLc hc.calm hc.nd (by rw [hc.N]; exact h1) lx (hsw _) (sndI _ hc _ _ h2) (by rw [hc.N]; exact ok) (fun j hj => ?_) (fun s H C cl fp => tg_ok (hc.block s H _ ok.kind C cl fp) _ _ h4) (fun s H C cl fp => ?_) (fun s H C cl fp => sndE _ (hc.block s H _ ok.kind C cl fp) _ h7) (folded0 h3)
      · exact of_decide_eq_true (List.all_eq_true.mp h5 j hj)
      · split at h6
        · cases yes_of h6
          unfold evT
          exact sts_nil
        · exact sts_one (sndT _ (hc.block s H _ ok.kind C cl fp) _ h6)
        · cases h6
    · rename_i own nms g it t cs e
      unfold ckE at h3; (split at h3 <;> first | contradiction | skip)
      rename_i heq heq2; cases heq; cases heq2
      simp only [Bool.and_eq_true] at h3
      obtain ⟨h1', h2, h3, h4, h5, h6, h7, h8⟩ := h3
      have ok := blk_of (sc := X.env.scope) hc.names h1'
      unfold evE
      refine ss_setLcN (c := ⟨evI G Γ it, evTg g, g.slots, evT G Γ t⟩) hc.calm hc.nd (by rw [hc.N]; exact h1) lx (hsw _) (sndI it hc _ _ h2) (by rw [hc.N]; exact ok) (fun j hj => of_decide_eq_true (List.all_eq_true.mp h5 j hj)) (sndCsI cs _ h7) (fun s H C cl fp => tg_ok (hc.block s H _ ok.kind C cl fp) g _ h4)
        (fun s H C cl fp => ?_) (fun s H C cl fp => sndCs cs (hc.block s H _ ok.kind C cl fp) _ h7 (sndE e (hc.block s H _ ok.kind C cl fp) _ h8)) (folded0 h3)
      split at h6
      · cases yes_of h6
        unfold evT
        exact sts_nil
      · exact sts_one (sndT t (hc.block s H _ ok.kind C cl fp) _ h6)
      · cases h6
  · cases h4
/-- the frame of a def -/
structure FrOk (X : Cx) : Prop where
  stk : X.stack = X.env :: X.outer
  frm : X.env.frame = some X.env.locals
mutual
theorem sndS (n : Nat) : (s : S) → {c : Cc} → {X : Cx} → {W : WX} → CtxOk G Γ k c X W → FrOk X → PassesOwn (model X.prog X.w) X.A X.env X.xe → (st : Stmt) → ckS G c s st = true → SS X W st (evS G Γ n s)
  | .expr e, c, X, W, hc, hk, hp, st, h => by
    unfold ckS at h; (split at h <;> first | contradiction | skip)
    rename_i heq; cases heq
    simp only [Bool.and_eq_true] at h
    unfold evS
    exact ss_expr (sndE e hc _ h.2) (swaps0 _ _ h.1)
  | .pass, c, X, W, hc, hk, hp, st, h => by
    unfold ckS at h; (split at h <;> first | contradiction | skip)
    · unfold evS; exact ss_pass
    · unfold evS; exact ss_doc
  | .brk, c, X, W, hc, hk, hp, st, h => by
    unfold ckS at h; (split at h <;> first | contradiction | skip)
    unfold evS; exact ss_break
  | .cont, c, X, W, hc, hk, hp, st, h => by
    unfold ckS at h; (split at h <;> first | contradiction | skip)
    unfold evS; exact ss_continue
  | .ret e, c, X, W, hc, hk, hp, st, h => by
    unfold ckS at h; (split at h <;> first | contradiction | skip)
    rename_i heq; cases heq
    unfold evS; exact ss_ret (sndE e hc _ h)
  | .retN, c, X, W, hc, hk, hp, st, h => by
    unfold ckS at h; (split at h <;> first | contradiction | skip)
    unfold evS; exact ss_retN
  | .ifs t a b, c, X, W, hc, hk, hp, st, h => by
    unfold ckS at h; (split at h <;> first | contradiction | skip)
    rename_i heq; cases heq
    simp only [Bool.and_eq_true] at h
    obtain ⟨h1, h2, h3⟩ := h
    unfold evS
    exact ss_if (sndT t hc _ h1) (sndSs n a hc hk hp _ h2) (sndSs n b hc hk hp _ h3)
  | .fors g it b, c, X, W, hc, hk, hp, st, h => by
    unfold ckS at h; (split at h <;> first | contradiction | skip)
    rename_i heq; cases heq
    simp only [Bool.and_eq_true] at h
    obtain ⟨h1, h2, h3, h4⟩ := h
    unfold evS
    exact ss_for hp hc.calm (sndI it hc _ _ h2) (tg_ok hc g _ h3) (sndSs n b hc hk hp _ h4) (folded0 h1)
  | .whl t b, c, X, W, hc, hk, hp, st, h => by
    unfold ckS at h; (split at h <;> first | contradiction | skip)
    rename_i heq; cases heq
    simp only [Bool.and_eq_true] at h
    obtain ⟨h1, h2⟩ := h
    unfold evS
    exact ss_while hp (sndT t hc _ h1) (sndSs n b hc hk hp _ h2)
  | .asg (.nm i) e, c, X, W, hc, hk, hp, st, h => by
    unfold ckS at h
    split at h <;> first | contradiction | (rename_i heq; injection heq with z1 z2; contradiction) | skip
    rename_i heq; cases heq
    simp only [Bool.and_eq_true, decide_eq_true_eq, Bool.or_eq_true] at h
    obtain ⟨h1, h2, h3, h4⟩ := h
    obtain ⟨q1, q2⟩ := loc_of hc h2
    unfold evS evTg
    rcases h4 with h4 | h4
    · exact ss_set hc.nd (by rw [hc.N]; exact h1) q1 q2 (sndE e hc _ h3) (sw_cell hc.names h4)
    · exact sndLc hc h1 h3 h4
  | .asg (.tup is) e, c, X, W, hc, hk, hp, st, h => by
    unfold ckS at h
    split at h <;> first | contradiction | (rename_i heq; injection heq with z1 z2; contradiction) | skip
    rename_i heq; cases heq
    simp only [Bool.and_eq_true] at h
    obtain ⟨h1, h2, h3⟩ := h
    unfold evS
    rcases (Bool.or_eq_true _ _).mp h3 with h3 | h3
    · exact ss_asg (sndE e hc _ h2) (tg_ok hc (.tup is) _ h1) (swt0 rfl) (sws0 h3) rfl
    · exact ss_asg (sndE e hc _ h2) (tg_ok hc (.tup is) _ h1) (swt0 rfl) (sws_cell hc.names h3) rfl
  | .par i j a b, c, X, W, hc, hk, hp, st, h => by
    unfold ckS at h; (split at h <;> first | contradiction | skip)
    rename_i heq; cases heq
    simp only [Bool.and_eq_true, decide_eq_true_eq, Bool.not_eq_true'] at h
    obtain ⟨h1, h2, h3, h4, h5, h6, h7, h8, h9, g1, g2, g3, g4⟩ := h
    have l6 := locS_of hc.names h6
    have l7 := locS_of hc.names h7
    unfold evS
    exact ss_par hc.calm hc.nd (by rw [hc.N]; exact h1) (by rw [hc.N]; exact h2) h3 l6 l7 (sa_cons (sndE a hc _ g3) (sa_cons (sndE b hc _ g4) sa_nil (star1 g2)) (star1 g1)) (par_sw hc.kind l6 l7 h5 h4 h8 h9 g1 g2) (swt0 rfl)
  | .rais0 j, c, X, W, hc, hk, hp, st, h => by
    unfold ckS at h; (split at h <;> first | contradiction | skip)
    rename_i heq; cases heq
    simp only [Bool.and_eq_true] at h
    obtain ⟨h1, h2, h3⟩ := h
    split at h1
    · rename_i y hj
      cases of_decide_eq_true h1
      unfold evS
      simp only [hj]
      exact ss_raise0 hc.calm hc.tk (hc.room.mono hc.lev) (hc.excs _ _ _ hj).1 (gl_of hc h2) (okN_of h3).1
    · cases h1
  | .rais1 j e, c, X, W, hc, hk, hp, st, h => by
    unfold ckS at h; (split at h <;> first | contradiction | skip)
    rename_i heq; cases heq
    simp only [Bool.and_eq_true] at h
    obtain ⟨h1, h2, h3, h4, h5⟩ := h
    split at h1
    · rename_i y f hj
      cases of_decide_eq_true h1
      unfold evS
      simp only [hj]
      exact ss_raise1 hc.calm hc.tk (hc.room.mono hc.lev) (hc.excs _ _ _ hj).1 (gl_of hc h2) (okN_of h3).1 (sndE e hc _ h5) (star1 h4)
    · cases h1
  | .tryR b hs, c, X, W, hc, hk, hp, st, h => by
    unfold ckS at h; (split at h <;> first | contradiction | skip)
    rename_i heq; cases heq
    simp only [Bool.and_eq_true] at h
    unfold evS
    exact ss_try hc hk.stk hk.frm (fun W' pn xe tk po => sndSs n b (hc.tr tk) ⟨hk.stk, hk.frm⟩ po _ h.1) h.2
  | .seti o i v, c, X, W, hc, hk, hp, st, h => by
    unfold ckS at h; (split at h <;> first | contradiction | skip)
    rename_i heq; cases heq
    simp only [Bool.and_eq_true] at h
    obtain ⟨h1, h2, h3, h4⟩ := h
    unfold evS
    refine ss_seti (by have := hc.room.un; omega) (sndE v hc _ h4) (sndE o hc _ h2) (sndE i hc _ h3) (swt0 rfl) ?_ rfl (assign_sub h1)
    unfold swappedStores
    rfl
theorem sndSs (n : Nat) : (s : Ss) → {c : Cc} → {X : Cx} → {W : WX} → CtxOk G Γ k c X W → FrOk X → PassesOwn (model X.prog X.w) X.A X.env X.xe → (sts : List Stmt) → ckSs G c s sts = true → SSs X W sts (evSs G Γ n s)
  | .nil, c, X, W, hc, hk, hp, sts, h => by
    cases sts with
    | nil => unfold evSs; exact ss_nil
    | cons x xs => simp [ckSs] at h
  | .cons s r, c, X, W, hc, hk, hp, sts, h => by
    cases sts with
    | nil => simp [ckSs] at h
    | cons x xs =>
      unfold ckSs at h
      simp only [Bool.and_eq_true] at h
      unfold evSs
      exact ss_cons (sndS n s hc hk hp _ h.1) (sndSs n r hc hk hp _ h.2)
end
end
/-! ### a def by its text -/
/-- what holds of the module's names, at the level of its calls -/
structure ModOk (P0 : Program) (w : World) (K : PySem.W.Frag) (mg : Str → Option Value) (base : Heap) (G : Gc) (Γ : List Fm) (k : Nat) : Prop where
  blt : ∀ x ∈ bltNames, mg x = none
  vals : ∀ (j : Nat) (x : Str) (p : P), G.vals[j]? = some (x, p) → ∃ v u, mg x = some u ∧ RelV v u ∧ ∀ Z H, Rp K ⟨mg, P0, w⟩ Z H v p
  lev : 2 ≤ k
  excs : ∀ (j : Nat) (x : Str) (fo : Option Str), G.excs[j]? = some (x, fo) → XFact P0 w K mg base x fo ∧ (∀ f, fo = some f → ∃ C, mg x = some (.ref C) ∧ XfC K C ∧ PySem.W.findIn K (.ref C) f = some none)
  exm : ∀ (x y : Str) (b : Bool), G.exm.lookup (x, y) = some b → ∃ C D, mg x = some (.ref C) ∧ mg y = some (.ref D) ∧ PySem.W.exmOne K (.ref C) (.ref D) = some b
  fns : ∀ (j : Nat) (x : Str) (n : Nat) (f : Fm), G.fns[j]? = some (x, n) → Γ[j]? = some f → ∃ fa fd ps, mg x = some (.ref fa) ∧ PySem.W.keepIn K (.ref fa) = true ∧ Binds K fd ps [] ∧ FnOk P0 w K mg base (L2.CX P0 w) k fa fd ps (spF K ⟨mg, P0, w⟩ n f)
  tolds : ∀ (j : Nat) (x : Str) (n : Nat) (hs : List (Str × Option Nat × HX)), G.tolds[j]? = some (x, n, hs) → ToldOk P0 w K mg base x (hfOf G.exm n hs)
  lamT : ∀ (c P : Addr) (q : Str), tabAt K c = some (P, q) → LamX.TabB base mg c P ∧ (P, q) ∈ tabsOf K ∧ ∀ p ∈ tabsOf K, p.1 = P → p.2 = q
/-- the surroundings of a def's body -/
def ccOf (N : List Str) (sc : Scope) (lam : Bool := false) : Cc := { N := N, names := sc.names, tg := sc.names, lam := lam }
/-- the def's code object has a table of its own -/
def LamAt (K : PySem.W.Frag) (qual : Str) (cdv : Value) : Prop := ∃ c P, cdv = .ref c ∧ tabAt K c = some (P, (qual ++ ".<locals>.") ++ "<lambda>")
theorem ctx_of {P0 : Program} {w : World} {K : PySem.W.Frag} {mg : Str → Option Value} {base : Heap} {G : Gc} {Γ : List Fm} {k : Nat} (M : ModOk P0 w K mg base G Γ k) {qual : Str} {sc : Scope} {fa : Addr} {N ps : List Str} (SC : FnScope N ps sc)
    (cdv : Value) (lam : Bool) (hl : lam = true → LamAt K qual cdv) (A : Around) (outer : List Env) (s : Shared) (H : Hp) (E : XK) (hr : Room (k + 2) (A.deeper (envOfC qual sc s.heap.objs.size fa cdv))) :
    CtxOk G Γ k (ccOf N sc lam) (cxOf (L2.CX P0 w) P0 w K mg base N qual sc fa cdv A outer s H E) (fun cls d _ H => E cls d H) where
  N := rfl
  nd := SC.nd
  names := rfl
  kind := SC.kind
  tgL := fun x h => h
  tgC := fun x h => ⟨h, rfl⟩
  calm := rfl
  room := hr.mono (by omega)
  tk := takes_of rfl rfl rfl rfl
  blt := M.blt
  vals := M.vals
  fns := M.fns
  lev := M.lev
  excs := M.excs
  exm := M.exm
  tolds := M.tolds
  lam := fun e => ⟨by
    obtain ⟨c, P, h1, h2⟩ := hl e
    obtain ⟨h3, h4, h5⟩ := M.lamT c P _ h2
    exact ⟨c, P, h1, h3, h4, h5⟩, hr⟩
/-- THE RULE: a def whose text is held against the small language does what that is worth -/
theorem def_snd {P0 : Program} {w : World} {K : PySem.W.Frag} {mg : Str → Option Value} {base : Heap} {G : Gc} {Γ : List Fm} {k : Nat} (M : ModOk P0 w K mg base G Γ k) {x qual : Str} {st : Stmt} {fa : Addr} {fd : FuncData} {N ps : List Str} {n : Nat}
    (F0 : Fun K x qual st fa fd) (SC : FnScope N ps (defScope st)) (hn : ps.length = n) (ss : Ss) (fuel : Nat) (lam : Bool) (hl : lam = true → LamAt K qual fd.code) (h : ckSs G (ccOf N (defScope st) lam) ss (defBody st) = true) :
    FnOk P0 w K mg base (L2.CX P0 w) (k + 3) fa fd ps (spF K ⟨mg, P0, w⟩ n (defF N.length (evSs G Γ fuel ss))) :=
  def_ok (k := k + 2) F0 SC hn fun cdv hcd A outer s H E hr => sndSs fuel ss (ctx_of M SC cdv lam (fun e => hcd ▸ hl e) A outer s H E hr) ⟨rfl, rfl⟩ (passes_of rfl) _ h
end Wr

set_option maxHeartbeats 4000000
/-! C3: all defs of a program, by the levels of their calls. -/
namespace Wr
open PySem PySem.Spec PyProof.Rows L2 ClX

/-- a def: its name, its slots, its parameters, its text -/
structure Df where
  name : Str
  N : List Str
  ps : List Str
  ss : Ss
  lam : Bool := false
/-- what the defs are worth, calls nested at most so deep; fuel: the most turns of a while -/
def Gam (G : Gc) (ds : List Df) (fuel : Nat) : Nat → List Fm
  | 0 => []
  | k + 1 => ds.map fun d => defF d.N.length (evSs G (Gam G ds fuel k) fuel d.ss)
section
variable {P0 : Program} {w : World} {K : PySem.W.Frag} {mg : Str → Option Value} {base : Heap} {G : Gc} {ds : List Df} {fuel : Nat}
/-- the text of a def stands at the top as it is held against the small language -/
structure DfAt (G : Gc) (K : PySem.W.Frag) (mg : Str → Option Value) (d : Df) (st : Stmt) : Prop where
  ex : ∃ fa fd, mg d.name = some (.ref fa) ∧ Fun K d.name d.name st fa fd ∧ Binds K fd d.ps [] ∧ (d.lam = true → LamAt K d.name fd.code)
  sc : FnScope d.N d.ps (defScope st)
  ck : ckSs G (ccOf d.N (defScope st) d.lam) d.ss (defBody st) = true
/-- what does not hang on the level -/
structure TopOk (P0 : Program) (w : World) (K : PySem.W.Frag) (mg : Str → Option Value) (base : Heap) (G : Gc) (ds : List Df) : Prop where
  blt : ∀ x ∈ bltNames, mg x = none
  vals : ∀ (j : Nat) (x : Str) (p : P), G.vals[j]? = some (x, p) → ∃ v u, mg x = some u ∧ RelV v u ∧ ∀ Z H, Rp K ⟨mg, P0, w⟩ Z H v p
  excs : ∀ (j : Nat) (x : Str) (fo : Option Str), G.excs[j]? = some (x, fo) → XFact P0 w K mg base x fo ∧ (∀ f, fo = some f → ∃ C, mg x = some (.ref C) ∧ XfC K C ∧ PySem.W.findIn K (.ref C) f = some none)
  exm : ∀ (x y : Str) (b : Bool), G.exm.lookup (x, y) = some b → ∃ C D, mg x = some (.ref C) ∧ mg y = some (.ref D) ∧ PySem.W.exmOne K (.ref C) (.ref D) = some b
  tolds : ∀ (j : Nat) (x : Str) (n : Nat) (hs : List (Str × Option Nat × HX)), G.tolds[j]? = some (x, n, hs) → ToldOk P0 w K mg base x (hfOf G.exm n hs)
  lamT : ∀ (c P : Addr) (q : Str), tabAt K c = some (P, q) → LamX.TabB base mg c P ∧ (P, q) ∈ tabsOf K ∧ ∀ p ∈ tabsOf K, p.1 = P → p.2 = q
  names : G.fns = ds.map fun d => (d.name, d.ps.length)
  defs : ∀ d ∈ ds, ∃ st, DfAt G K mg d st
theorem fm_ok (T : TopOk P0 w K mg base G ds) : ∀ k, ModOk P0 w K mg base G (Gam G ds fuel k) (3 * k + 2)
  | 0 => ⟨T.blt, T.vals, Nat.le_refl _, T.excs, T.exm, fun j x n f _ h => by simp [Gam] at h, T.tolds, T.lamT⟩
  | k + 1 => by
    have M := fm_ok T k
    refine ⟨T.blt, T.vals, by omega, T.excs, T.exm, fun j x n f h1 h2 => ?_, T.tolds, T.lamT⟩
    rw [T.names, List.getElem?_map] at h1
    have h2' : (ds.map fun d => defF d.N.length (evSs G (Gam G ds fuel k) fuel d.ss))[j]? = some f := h2
    rw [List.getElem?_map] at h2'
    cases hd : ds[j]? with
    | none => rw [hd] at h1; cases h1
    | some d =>
      rw [hd] at h1 h2'
      cases h1
      cases h2'
      obtain ⟨st, q⟩ := T.defs d (List.mem_of_getElem? hd)
      obtain ⟨fa, fd, hm, F0, hb, hl⟩ := q.ex
      exact ⟨fa, fd, d.ps, hm, F0.kp, hb, def_snd M F0 q.sc rfl d.ss fuel d.lam hl q.ck⟩
/-- THE RULE for a def of the program: what it does -/
theorem df_ok (T : TopOk P0 w K mg base G ds) (k : Nat) {d : Df} (hd : d ∈ ds) : ∃ fa fd, mg d.name = some (.ref fa) ∧ Binds K fd d.ps [] ∧ FnOk P0 w K mg base (L2.CX P0 w) (3 * k + 5) fa fd d.ps (spF K ⟨mg, P0, w⟩ d.ps.length (defF d.N.length (evSs G (Gam G ds fuel k) fuel d.ss))) := by
  obtain ⟨st, q⟩ := T.defs d hd
  obtain ⟨fa, fd, hm, F0, hb, hl⟩ := q.ex
  exact ⟨fa, fd, hm, hb, def_snd (fm_ok T k) F0 q.sc rfl d.ss fuel d.lam hl q.ck⟩
end
end Wr

set_option maxHeartbeats 4000000
/-! C4: what the top has written, asked by booleans. -/
namespace Wr
open PySem PySem.Spec PyProof.Rows L2 ClX He

/-- an own exception class over ValueError with an own __init__ -/
def clsB (K : PySem.W.Frag) (C : Addr) : Bool := match K.lookup C with
  | some ⟨.type "type", _, .cls cd, sl⟩ => (match cd.mro, sl.toList with
    | .ref C' :: bm, [_, _, _, _, some (.builtin n), _] => decide (C' = C) && (decide (n = "ValueError.__new__") && (!cd.hasDel && (cd.hasDict && PySem.HandSPX.refsVE bm)))
    | _, _ => false)
  | _ => false
theorem clsB_ok {K : PySem.W.Frag} {C : Addr} (h : clsB K C = true) : ∃ nm q N bs bm sn sub ab col dd k0 k1 k2 k3 k5, K.lookup C = some (excClassObj nm q C N bs bm true sn sub ab col dd k0 k1 k2 k3 k5 "ValueError.__new__") ∧ PySem.HandSPX.refsVE bm = true := by
  unfold clsB at h
  split at h
  · rename_i dd cd sl ho
    split at h
    · rename_i C' bm k0 k1 k2 k3 n k5 hm hs
      simp only [Bool.and_eq_true, decide_eq_true_eq, Bool.not_eq_true'] at h
      obtain ⟨rfl, rfl, g1, g2, g3⟩ := h
      obtain ⟨nm, bs, mro, ns, qn, hd, sn, sub, ab, col, del⟩ := cd
      dsimp only at hm g1 g2
      subst hm
      subst g1
      subst g2
      have es : sl = #[k0, k1, k2, k3, some (.builtin "ValueError.__new__"), k5] := by
        obtain ⟨l⟩ := sl
        simp only at hs
        rw [hs]
      subst es
      exact ⟨nm, qn, ns, bs, bm, sn, sub, ab, col, dd, k0, k1, k2, k3, k5, ho, g3⟩
    · cases h
  · cases h
/-- all that is asked of an own exception class: its name, its field, its base -/
def xcB (K : PySem.W.Frag) (x : Str) (fo : Option Str) (b : Str) : Bool :=
  eqO (PySem.W.nsIn K mainGlobals x) (some (some (.ref (ga K x)))) && (clsB K (ga K x) && (eqO (PySem.W.findIn K (.ref (ga K x)) "__setattr__") (some (some (.builtin "object.__setattr__"))) &&
    (decide (PySem.W.subIn K (.ref (ga K x)) (.type "BaseException") = some true) && (decide (PySem.W.typeIn K (.ref (ga K x)) = some (.type "type")) && (PySem.W.keepIn K (.ref (ga K x)) &&
    (eqO (PySem.W.findIn K (.ref (ga K x)) "__init__") (some (some (.ref (ma K (ga K x) "__init__")))) && (decide (PySem.W.typeIn K (.ref (ma K (ga K x) "__init__")) = some (.type "function")) &&
    (xfB K (ga K x) && ((match fo with | some f => eqO (PySem.W.findIn K (.ref (ga K x)) f) (some none) | none => true) &&
    (eqO (PySem.W.nsIn K mainGlobals b) (some (some (.ref (ga K b)))) && (PySem.W.readsIn K (ga K b) (.type "type") && (decide (PySem.W.specialIn K (.ref (ga K b)) "__getattribute__" = some (some (.builtin "type.__getattribute__")))))))))))))))
/-- .. and that the base's __init__ is ValueError's -/
def bsB (K : PySem.W.Frag) (b : Str) : Prop := PySem.W.findCls K (.ref (ga K b)) (.type "type") "__init__" = some (.val (.builtin "ValueError.__init__"))
theorem fun_of {K : PySem.W.Frag} {d : DefD} {st : Stmt} {f : Addr} {fd : FuncData} (F : FunD K d.name d.qual d.params d.body d.scope [] [] f fd) (h1 : d.params = defArgs st) (h2 : d.body = defBody st) (h3 : d.scope = defScope st) : Fun K d.name d.qual st f fd := by
  obtain ⟨oc, od, dV, kV, doc, pm, an, cdv, ct, osl, e, lk, hcd, hD, hK⟩ := F.ex
  rw [h1, h2, h3] at e
  rcases hD with ⟨_, rfl⟩ | ⟨z, _⟩
  · exact ⟨⟨oc, od, kV, doc, pm, an, cdv, ct, osl, e, lk, hcd⟩, F.kp⟩
  · exact absurd rfl z
structure XcOk (K : PySem.W.Frag) (mg : Str → Option Value) (x : Str) (fo : Option Str) (b : Str) : Prop where
  gC : mg x = some (.ref (ga K x))
  gB : mg b = some (.ref (ga K b))
  T : OexC K (ga K x)
  iC : PySem.W.findIn K (.ref (ga K x)) "__init__" = some (some (.ref (ma K (ga K x) "__init__")))
  tI : PySem.W.typeIn K (.ref (ma K (ga K x) "__init__")) = some (.type "function")
  xf : XfC K (ga K x)
  no : ∀ f, fo = some f → PySem.W.findIn K (.ref (ga K x)) f = some none
  rc : CRead K (ga K b) (.type "type")
theorem xcB_ok {K : PySem.W.Frag} {h : Heap} {mg : Str → Option Value} {x b : Str} {fo : Option Str} (X : K.In h) (G : h.Ns mainGlobals mg) (c : xcB K x fo b = true) : XcOk K mg x fo b := by
  unfold xcB at c
  simp only [Bool.and_eq_true, decide_eq_true_eq] at c
  obtain ⟨c1, c2, c3, c4, c5, c6, c7, c8, c9, c10, c11, c12, c13⟩ := c
  refine ⟨PySem.W.mg_of X G (eqO_ok c1), PySem.W.mg_of X G (eqO_ok c11), ⟨clsB_ok c2, eqO_ok c3, c4, c5, c6⟩, eqO_ok c7, c8, xfB_ok c9, fun f e => ?_, ⟨c12, c13⟩⟩
  subst e
  exact eqO_ok c10
section
variable {P0 : Program} {w : World} {K : PySem.W.Frag} {mg : Str → Option Value} {base : Heap} {x b f pn txt qual : Str} {st : Stmt} {fd : FuncData} {p1 p2 p3 p4 p5 p6 q1 q2 q3 q4 : Pos} {j : Nat}
theorem xfact0 (c : XcOk K mg x none b) (bs : bsB K b) (F0 : Fun K "__init__" qual st (ma K (ga K x) "__init__") fd) (hb : Binds K fd ["self"] []) (SC : FnScope ["self"] ["self"] (defScope st)) (hdb : (b == ("__debug__" : Str)) = false)
    (hg : (defScope st).names.lookup b = some .globalImplicit) (hs : (defScope st).names.lookup ("self" : Str) = some .local) (hl : (p2.endLine == p5.line) = true)
    (ht : defBody st = [.Expr (.Call (.Attribute (.Name b p1) "__init__" p2) [.Name "self" p3, .Constant (.str txt) j p4] [] p5) p6]) :
    XFact P0 w K mg base x none ∧ (∀ g, (none : Option Str) = some g → ∃ C, mg x = some (.ref C) ∧ XfC K C ∧ PySem.W.findIn K (.ref C) g = some none) :=
  ⟨⟨_, _, fd, c.gC, c.T, c.iC, c.tI, init0_ok F0 SC c.gB c.rc bs hdb hg hs hl ht, hb⟩, fun g e => by cases e⟩
theorem xfact1 (c : XcOk K mg x (some f) b) (bs : bsB K b) (F0 : Fun K "__init__" qual st (ma K (ga K x) "__init__") fd) (hb : Binds K fd ["self", pn] []) (SC : FnScope ["self", pn] ["self", pn] (defScope st)) (hdb : (b == ("__debug__" : Str)) = false)
    (hg : (defScope st).names.lookup b = some .globalImplicit) (hs : (defScope st).names.lookup ("self" : Str) = some .local) (hx : (defScope st).names.lookup pn = some .local) (hxd : (pn == ("__debug__" : Str)) = false) (hxc : (pn == ("__classdict__" : Str)) = false) (hl : (p2.endLine == p5.line) = true)
    (ht : defBody st = [.Expr (.Call (.Attribute (.Name b p1) "__init__" p2) [.Name "self" p3, .Constant (.str txt) j p4] [] p5) p6, .Assign [.Attribute (.Name "self" q1) f q2] (.Name pn q3) q4]) :
    XFact P0 w K mg base x (some f) ∧ (∀ g, some f = some g → ∃ C, mg x = some (.ref C) ∧ XfC K C ∧ PySem.W.findIn K (.ref C) g = some none) :=
  ⟨⟨_, _, fd, c.gC, c.T, c.iC, c.tI, pn, init1_ok F0 SC c.gB c.rc bs hdb hg hs hx hxd hxc hl ht, hb, c.no f rfl⟩, fun g e => by cases e; exact ⟨_, c.gC, c.xf, c.no f rfl⟩⟩
end
end Wr

set_option maxHeartbeats 4000000
/-! C5: what is asked of the heap behind the top, and what follows of it. -/
namespace Wr
open PySem PySem.Spec PyProof.Rows L2 ClX He

def bsC (K : PySem.W.Frag) (b : Str) : Bool := match PySem.W.findCls K (.ref (ga K b)) (.type "type") "__init__" with
  | some (.val (.builtin n)) => decide (n = "ValueError.__init__")
  | _ => false
theorem bsC_ok {K : PySem.W.Frag} {b : Str} (h : bsC K b = true) : bsB K b := by
  unfold bsC at h
  unfold bsB
  split at h
  · rename_i n e
    rw [e, of_decide_eq_true h]
  · cases h
abbrev AlW : Type := Bool × List FnW
def obsW (q : PySem.W.Frag → Bool) (fn : List DefD) (K : PySem.W.Frag) : AlW := (q K && fn.all fun d => d.ok K, fn.map fun d => fnW K d.at_)
/-- the objects that are looked at: from the globals and the statics on -/
def asW (g : Addr → Option Obj) : Nat → List Addr
  | 0 => [mainGlobals, cStatics]
  | n + 1 => growD g (asW g n)
/-- the code objects with their tables -/
def csOf (K : PySem.W.Frag) : List (Addr × Addr) := K.filterMap fun p => (tabAt K p.1).map fun z => (p.1, z.1)
/-- the tables stand there, empty -/
def tabE (g : Addr → Option Obj) (K : PySem.W.Frag) : Bool := (csOf K).all fun p => PySem.W.codeHdIn K p.1 p.2 && (match g p.2 with
  | some o => emptyTab o
  | none => false)
def obsWG (n : Nat) (q : PySem.W.Frag → Bool) (fn : List DefD) (g : Addr → Option Obj) : AlW := (fun K => (tabE g K && (obsW q fn K).1, (obsW q fn K).2)) (frT g (asW g n))
theorem tabE_keep {h h' : Heap} {K : PySem.W.Frag} (k : ∀ b o, h.get? b = some o → h'.get? b = some o) (t : tabE h.get? K = true) : tabE h'.get? K = true := by
  unfold tabE at t ⊢
  refine List.all_eq_true.mpr fun p hp => ?_
  have z := List.all_eq_true.mp t p hp
  rw [Bool.and_eq_true] at z ⊢
  refine ⟨z.1, ?_⟩
  have z2 := z.2
  cases ho : h.get? p.2 with
  | none => rw [ho] at z2; cases z2
  | some o =>
    rw [ho] at z2
    rw [k _ _ ho]
    exact z2
theorem obsWG_of {n : Nat} {q : PySem.W.Frag → Bool} {fn : List DefD} {g : Addr → Option Obj} {v : List FnW} (e : obsWG n q fn g = (true, v)) : tabE g (frT g (asW g n)) = true ∧ obsW q fn (frT g (asW g n)) = (true, v) := by
  unfold obsWG at e
  have e1 := Bool.and_eq_true_iff.mp (congrArg (fun z : AlW => z.1) e)
  have e2 : (obsW q fn (frT g (asW g n))).2 = v := congrArg (fun z : AlW => z.2) e
  exact ⟨e1.1, Prod.ext e1.2 e2⟩
def hookW (n : Nat) (q : PySem.W.Frag → Bool) (fn : List DefD) : PySem.W.Hook where
  α := AlW
  obs := fun s => obsWG n q fn s.heap.get?
  val := fun _ => (true, fn.map DefD.val)
  says := fun _ h => ∃ K : PySem.W.Frag, K.In h ∧ tabE h.get? K = true ∧ obsW q fn K = (true, fn.map DefD.val)
  of := fun _ s e => ⟨_, frT_in, obsWG_of e⟩
  keeps := fun _ _ _ ⟨K, i, t, c⟩ k => ⟨K, PySem.W.Frag.In.keeps i k, tabE_keep k t, c⟩
theorem obsW_eq {n : Nat} {q : PySem.W.Frag → Bool} {fn : List DefD} {g : Addr → Option Obj} {s : Shared} (h : ∀ a, g a = s.heap.get? a) : obsWG n q fn g = (hookW n q fn).obs s := by
  have e : g = s.heap.get? := funext h
  rw [e] <;> rfl
/-- what is said of the tables -/
theorem tabE_ok {h : Heap} {K : PySem.W.Frag} (X : K.In h) (t : tabE h.get? K = true) : (∀ p ∈ csOf K, h.get? p.2 = some { cls := .none, data := .fields #[] }) ∧ (∀ p ∈ csOf K, K.lookup p.2 = none) ∧ (∀ p ∈ csOf K, PySem.W.CodeHd h p.1 p.2) := by
  refine ⟨fun p hp => ?_, fun p hp => ?_, fun p hp => ?_⟩
  · have z := List.all_eq_true.mp t p hp
    rw [Bool.and_eq_true] at z
    have z2 := z.2
    split at z2
    · rename_i o ho
      rw [ho, emptyTab_eq z2]
    · cases z2
  · obtain ⟨r, _, e⟩ := List.mem_filterMap.mp hp
    obtain ⟨y, e1, e2⟩ := Option.map_eq_some_iff.mp e
    subst e2
    unfold tabAt at e1
    split at e1
    · split at e1
      · split at e1
        · rename_i q
          cases e1
          exact Option.isNone_iff_eq_none.mp q
        · cases e1
      · cases e1
    · cases e1
  · have z := List.all_eq_true.mp t p hp
    rw [Bool.and_eq_true] at z
    exact PySem.W.codeHd_of_K X z.1
theorem cs_of {K : PySem.W.Frag} {c P : Addr} {q : Str} (h : tabAt K c = some (P, q)) : (c, P) ∈ csOf K ∧ (P, q) ∈ tabsOf K := by
  have hc : ∃ o, (c, o) ∈ K := by
    unfold tabAt at h
    split at h
    · rename_i e
      exact ⟨_, He.lookup_mem e⟩
    · cases h
  obtain ⟨o, ho⟩ := hc
  exact ⟨List.mem_filterMap.mpr ⟨_, ho, by rw [h]; rfl⟩, List.mem_filterMap.mpr ⟨_, ho, h⟩⟩
section
variable {q : PySem.W.Frag → Bool} {fn : List DefD} {K : PySem.W.Frag}
theorem saysQ (c : obsW q fn K = (true, fn.map DefD.val)) : q K = true :=
  (Bool.and_eq_true_iff.mp (show (q K && fn.all fun d => d.ok K) = true from congrArg (fun z : AlW => z.1) c)).1
theorem saysF (c : obsW q fn K = (true, fn.map DefD.val)) (i : Nat) {d : DefD} (h : fn[i]? = some d) : ∃ fd, FunD K d.name d.qual d.params d.body d.scope (d.dvs K) (d.kws K) (fAd K d.at_) fd := by
  have c2 := (Bool.and_eq_true_iff.mp (show (q K && fn.all fun d => d.ok K) = true from congrArg (fun z : AlW => z.1) c)).2
  have e : fn.map (fun d => fnW K d.at_) = fn.map DefD.val := congrArg (fun z : AlW => z.2) c
  have e2 : (fn.map fun d => fnW K d.at_)[i]? = (fn.map DefD.val)[i]? := by rw [e]
  rw [List.getElem?_map, List.getElem?_map, h] at e2
  exact DefD.funD (Option.some.inj e2) (List.all_eq_true.mp c2 d (List.mem_of_getElem? h))
end
/-! ### what is asked: classes, which clause takes which, the globals, the built-ins -/
def valB (K : PySem.W.Frag) (x : Str) (p : P) : Bool := match PySem.W.nsIn K mainGlobals x, p with
  | some (some (.int j _)), .int i => decide (j = i)
  | some (some (.str y _)), .str z => decide (y = z) && PySem.PyData.strOk z
  | some (some (.ref _)), .fn y => decide (y = x)
  | _, _ => false
def exmB (K : PySem.W.Frag) (x y : Str) (b : Bool) : Bool := decide (PySem.W.exmOne K (.ref (ga K x)) (.ref (ga K y)) = some b)
/-- b: the base of the own classes -/
def lamB (K : PySem.W.Frag) (x : Str) : Bool := match K.lookup (ga K x) with
  | some ⟨_, _, .func fd, _⟩ => (match fd.code with
    | .ref c => (match tabAt K c with
      | some (_, q) => decide (q = (x ++ ".<locals>.") ++ "<lambda>")
      | none => false)
    | _ => false)
  | _ => false
def uniqB (K : PySem.W.Frag) : Bool := (tabsOf K).all fun p => (tabsOf K).all fun r => !(r.1 == p.1) || decide (r.2 = p.2)
/-- ls: the defs in which lambdas stand -/
def askB (G : Gc) (b : Str) (fs ls : List Str) (K : PySem.W.Frag) : Bool :=
  (uniqB K && ls.all (lamB K)) && ((bltNames.all fun x => eqO (PySem.W.nsIn K mainGlobals x) (some none)) && ((G.vals.all fun p => valB K p.1 p.2) && ((G.excs.all fun p => xcB K p.1 p.2 b) && (bsC K b && ((G.exm.all fun p => exmB K p.1.1 p.1.2 p.2 && (clsIn2 G p.1.1 && clsIn2 G p.1.2)) && (fs.all fun x => eqO (PySem.W.nsIn K mainGlobals x) (some (some (.ref (ga K x))))))))))
where
  clsIn2 (G : Gc) (x : Str) : Bool := G.excs.any fun p => decide (p.1 = x)
theorem valB_ok {K : PySem.W.Frag} {h : Heap} {mg : Str → Option Value} {x : Str} {p : P} {P0 : Program} {w : World} (X : K.In h) (G : h.Ns mainGlobals mg) (c : valB K x p = true) : ∃ v u, mg x = some u ∧ RelV v u ∧ ∀ Z H, Rp K ⟨mg, P0, w⟩ Z H v p := by
  unfold valB at c
  split at c
  · rename_i j t i e
    cases of_decide_eq_true c
    exact ⟨.int j, _, PySem.W.mg_of X G e, ⟨t, rfl⟩, fun _ _ => .int j⟩
  · rename_i y t z e
    simp only [Bool.and_eq_true, decide_eq_true_eq] at c
    obtain ⟨rfl, c2⟩ := c
    exact ⟨.str y, _, PySem.W.mg_of X G e, ⟨t, rfl⟩, fun _ _ => .str y c2⟩
  · rename_i a y e
    cases of_decide_eq_true c
    exact ⟨.ref a, _, PySem.W.mg_of X G e, rfl, fun _ _ => .fn (PySem.W.mg_of X G e)⟩
  · cases c
theorem lookup_mem {α β : Type} [BEq α] [LawfulBEq α] {a : α} {b : β} : ∀ {l : List (α × β)}, l.lookup a = some b → (a, b) ∈ l
  | [], h => by simp at h
  | (x, y) :: r, h => by
    rw [List.lookup_cons] at h
    cases hx : (a == x) with
    | true =>
      rw [hx] at h
      cases h
      rw [eq_of_beq hx]
      exact List.mem_cons_self
    | false =>
      rw [hx] at h
      exact List.mem_cons_of_mem _ (lookup_mem h)
/-- what the classes' own texts give -/
def ExcTxt (P0 : Program) (w : World) (K : PySem.W.Frag) (mg : Str → Option Value) (base : Heap) (G : Gc) (b : Str) : Prop :=
  ∀ (j : Nat) (x : Str) (fo : Option Str), G.excs[j]? = some (x, fo) → XcOk K mg x fo b → bsB K b → XFact P0 w K mg base x fo ∧ (∀ f, fo = some f → ∃ C, mg x = some (.ref C) ∧ XfC K C ∧ PySem.W.findIn K (.ref C) f = some none)
/-- a def that calls what it is handed, as it is held -/
structure TdAt (G : Gc) (K : PySem.W.Frag) (mg : Str → Option Value) (x : Str) (n : Nat) (hs : List (Str × Option Nat × HX)) : Prop where
  ex : ∃ st fa fd Ng a, n = Ng.length ∧ mg x = some (.ref fa) ∧ Fun K x x st fa fd ∧ Binds K fd [a] [] ∧ FnScope Ng [a] (defScope st) ∧ Ng[0]? = some a ∧ Vis (defScope st) a ∧ okN a = true ∧ ckTold G (ccOf Ng (defScope st)) a hs (defBody st) = true
theorem lamB_ok {K : PySem.W.Frag} {x : Str} {st : Stmt} {fd : FuncData} (h : lamB K x = true) (F0 : Fun K x x st (ga K x) fd) : LamAt K x fd.code := by
  obtain ⟨oc, od, kV, doc, pm, an, cdv, ct, osl, e, lk, hcd⟩ := F0.ex
  unfold lamB at h
  rw [lk] at h
  simp only at h
  split at h
  · rename_i c hc
    split at h
    · rename_i P q ht
      cases of_decide_eq_true h
      exact ⟨c, P, hc, ht⟩
    · cases h
  · cases h
theorem top_ok {P0 : Program} {w : World} {K : PySem.W.Frag} {h base : Heap} {mg : Str → Option Value} {G : Gc} {ds : List Df} {b : Str} {fs ls : List Str} (X : K.In h) (Gn : h.Ns mainGlobals mg) (c : askB G b fs ls K = true) (TB : ∀ p ∈ csOf K, LamX.TabB base mg p.1 p.2) (hx : ExcTxt P0 w K mg base G b)
    (hn : G.fns = ds.map fun d => (d.name, d.ps.length)) (hd : (∀ x ∈ fs, mg x = some (.ref (ga K x))) → (∀ x ∈ ls, lamB K x = true) → ∀ d ∈ ds, ∃ st, DfAt G K mg d st)
    (ht : (∀ x ∈ fs, mg x = some (.ref (ga K x))) → ∀ (j : Nat) (x : Str) (n : Nat) (hs : List (Str × Option Nat × HX)), G.tolds[j]? = some (x, n, hs) → TdAt G K mg x n hs) : TopOk P0 w K mg base G ds := by
  unfold askB at c
  simp only [Bool.and_eq_true] at c
  obtain ⟨⟨c0, c00⟩, c1, c2, c3, c4, c5, c6⟩ := c
  have xc : ∀ (j : Nat) (x : Str) (fo : Option Str), G.excs[j]? = some (x, fo) → XcOk K mg x fo b := fun j x fo hj => xcB_ok X Gn (List.all_eq_true.mp c3 _ (List.mem_of_getElem? hj))
  have cls : ∀ {x : Str}, askB.clsIn2 G x = true → mg x = some (.ref (ga K x)) := fun {x} hc => by
    obtain ⟨p, hp, e⟩ := List.any_eq_true.mp hc
    obtain ⟨j, hj⟩ := List.getElem?_of_mem hp
    obtain ⟨y, fo⟩ := p
    cases of_decide_eq_true e
    exact (xc j _ fo hj).gC
  have gfs : ∀ x ∈ fs, mg x = some (.ref (ga K x)) := fun x hx => PySem.W.mg_of X Gn (eqO_ok (List.all_eq_true.mp c6 x hx))
  have hblt : ∀ x ∈ bltNames, mg x = none := fun x hx => PySem.W.mg_none_of X Gn (eqO_ok (List.all_eq_true.mp c1 x hx))
  have hexc : ∀ (j : Nat) (x : Str) (fo : Option Str), G.excs[j]? = some (x, fo) → XFact P0 w K mg base x fo ∧ (∀ f, fo = some f → ∃ C, mg x = some (.ref C) ∧ XfC K C ∧ PySem.W.findIn K (.ref C) f = some none) := fun j x fo hj => hx j x fo hj (xc j x fo hj) (bsC_ok c4)
  have hexm : ∀ (x y : Str) (bb : Bool), G.exm.lookup (x, y) = some bb → ∃ C D, mg x = some (.ref C) ∧ mg y = some (.ref D) ∧ PySem.W.exmOne K (.ref C) (.ref D) = some bb := fun x y bb hl => by
    have q := List.all_eq_true.mp c5 _ (lookup_mem hl)
    simp only [Bool.and_eq_true] at q
    exact ⟨_, _, cls q.2.1, cls q.2.2, of_decide_eq_true q.1⟩
  refine ⟨hblt, fun j x p hj => ?_, hexc, hexm, fun j x n hs hj => ?_, fun cc P q hq => ?_, hn, hd gfs (List.all_eq_true.mp c00)⟩
  · exact valB_ok X Gn (List.all_eq_true.mp c2 _ (List.mem_of_getElem? hj))
  · obtain ⟨st, fa, fd, Ng, a, t0, t1, t2, t3, t4, t5, t6, t7, t8⟩ := (ht gfs j x n hs hj).ex
    subst t0
    exact told_ok hblt hexc hexm t1 t2 t3 t4 t5 t6 t7 (ccOf Ng (defScope st)) rfl rfl t8
  · obtain ⟨r1, r2⟩ := cs_of hq
    refine ⟨TB _ r1, r2, fun p hp e => ?_⟩
    have z := List.all_eq_true.mp (List.all_eq_true.mp c0 _ r2) p hp
    rw [Bool.or_eq_true] at z
    rcases z with z | z
    · rw [e] at z
      simp at z
    · exact of_decide_eq_true z
end Wr

set_option maxHeartbeats 4000000
/-! C6: each def of the top as it is held; the law's end. -/
namespace Wr
open PySem PySem.Spec PyProof.Rows L2 ClX He

def scB (N P : List Str) (sc : Scope) : Bool := decide (sc.kind = .function) && (!sc.isCoroutine && (!sc.isGenerator && (decide N.Nodup && (decide (N.take P.length = P) && ((P.all fun x => decide (sc.names.lookup x = some .local ∨ sc.names.lookup x = some .cell)) && (sc.names.all fun y => decide (y.2 ≠ .free)))))))
theorem scB_ok {N P : List Str} {sc : Scope} (h : scB N P sc = true) : FnScope N P sc := by
  unfold scB at h
  simp only [Bool.and_eq_true, decide_eq_true_eq, Bool.not_eq_true', List.all_eq_true] at h
  obtain ⟨h1, h2, h3, h4, h5, h6, h7⟩ := h
  exact ⟨h1, h2, h3, h4, h5, h6, h7⟩
section
variable {P0 : Program} {w : World} {K : PySem.W.Frag} {mg : Str → Option Value} {base : Heap} {G : Gc} {q : PySem.W.Frag → Bool} {fn : List DefD} {st : Stmt}
abbrev BindsL (x qual : Str) (st : Stmt) (ps : List Str) : Prop := ∀ (kV doc pm : Value) (an : Option Addr) (cdv ct : Value) (us : List Value), us.length = ps.length → bindArgs (PySem.W.fnOf x qual (defArgs st) (defBody st) (defScope st) .none kV doc pm an cdv ct) ⟨us, []⟩ = pure (ps.zip us)
theorem binds_of {x qual : Str} {ps : List Str} {f : Addr} {fd : FuncData} (F : FunD K x qual (defArgs st) (defBody st) (defScope st) [] [] f fd) (hb : BindsL x qual st ps) : Binds K fd ps [] := fun s us _ hl => by
  rw [List.append_nil] at hl ⊢
  exact FunD.bindsA F hb s us hl
abbrev ddOf (x : Str) (st : Stmt) : DefD := ⟨(x, none), x, x, defArgs st, defBody st, defScope st, [], []⟩
abbrev ddIn (C m qual : Str) (st : Stmt) : DefD := ⟨(C, some m), m, qual, defArgs st, defBody st, defScope st, [], []⟩
theorem fun_at (c : obsW q fn K = (true, fn.map DefD.val)) (i : Nat) {x : Str} (h : fn[i]? = some (ddOf x st)) {ps : List Str} (hb : BindsL x x st ps) : ∃ fd, Fun K x x st (ga K x) fd ∧ Binds K fd ps [] := by
  obtain ⟨fd, F⟩ := saysF c i h
  exact ⟨fd, fun_of F rfl rfl rfl, binds_of F hb⟩
theorem df_at (c : obsW q fn K = (true, fn.map DefD.val)) (i : Nat) {d : Df} (h : fn[i]? = some (ddOf d.name st)) (hm : mg d.name = some (.ref (ga K d.name))) (hl : d.lam = true → lamB K d.name = true) (hb : BindsL d.name d.name st d.ps)
    (sc : scB d.N d.ps (defScope st) = true) (ck : ckSs G (ccOf d.N (defScope st) d.lam) d.ss (defBody st) = true) : DfAt G K mg d st := by
  obtain ⟨fd, F, b⟩ := fun_at c i h hb
  exact ⟨⟨_, fd, hm, F, b, fun e => lamB_ok (hl e) F⟩, scB_ok sc, ck⟩
theorem td_at (c : obsW q fn K = (true, fn.map DefD.val)) (i : Nat) {x a : Str} {Ng : List Str} {hs : List (Str × Option Nat × HX)} (h : fn[i]? = some (ddOf x st)) (hm : mg x = some (.ref (ga K x))) (hb : BindsL x x st [a])
    (sc : scB Ng [a] (defScope st) = true) (h0 : Ng[0]? = some a) (hv : visB (ccOf Ng (defScope st)) a = true) (hd : okN a = true) (ck : ckTold G (ccOf Ng (defScope st)) a hs (defBody st) = true) {n : Nat} (hn : n = Ng.length) : TdAt G K mg x n hs := by
  obtain ⟨fd, F, b⟩ := fun_at c i h hb
  refine ⟨st, _, fd, Ng, a, hn, hm, F, b, scB_ok sc, h0, ?_, hd, ck⟩
  unfold visB at hv
  unfold Vis
  split at hv
  · rename_i e; exact .inl e
  · rename_i e; exact .inr (.inl e)
  · rename_i e; exact .inr (.inr e)
  · cases hv
theorem init_at (c : obsW q fn K = (true, fn.map DefD.val)) (i : Nat) {C m qual : Str} (h : fn[i]? = some (ddIn C m qual st)) {ps : List Str} (hb : BindsL m qual st ps) : ∃ fd, Fun K m qual st (ma K (ga K C) m) fd ∧ Binds K fd ps [] := by
  obtain ⟨fd, F⟩ := saysF c i h
  exact ⟨fd, fun_of F rfl rfl rfl, binds_of F hb⟩
/-- THE END: what is left is a sentence about data -/
theorem law_at {l : PySem.W.OpenLaw} {h : Heap} {n fuel k : Nat} {x b : Str} {fs ls : List Str} {ds : List Df} {d : Df} {fa : Addr} (X : K.In h) (Gn : h.Ns mainGlobals mg) (tb : tabE h.get? K = true) (c : askB G b fs ls K = true)
    (hx : ∀ base, ExcTxt l.prog w K mg base G b) (hn : G.fns = ds.map fun d => (d.name, d.ps.length)) (hd : (∀ x ∈ fs, mg x = some (.ref (ga K x))) → (∀ x ∈ ls, lamB K x = true) → ∀ d ∈ ds, ∃ st, DfAt G K mg d st)
    (ht : (∀ x ∈ fs, mg x = some (.ref (ga K x))) → ∀ (j : Nat) (x : Str) (n : Nat) (hs : List (Str × Option Nat × HX)), G.tolds[j]? = some (x, n, hs) → TdAt G K mg x n hs)
    (hz : n ≤ 16777216) (hmem : d ∈ ds) (hps : d.ps = [x]) (hfa : mg d.name = some (.ref fa)) (hD : (∀ x ∈ fs, mg x = some (.ref (ga K x))) → (∀ x ∈ ls, lamB K x = true) → DfAt G K mg d st) (hbl : BindsL d.name d.name st [x])
    (math : ∀ ns : List Int, ns.length ≤ n → (∀ z ∈ ns, Builtin.Int.intBits z ≤ 1048576) → ∃ S', defF d.N.length (evSs G (Gam G ds fuel k) fuel d.ss) [.p (.lsf (ns.map P.int))] [] = some (.ok (.bl true), S')) :
    LamX.LawAtS l w K (L2.CX l.prog w) (3 * k + 5) n x mg fa h := by
  obtain ⟨t1, t2, t3⟩ := tabE_ok X tb
  have gfs : ∀ x ∈ fs, mg x = some (.ref (ga K x)) := by
    intro x hx
    unfold askB at c
    simp only [Bool.and_eq_true] at c
    exact PySem.W.mg_of X Gn (eqO_ok (List.all_eq_true.mp c.2.2.2.2.2.2 x hx))
  have lls : ∀ x ∈ ls, lamB K x = true := by
    unfold askB at c
    simp only [Bool.and_eq_true] at c
    exact List.all_eq_true.mp c.1.2
  have D := hD gfs lls
  obtain ⟨fa', fd, q1, q2, q3, q4⟩ := D.ex
  rw [hfa] at q1
  cases q1
  have q3' := q3
  rw [hps] at q3'
  refine ⟨fd, csOf K, spF K ⟨mg, l.prog, w⟩ 1 (defF d.N.length (evSs G (Gam G ds fuel k) fuel d.ss)), t1, t2, t3, fun s u => ?_, fun H a ns hl hb hT hS => ?_, fun base hK hns hTB => ?_⟩
  · obtain ⟨oc, od, kV, doc, pm, an, cdv, ct, osl, e, lk, hcd⟩ := q2.ex
    rw [e]
    exact .of_eq (hbl kV doc pm an cdv ct [u] rfl)
  · obtain ⟨S', e⟩ := math ns hl hb
    refine ⟨fun _ => False, fun _ => False, [], [], [.p (.lsf (ns.map P.int))], _, S', ⟨rfl, List.nodup_nil, fun i a o h => by simp at h, fun a z => z, fun a z => by simp at z, fun a z => by simp at z, fun a z => z.elim, fun i a o h => by simp at h, ⟨?_⟩⟩, .cons (.p (.lsf ?_ ?_ (RpL.ofInts ns))) .nil, rfl, e, ?_⟩
    · intro p hp
      obtain ⟨r, hr, e2⟩ := List.mem_filterMap.mp hp
      obtain ⟨P, Q⟩ := p
      exact LamX.TabS.nil (hT _ (cs_of e2).1)
    · rcases hS with h1 | h1
      · exact .inl ⟨h1, fun z => z⟩
      · exact .inr h1
    · rw [List.length_map, sizeLine_eq]
      omega
    · intro Z' H' _ _ v rv
      cases rv with
      | bl b => rfl
  · have z := def_snd (fm_ok (fuel := fuel) (top_ok X Gn c hTB (hx base) hn hd ht) k) q2 D.sc rfl d.ss fuel d.lam q4 D.ck
    have e : d.ps.length = 1 := by rw [hps]; rfl
    rw [e, hps] at z
    exact z
end
end Wr

set_option maxHeartbeats 0
namespace Wr.K00
open PySem PySem.Spec PyProof.Rows L2 Wr

def top (i : Nat) : Stmt := PySem.Challenge.pw_wishroads_k00_whole_tasks.main.body.getD i (.Pass ⟨0, 0, 0, 0⟩)

def fns0 : List (Str × Nat) := [("is_integer", 1), ("is_number", 3), ("is_sign_row", 1), ("is_ascending", 1), ("is_facts", 1), ("is_deed", 1), ("all_stand", 2), ("some_stand", 2)]
def fns1 : List (Str × Nat) := [("told_facts", 1), ("wrong_word", 1), ("is_task", 1), ("check_task", 1), ("facts", 1), ("is_facts_among", 2), ("check_state", 2), ("can_be_done", 2)]
def fns2 : List (Str × Nat) := [("state_behind", 2), ("deed_to_do", 3), ("open_deeds", 2), ("done", 3), ("run", 2), ("price", 2), ("is_plan", 2), ("_law_taken", 2)]
def fns3 : List (Str × Nat) := [("_law_pick", 2), ("_law_alike", 2), ("_law_some", 3), ("_law_task", 1), ("_law_facts", 1), ("_law_holds", 2), ("_law_go", 2), ("_law_without", 2)]
def fns4 : List (Str × Nat) := [("_law_walk", 3), ("_law_are_facts", 2), ("_law_is_part", 1), ("_law_is_deed", 1), ("_law_wrong", 1), ("_law_rows_right", 3), ("law", 1)]
def fns : List (Str × Nat) := fns0 ++ fns1 ++ fns2 ++ fns3 ++ fns4
def vals : List (Str × P) := [("MOST_SIGNS", .int 40), ("MOST_DEEDS", .int 14), ("MOST_FACTS", .int 10), ("MOST_PRICE", .int 9), ("open_deeds", .fn "open_deeds"), ("run", .fn "run"), ("price", .fn "price"), ("is_plan", .fn "is_plan")]
def excs : List (Str × Option Str) := [("BadTask", some "word"), ("BadState", none), ("BadDeed", some "index")]
def exm0 : List ((Str × Str) × Bool) := [(("BadTask", "BadTask"), true), (("BadTask", "BadState"), false), (("BadTask", "BadDeed"), false), (("BadState", "BadTask"), false), (("BadState", "BadState"), true), (("BadState", "BadDeed"), false)]
def exm1 : List ((Str × Str) × Bool) := [(("BadDeed", "BadTask"), false), (("BadDeed", "BadState"), false), (("BadDeed", "BadDeed"), true)]
def exm : List ((Str × Str) × Bool) := exm0 ++ exm1
def th__law_told : List (Str × Option Nat × HX) := [("BadTask", some 1, (.pair (.con (.str "bad")) (.fld "word"))), ("BadDeed", some 1, (.pair (.con (.str "bad")) (.cat (.con (.str "deed")) (.slow (.fld "index"))))), ("BadState", none, (.pair (.con (.str "bad")) (.con (.str "state"))))]
def tolds : List (Str × Nat × List (Str × Option Nat × HX)) := [("_law_told", 2, th__law_told)]
def G : Gc := { fns := fns, vals := vals, excs := excs, exm := exm, tolds := tolds }
def N_is_integer : List Str := ["value"]
def s_is_integer : Ss := (.cons (.ret (.and (.cons (.isi .int (.var 0)) (.cons (.not (.isi .bool (.var 0))) .nil))))
  .nil)
theorem c_is_integer : ckSs G (ccOf N_is_integer (defScope (top 10)) false) s_is_integer (defBody (top 10)) = true := by decide +kernel
def N_is_number : List Str := ["value", "least", "most"]
def s_is_number : Ss := (.cons (.ret (.and (.cons (.call 0 (.cons (.var 0) .nil)) (.cons (.chn .le .le (.var 1) (.var 0) (.var 2)) .nil))))
  .nil)
theorem c_is_number : ckSs G (ccOf N_is_number (defScope (top 11)) false) s_is_number (defBody (top 11)) = true := by decide +kernel
def N_is_sign_row : List Str := ["value"]
def s_is_sign_row : Ss := (.cons (.ret (.and (.cons (.isi .str (.var 0)) (.cons (.chn .le .le (.int 1) (.bf .len (.cons (.var 0) .nil)) (.glb 0)) .nil))))
  .nil)
theorem c_is_sign_row : ckSs G (ccOf N_is_sign_row (defScope (top 12)) false) s_is_sign_row (defBody (top 12)) = true := by decide +kernel
def N_is_ascending : List Str := ["words", "ahead", "word"]
def s_is_ascending : Ss := (.cons (.ret (.bf .all (.cons (.lc false [("ahead", 1), ("word", 2)] (.tup [1, 2]) (.zip (.var 0) (.sl false (.var 0) (.yes (.int 1)) .no)) .yes (.cmp .lt (.var 1) (.var 2))) .nil)))
  .nil)
theorem c_is_ascending : ckSs G (ccOf N_is_ascending (defScope (top 13)) false) s_is_ascending (defBody (top 13)) = true := by decide +kernel
def N_is_facts : List Str := ["value", "fact"]
def s_is_facts : Ss := (.cons (.ifs (.or (.cons (.not (.tru (.isi .tuple (.var 0)))) (.cons (.not (.tru (.bf .all (.cons (.lc false [("fact", 1)] (.nm 1) (.seq (.var 0)) .yes (.call 2 (.cons (.var 1) .nil))) .nil)))) .nil))) (.cons (.ret (.bl false))
  .nil) .nil)
  (.cons (.ret (.call 3 (.cons (.var 0) .nil)))
  .nil))
theorem c_is_facts : ckSs G (ccOf N_is_facts (defScope (top 14)) false) s_is_facts (defBody (top 14)) = true := by decide +kernel
def N_is_deed : List Str := ["value", "name", "needs", "bars", "adds", "strikes", "cost", "row"]
def s_is_deed : Ss := (.cons (.ifs (.or (.cons (.not (.tru (.isi .tuple (.var 0)))) (.cons (.cmp .ne (.bf .len (.cons (.var 0) .nil)) (.int 6)) .nil))) (.cons (.ret (.bl false))
  .nil) .nil)
  (.cons (.asg (.tup [1, 2, 3, 4, 5, 6]) (.var 0))
  (.cons (.ifs (.or (.cons (.not (.tru (.call 2 (.cons (.var 1) .nil)))) (.cons (.not (.tru (.bf .all (.cons (.lc false [("row", 7)] (.nm 7) (.seq (.tup (.cons (.var 2) (.cons (.var 3) (.cons (.var 4) (.cons (.var 5) .nil)))))) .yes (.call 4 (.cons (.var 7) .nil))) .nil)))) .nil))) (.cons (.ret (.bl false))
  .nil) .nil)
  (.cons (.ifs (.or (.cons (.tru (.call 7 (.cons (.var 2) (.cons (.var 3) .nil)))) (.cons (.tru (.call 7 (.cons (.var 4) (.cons (.var 5) .nil)))) .nil))) (.cons (.ret (.bl false))
  .nil) .nil)
  (.cons (.ret (.call 1 (.cons (.var 6) (.cons (.int 1) (.cons (.glb 3) .nil)))))
  .nil)))))
theorem c_is_deed : ckSs G (ccOf N_is_deed (defScope (top 15)) false) s_is_deed (defBody (top 15)) = true := by decide +kernel
def N_all_stand : List Str := ["wanted", "state", "fact"]
def s_all_stand : Ss := (.cons (.ret (.bf .all (.cons (.lc false [("fact", 2)] (.nm 2) (.seq (.var 0)) .yes (.cmp .in_ (.var 2) (.var 1))) .nil)))
  .nil)
theorem c_all_stand : ckSs G (ccOf N_all_stand (defScope (top 16)) false) s_all_stand (defBody (top 16)) = true := by decide +kernel
def N_some_stand : List Str := ["unwanted", "state", "standing", "fact"]
def s_some_stand : Ss := (.cons (.asg (.nm 2) (.bf .set (.cons (.var 1) .nil)))
  (.cons (.ret (.bf .any (.cons (.lc false [("fact", 3)] (.nm 3) (.seq (.var 0)) .yes (.cmp .in_ (.var 3) (.var 2))) .nil)))
  .nil))
theorem c_some_stand : ckSs G (ccOf N_some_stand (defScope (top 17)) false) s_some_stand (defBody (top 17)) = true := by decide +kernel
def N_told_facts : List Str := ["task", "deeds", "begin", "wish", "told", "deed", "row", "fact"]
def s_told_facts : Ss := (.cons (.asg (.tup [1, 2, 3]) (.var 0))
  (.cons (.asg (.nm 4) (.lcn false [("deed", 5), ("row", 6), ("fact", 7)] (.nm 5) (.seq (.var 1)) .yes (.cons (.nm 6) (.seq (.sl false (.var 5) (.yes (.int 1)) (.yes (.int 5)))) .yes (.cons (.nm 7) (.seq (.var 6)) .yes .nil)) (.var 7)))
  (.cons (.ret (.bf .tuple (.cons (.bn false .sorted (.cons (.bf .set (.cons (.lst false (.star (.var 4) (.star (.var 2) (.star (.var 3) .nil)))) .nil)) .nil)) .nil)))
  .nil)))
theorem c_told_facts : ckSs G (ccOf N_told_facts (defScope (top 18)) false) s_told_facts (defBody (top 18)) = true := by decide +kernel
def N_wrong_word : List Str := ["value", "deeds", "begin", "wish", "deed"]
def s_wrong_word : Ss := (.cons (.ifs (.or (.cons (.not (.tru (.isi .tuple (.var 0)))) (.cons (.cmp .ne (.bf .len (.cons (.var 0) .nil)) (.int 3)) .nil))) (.cons (.ret (.str "form"))
  .nil) .nil)
  (.cons (.asg (.tup [1, 2, 3]) (.var 0))
  (.cons (.ifs (.or (.cons (.not (.tru (.isi .tuple (.var 1)))) (.cons (.cmp .gt (.bf .len (.cons (.var 1) .nil)) (.glb 1)) .nil))) (.cons (.ret (.str "deeds"))
  .nil) .nil)
  (.cons (.ifs (.not (.tru (.bf .all (.cons (.lc false [("deed", 4)] (.nm 4) (.seq (.var 1)) .yes (.call 5 (.cons (.var 4) .nil))) .nil)))) (.cons (.ret (.str "deeds"))
  .nil) .nil)
  (.cons (.ifs (.not (.tru (.call 3 (.cons (.lc false [("deed", 4)] (.nm 4) (.seq (.var 1)) .yes (.ix (.var 4) (.int 0))) .nil)))) (.cons (.ret (.str "names"))
  .nil) .nil)
  (.cons (.ifs (.not (.tru (.call 4 (.cons (.var 2) .nil)))) (.cons (.ret (.str "begin"))
  .nil) .nil)
  (.cons (.ifs (.not (.tru (.call 4 (.cons (.var 3) .nil)))) (.cons (.ret (.str "wish"))
  .nil) .nil)
  (.cons (.ifs (.cmp .gt (.bf .len (.cons (.call 8 (.cons (.var 0) .nil)) .nil)) (.glb 2)) (.cons (.ret (.str "facts"))
  .nil) .nil)
  (.cons (.ret .non)
  .nil)))))))))
theorem c_wrong_word : ckSs G (ccOf N_wrong_word (defScope (top 19)) false) s_wrong_word (defBody (top 19)) = true := by decide +kernel
def N_is_task : List Str := ["value"]
def s_is_task : Ss := (.cons (.ret (.cmp .is (.call 9 (.cons (.var 0) .nil)) .non))
  .nil)
theorem c_is_task : ckSs G (ccOf N_is_task (defScope (top 20)) false) s_is_task (defBody (top 20)) = true := by decide +kernel
def N_check_task : List Str := ["task", "word"]
def s_check_task : Ss := (.cons (.asg (.nm 1) (.call 9 (.cons (.var 0) .nil)))
  (.cons (.ifs (.cmp .isnot (.var 1) .non) (.cons (.rais1 0 (.var 1))
  .nil) .nil)
  .nil))
theorem c_check_task : ckSs G (ccOf N_check_task (defScope (top 21)) false) s_check_task (defBody (top 21)) = true := by decide +kernel
def N_facts : List Str := ["task"]
def s_facts : Ss := (.cons (.expr (.call 11 (.cons (.var 0) .nil)))
  (.cons (.ret (.call 8 (.cons (.var 0) .nil)))
  .nil))
theorem c_facts : ckSs G (ccOf N_facts (defScope (top 22)) false) s_facts (defBody (top 22)) = true := by decide +kernel
def N_is_facts_among : List Str := ["value", "signs"]
def s_is_facts_among : Ss := (.cons (.ret (.and (.cons (.call 4 (.cons (.var 0) .nil)) (.cons (.call 6 (.cons (.var 0) (.cons (.var 1) .nil))) .nil))))
  .nil)
theorem c_is_facts_among : ckSs G (ccOf N_is_facts_among (defScope (top 23)) false) s_is_facts_among (defBody (top 23)) = true := by decide +kernel
def N_check_state : List Str := ["task", "state"]
def s_check_state : Ss := (.cons (.ifs (.not (.tru (.call 13 (.cons (.var 1) (.cons (.call 8 (.cons (.var 0) .nil)) .nil))))) (.cons (.rais0 1)
  .nil) .nil)
  .nil)
theorem c_check_state : ckSs G (ccOf N_check_state (defScope (top 24)) false) s_check_state (defBody (top 24)) = true := by decide +kernel
def N_can_be_done : List Str := ["deed", "state"]
def s_can_be_done : Ss := (.cons (.ret (.and (.cons (.call 6 (.cons (.ix (.var 0) (.int 1)) (.cons (.var 1) .nil))) (.cons (.not (.call 7 (.cons (.ix (.var 0) (.int 2)) (.cons (.var 1) .nil)))) .nil))))
  .nil)
theorem c_can_be_done : ckSs G (ccOf N_can_be_done (defScope (top 25)) false) s_can_be_done (defBody (top 25)) = true := by decide +kernel
def N_state_behind : List Str := ["deed", "state", "kept", "fact"]
def s_state_behind : Ss := (.cons (.asg (.nm 2) (.lc false [("fact", 3)] (.nm 3) (.seq (.var 1)) (.cmp .notin (.var 3) (.ix (.var 0) (.int 4))) (.var 3)))
  (.cons (.ret (.bf .tuple (.cons (.bn false .sorted (.cons (.bf .set (.cons (.lst false (.star (.var 2) (.star (.ix (.var 0) (.int 3)) .nil))) .nil)) .nil)) .nil)))
  .nil))
theorem c_state_behind : ckSs G (ccOf N_state_behind (defScope (top 26)) false) s_state_behind (defBody (top 26)) = true := by decide +kernel
def N_deed_to_do : List Str := ["task", "state", "name", "deed"]
def s_deed_to_do : Ss := (.cons (.ifs (.tru (.isi .str (.var 2))) (.cons (.fors (.nm 3) (.seq (.ix (.var 0) (.int 0))) (.cons (.ifs (.and (.cons (.cmp .eq (.ix (.var 3) (.int 0)) (.var 2)) (.cons (.tru (.call 15 (.cons (.var 3) (.cons (.var 1) .nil)))) .nil))) (.cons (.ret (.var 3))
  .nil) .nil)
  .nil))
  .nil) .nil)
  (.cons (.ret .non)
  .nil))
theorem c_deed_to_do : ckSs G (ccOf N_deed_to_do (defScope (top 27)) false) s_deed_to_do (defBody (top 27)) = true := by decide +kernel
def N_open_deeds : List Str := ["task", "state", "deed"]
def s_open_deeds : Ss := (.cons (.expr (.call 11 (.cons (.var 0) .nil)))
  (.cons (.expr (.call 14 (.cons (.var 0) (.cons (.var 1) .nil))))
  (.cons (.ret (.bf .tuple (.cons (.lc false [("deed", 2)] (.nm 2) (.seq (.ix (.var 0) (.int 0))) (.tru (.call 15 (.cons (.var 2) (.cons (.var 1) .nil)))) (.ix (.var 2) (.int 0))) .nil)))
  .nil)))
theorem c_open_deeds : ckSs G (ccOf N_open_deeds (defScope (top 28)) false) s_open_deeds (defBody (top 28)) = true := by decide +kernel
def N_done : List Str := ["task", "state", "name", "deed"]
def s_done : Ss := (.cons (.expr (.call 11 (.cons (.var 0) .nil)))
  (.cons (.expr (.call 14 (.cons (.var 0) (.cons (.var 1) .nil))))
  (.cons (.asg (.nm 3) (.call 17 (.cons (.var 0) (.cons (.var 1) (.cons (.var 2) .nil)))))
  (.cons (.ifs (.cmp .is (.var 3) .non) (.cons (.rais1 2 .non)
  .nil) .nil)
  (.cons (.ret (.call 16 (.cons (.var 3) (.cons (.var 1) .nil))))
  .nil)))))
theorem c_done : ckSs G (ccOf N_done (defScope (top 29)) false) s_done (defBody (top 29)) = true := by decide +kernel
def N_run : List Str := ["task", "names", "states", "at", "name", "deed"]
def s_run : Ss := (.cons (.expr (.call 11 (.cons (.var 0) .nil)))
  (.cons (.ifs (.not (.tru (.isi .tuple (.var 1)))) (.cons (.rais1 2 .non)
  .nil) .nil)
  (.cons (.asg (.nm 2) (.lst true (.cons (.ix (.var 0) (.int 1)) .nil)))
  (.cons (.fors (.tup [3, 4]) (.enum (.var 1)) (.cons (.asg (.nm 5) (.call 17 (.cons (.var 0) (.cons (.ix (.var 2) (.neg (.int 1))) (.cons (.var 4) .nil)))))
  (.cons (.ifs (.cmp .is (.var 5) .non) (.cons (.rais1 2 (.var 3))
  .nil) .nil)
  (.cons (.expr (.app (.var 2) (.call 16 (.cons (.var 5) (.cons (.ix (.var 2) (.neg (.int 1))) .nil)))))
  .nil))))
  (.cons (.ret (.bf .tuple (.cons (.var 2) .nil)))
  .nil)))))
theorem c_run : ckSs G (ccOf N_run (defScope (top 30)) false) s_run (defBody (top 30)) = true := by decide +kernel
def N_price : List Str := ["task", "names", "prices", "deed", "name"]
def s_price : Ss := (.cons (.expr (.call 20 (.cons (.var 0) (.cons (.var 1) .nil))))
  (.cons (.asg (.nm 2) (.dc [("deed", 3)] (.nm 3) (.seq (.ix (.var 0) (.int 0))) .yes (.ix (.var 3) (.int 0)) (.ix (.var 3) (.int 5))))
  (.cons (.ret (.bf .sum (.cons (.lc false [("name", 4)] (.nm 4) (.seq (.var 1)) .yes (.ix (.var 2) (.var 4))) .nil)))
  .nil)))
theorem c_price : ckSs G (ccOf N_price (defScope (top 31)) false) s_price (defBody (top 31)) = true := by decide +kernel
def N_is_plan : List Str := ["task", "value", "states"]
def s_is_plan : Ss := (.cons (.tryR (.cons (.asg (.nm 2) (.call 20 (.cons (.var 0) (.cons (.var 1) .nil))))
  .nil) [("BadDeed", none, (.con (.bl false)))])
  (.cons (.ret (.call 6 (.cons (.ix (.var 0) (.int 2)) (.cons (.ix (.var 2) (.neg (.int 1))) .nil))))
  .nil))
theorem c_is_plan : ckSs G (ccOf N_is_plan (defScope (top 32)) false) s_is_plan (defBody (top 32)) = true := by decide +kernel
def N__law_taken : List Str := ["row", "many", "found", "cell"]
def s__law_taken : Ss := (.cons (.ifs (.cmp .gt (.ix (.var 0) (.int 3)) (.int 0)) (.cons (.asg (.nm 2) (.bin .mod (.bf .int (.cons (.ix (.var 0) (.int 3)) .nil)) (.var 1)))
  (.cons (.seti (.var 0) (.int 3) (.bin .fdiv (.ix (.var 0) (.int 3)) (.var 1)))
  (.cons (.ret (.var 2))
  .nil))) .nil)
  (.cons (.seti (.var 0) (.int 1) (.bin .add (.ix (.var 0) (.int 1)) (.int 1)))
  (.cons (.ifs (.cmp .gt (.ix (.var 0) (.int 1)) (.bf .len (.cons (.ix (.var 0) (.int 0)) .nil))) (.cons (.seti (.var 0) (.int 2) (.bin .mod (.bf .int (.cons (.bin .add (.bin .mul (.ix (.var 0) (.int 2)) (.int 48271)) (.int 11)) .nil)) (.int 2147483647)))
  (.cons (.ret (.bin .mod (.bf .int (.cons (.bin .fdiv (.ix (.var 0) (.int 2)) (.int 7)) .nil)) (.var 1)))
  .nil)) .nil)
  (.cons (.asg (.nm 3) (.ix (.ix (.var 0) (.int 0)) (.bin .sub (.ix (.var 0) (.int 1)) (.int 1))))
  (.cons (.seti (.var 0) (.int 2) (.bin .mod (.bf .int (.cons (.bin .add (.bin .add (.bin .mul (.ix (.var 0) (.int 2)) (.int 48271)) (.var 3)) (.int 11)) .nil)) (.int 2147483647)))
  (.cons (.ifs (.cmp .ge (.var 3) (.bin .pow (.int 10) (.int 18))) (.cons (.seti (.var 0) (.int 3) (.bin .fdiv (.var 3) (.var 1)))
  .nil) .nil)
  (.cons (.ret (.bin .mod (.bf .int (.cons (.var 3) .nil)) (.var 1)))
  .nil)))))))
theorem c__law_taken : ckSs G (ccOf N__law_taken (defScope (top 34)) false) s__law_taken (defBody (top 34)) = true := by decide +kernel
def N__law_pick : List Str := ["row", "things"]
def s__law_pick : Ss := (.cons (.ret (.ix (.var 1) (.call 23 (.cons (.var 0) (.cons (.bf .len (.cons (.var 1) .nil)) .nil)))))
  .nil)
theorem c__law_pick : ckSs G (ccOf N__law_pick (defScope (top 35)) false) s__law_pick (defBody (top 35)) = true := by decide +kernel
def N__law_alike : List Str := ["found", "due", "k"]
def s__law_alike : Ss := (.cons (.ifs (.tru (.isi2 .tuple .list (.var 1))) (.cons (.ifs (.or (.cons (.not (.tru (.isi2 .tuple .list (.var 0)))) (.cons (.cmp .ne (.isi .list (.var 0)) (.isi .list (.var 1))) .nil))) (.cons (.ret (.bl false))
  .nil) .nil)
  (.cons (.ifs (.cmp .ne (.bf .len (.cons (.var 0) .nil)) (.bf .len (.cons (.var 1) .nil))) (.cons (.ret (.bl false))
  .nil) .nil)
  (.cons (.ret (.cmp .eq (.lc false [("k", 2)] (.nm 2) (.rng1 (.bf .len (.cons (.var 1) .nil))) (.not (.tru (.call 25 (.cons (.ix (.var 0) (.var 2)) (.cons (.ix (.var 1) (.var 2)) .nil))))) (.var 2)) (.lst false .nil)))
  .nil))) .nil)
  (.cons (.ifs (.or (.cons (.cmp .is (.var 1) .non) (.cons (.tru (.isi .str (.var 1))) .nil))) (.cons (.ret (.and (.cons (.cmp .eq (.var 0) (.var 1)) (.cons (.cmp .eq (.isi .str (.var 0)) (.isi .str (.var 1))) .nil))))
  .nil) .nil)
  (.cons (.ret (.and (.cons (.isi .int (.var 0)) (.cons (.cmp .eq (.isi .bool (.var 0)) (.isi .bool (.var 1))) (.cons (.cmp .eq (.var 0) (.var 1)) .nil)))))
  .nil)))
theorem c__law_alike : ckSs G (ccOf N__law_alike (defScope (top 36)) false) s__law_alike (defBody (top 36)) = true := by decide +kernel
def N__law_some : List Str := ["row", "every", "most", "k"]
def s__law_some : Ss := (.cons (.ret (.bf .tuple (.cons (.bn false .sorted (.cons (.bf .set (.cons (.lc false [("k", 3)] (.nm 3) (.rng1 (.call 23 (.cons (.var 0) (.cons (.bin .add (.var 2) (.int 1)) .nil)))) .yes (.call 24 (.cons (.var 0) (.cons (.var 1) .nil)))) .nil)) .nil)) .nil)))
  .nil)
theorem c__law_some : ckSs G (ccOf N__law_some (defScope (top 37)) false) s__law_some (defBody (top 37)) = true := by decide +kernel
def N__law_task : List Str := ["row", "every", "deeds", "name", "needs", "bars", "adds", "strikes", "one"]
def s__law_task : Ss := (.cons (.asg (.nm 1) (.sl false (.bn false .list (.cons (.str "abcdef") .nil)) .no (.yes (.bin .add (.int 3) (.call 23 (.cons (.var 0) (.cons (.int 4) .nil)))))))
  (.cons (.asg (.nm 2) (.lst true .nil))
  (.cons (.fors (.nm 3) (.seq (.sl false (.bn false .list (.cons (.str "pqrstuv") .nil)) .no (.yes (.bin .add (.int 2) (.call 23 (.cons (.var 0) (.cons (.int 6) .nil))))))) (.cons (.asg (.nm 4) (.call 26 (.cons (.var 0) (.cons (.var 1) (.cons (.int 2) .nil)))))
  (.cons (.asg (.nm 5) (.bf .tuple (.cons (.lc false [("one", 8)] (.nm 8) (.seq (.call 26 (.cons (.var 0) (.cons (.var 1) (.cons (.int 1) .nil))))) (.cmp .notin (.var 8) (.var 4)) (.var 8)) .nil)))
  (.cons (.asg (.nm 6) (.call 26 (.cons (.var 0) (.cons (.var 1) (.cons (.int 2) .nil)))))
  (.cons (.asg (.nm 7) (.bf .tuple (.cons (.lc false [("one", 8)] (.nm 8) (.seq (.call 24 (.cons (.var 0) (.cons (.lst false (.cons (.var 4) (.cons (.var 4) (.cons (.call 26 (.cons (.var 0) (.cons (.var 1) (.cons (.int 2) .nil)))) .nil)))) .nil)))) (.cmp .notin (.var 8) (.var 6)) (.var 8)) .nil)))
  (.cons (.expr (.app (.var 2) (.tup (.cons (.var 3) (.cons (.var 4) (.cons (.var 5) (.cons (.var 6) (.cons (.var 7) (.cons (.bin .add (.int 1) (.call 23 (.cons (.var 0) (.cons (.int 4) .nil)))) .nil)))))))))
  .nil))))))
  (.cons (.ret (.tup (.cons (.bf .tuple (.cons (.var 2) .nil)) (.cons (.call 26 (.cons (.var 0) (.cons (.var 1) (.cons (.int 2) .nil)))) (.cons (.call 26 (.cons (.var 0) (.cons (.var 1) (.cons (.int 2) .nil)))) .nil)))))
  .nil))))
theorem c__law_task : ckSs G (ccOf N__law_task (defScope (top 38)) false) s__law_task (defBody (top 38)) = true := by decide +kernel
def N__law_facts : List Str := ["task", "found", "deed"]
def s__law_facts : Ss := (.cons (.asg (.nm 1) (.bn false .list (.cons (.bin .add (.ix (.var 0) (.int 1)) (.ix (.var 0) (.int 2))) .nil)))
  (.cons (.fors (.nm 2) (.seq (.ix (.var 0) (.int 0))) (.cons (.asg (.nm 1) (.bin .add (.var 1) (.bn false .list (.cons (.bin .add (.bin .add (.bin .add (.ix (.var 2) (.int 1)) (.ix (.var 2) (.int 2))) (.ix (.var 2) (.int 3))) (.ix (.var 2) (.int 4))) .nil))))
  .nil))
  (.cons (.ret (.bn false .sorted (.cons (.bf .set (.cons (.var 1) .nil)) .nil)))
  .nil)))
theorem c__law_facts : ckSs G (ccOf N__law_facts (defScope (top 39)) false) s__law_facts (defBody (top 39)) = true := by decide +kernel
def N__law_holds : List Str := ["state", "some", "one"]
def s__law_holds : Ss := (.cons (.ret (.cmp .eq (.lc false [("one", 2)] (.nm 2) (.seq (.var 1)) (.cmp .notin (.var 2) (.var 0)) (.var 2)) (.lst false .nil)))
  .nil)
theorem c__law_holds : ckSs G (ccOf N__law_holds (defScope (top 40)) false) s__law_holds (defBody (top 40)) = true := by decide +kernel
def N__law_go : List Str := ["state", "deed", "one"]
def s__law_go : Ss := (.cons (.ifs (.or (.cons (.not (.tru (.call 29 (.cons (.var 0) (.cons (.ix (.var 1) (.int 1)) .nil))))) (.cons (.cmp .ne (.lc false [("one", 2)] (.nm 2) (.seq (.ix (.var 1) (.int 2))) (.cmp .in_ (.var 2) (.var 0)) (.var 2)) (.lst false .nil)) .nil))) (.cons (.ret .non)
  .nil) .nil)
  (.cons (.ret (.bf .tuple (.cons (.bn false .sorted (.cons (.bf .set (.cons (.bin .add (.lc false [("one", 2)] (.nm 2) (.seq (.var 0)) (.cmp .notin (.var 2) (.ix (.var 1) (.int 4))) (.var 2)) (.bn false .list (.cons (.ix (.var 1) (.int 3)) .nil))) .nil)) .nil)) .nil)))
  .nil))
theorem c__law_go : ckSs G (ccOf N__law_go (defScope (top 41)) false) s__law_go (defBody (top 41)) = true := by decide +kernel
def N__law_without : List Str := ["task", "name", "deed"]
def s__law_without : Ss := (.cons (.ret (.tup (.cons (.bf .tuple (.cons (.lc false [("deed", 2)] (.nm 2) (.seq (.ix (.var 0) (.int 0))) (.cmp .ne (.ix (.var 2) (.int 0)) (.var 1)) (.var 2)) .nil)) (.cons (.ix (.var 0) (.int 1)) (.cons (.ix (.var 0) (.int 2)) .nil)))))
  .nil)
theorem c__law_without : ckSs G (ccOf N__law_without (defScope (top 46)) false) s__law_without (defBody (top 46)) = true := by decide +kernel
def N__law_walk : List Str := ["task", "state", "names", "name", "some", "deed"]
def s__law_walk : Ss := (.cons (.fors (.nm 3) (.seq (.var 2)) (.cons (.asg (.nm 4) (.lc false [("deed", 5)] (.nm 5) (.seq (.ix (.var 0) (.int 0))) (.cmp .eq (.ix (.var 5) (.int 0)) (.var 3)) (.var 5)))
  (.cons (.asg (.nm 1) (.ite (.and (.cons (.cmp .ne (.var 4) (.lst false .nil)) (.cons (.cmp .isnot (.var 1) .non) .nil))) (.call 30 (.cons (.var 1) (.cons (.ix (.var 4) (.int 0)) .nil))) .non))
  .nil)))
  (.cons (.ret (.var 1))
  .nil))
theorem c__law_walk : ckSs G (ccOf N__law_walk (defScope (top 47)) false) s__law_walk (defBody (top 47)) = true := by decide +kernel
def N__law_are_facts : List Str := ["task", "value", "one"]
def s__law_are_facts : Ss := (.cons (.ifs (.or (.cons (.not (.tru (.isi .tuple (.var 1)))) (.cons (.cmp .ne (.lc false [("one", 2)] (.nm 2) (.seq (.var 1)) (.not (.tru (.isi .str (.var 2)))) (.var 2)) (.lst false .nil)) (.cons (.cmp .ne (.bn false .list (.cons (.var 1) .nil)) (.bn false .sorted (.cons (.bf .set (.cons (.var 1) .nil)) .nil))) .nil)))) (.cons (.ret (.bl false))
  .nil) .nil)
  (.cons (.ret (.call 29 (.cons (.call 28 (.cons (.var 0) .nil)) (.cons (.var 1) .nil))))
  .nil))
theorem c__law_are_facts : ckSs G (ccOf N__law_are_facts (defScope (top 48)) false) s__law_are_facts (defBody (top 48)) = true := by decide +kernel
def N__law_is_part : List Str := ["value", "one"]
def s__law_is_part : Ss := (.cons (.ifs (.or (.cons (.not (.tru (.isi .tuple (.var 0)))) (.cons (.cmp .ne (.lc false [("one", 1)] (.nm 1) (.seq (.var 0)) (.or (.cons (.not (.tru (.isi .str (.var 1)))) (.cons (.not (.chn .le .le (.int 1) (.bf .len (.cons (.var 1) .nil)) (.int 40))) .nil))) (.var 1)) (.lst false .nil)) .nil))) (.cons (.ret (.bl false))
  .nil) .nil)
  (.cons (.ret (.cmp .eq (.bn false .list (.cons (.var 0) .nil)) (.bn false .sorted (.cons (.bf .set (.cons (.var 0) .nil)) .nil))))
  .nil))
theorem c__law_is_part : ckSs G (ccOf N__law_is_part (defScope (top 49)) false) s__law_is_part (defBody (top 49)) = true := by decide +kernel
def N__law_is_deed : List Str := ["value", "part", "one"]
def s__law_is_deed : Ss := (.cons (.ifs (.or (.cons (.not (.tru (.isi .tuple (.var 0)))) (.cons (.cmp .ne (.bf .len (.cons (.var 0) .nil)) (.int 6)) (.cons (.not (.tru (.isi .str (.ix (.var 0) (.int 0))))) (.cons (.not (.chn .le .le (.int 1) (.bf .len (.cons (.ix (.var 0) (.int 0)) .nil)) (.int 40))) .nil))))) (.cons (.ret (.bl false))
  .nil) .nil)
  (.cons (.ifs (.or (.cons (.cmp .ne (.lc false [("part", 1)] (.nm 1) (.seq (.sl false (.var 0) (.yes (.int 1)) (.yes (.int 5)))) (.not (.tru (.call 34 (.cons (.var 1) .nil)))) (.var 1)) (.lst false .nil)) (.cons (.not (.tru (.isi .int (.ix (.var 0) (.int 5))))) (.cons (.tru (.isi .bool (.ix (.var 0) (.int 5)))) (.cons (.not (.chn .le .le (.int 1) (.ix (.var 0) (.int 5)) (.int 9))) .nil))))) (.cons (.ret (.bl false))
  .nil) .nil)
  (.cons (.ret (.cmp .eq (.bin .add (.lc false [("one", 2)] (.nm 2) (.seq (.ix (.var 0) (.int 1))) (.cmp .in_ (.var 2) (.ix (.var 0) (.int 2))) (.var 2)) (.lc false [("one", 2)] (.nm 2) (.seq (.ix (.var 0) (.int 3))) (.cmp .in_ (.var 2) (.ix (.var 0) (.int 4))) (.var 2))) (.lst false .nil)))
  .nil)))
theorem c__law_is_deed : ckSs G (ccOf N__law_is_deed (defScope (top 50)) false) s__law_is_deed (defBody (top 50)) = true := by decide +kernel
def N__law_wrong : List Str := ["value", "one", "names", "deed"]
def s__law_wrong : Ss := (.cons (.ifs (.or (.cons (.not (.tru (.isi .tuple (.var 0)))) (.cons (.cmp .ne (.bf .len (.cons (.var 0) .nil)) (.int 3)) .nil))) (.cons (.ret (.str "form"))
  .nil) .nil)
  (.cons (.ifs (.or (.cons (.not (.tru (.isi .tuple (.ix (.var 0) (.int 0))))) (.cons (.cmp .gt (.bf .len (.cons (.ix (.var 0) (.int 0)) .nil)) (.int 14)) (.cons (.cmp .ne (.lc false [("one", 1)] (.nm 1) (.seq (.ix (.var 0) (.int 0))) (.not (.tru (.call 35 (.cons (.var 1) .nil)))) (.var 1)) (.lst false .nil)) .nil)))) (.cons (.ret (.str "deeds"))
  .nil) .nil)
  (.cons (.asg (.nm 2) (.lc false [("deed", 3)] (.nm 3) (.seq (.ix (.var 0) (.int 0))) .yes (.ix (.var 3) (.int 0))))
  (.cons (.ifs (.cmp .ne (.var 2) (.bn false .sorted (.cons (.bf .set (.cons (.var 2) .nil)) .nil))) (.cons (.ret (.str "names"))
  .nil) .nil)
  (.cons (.ifs (.not (.tru (.call 34 (.cons (.ix (.var 0) (.int 1)) .nil)))) (.cons (.ret (.str "begin"))
  .nil) .nil)
  (.cons (.ifs (.not (.tru (.call 34 (.cons (.ix (.var 0) (.int 2)) .nil)))) (.cons (.ret (.str "wish"))
  .nil) .nil)
  (.cons (.ret (.ite (.cmp .gt (.bf .len (.cons (.call 28 (.cons (.var 0) .nil)) .nil)) (.int 10)) (.str "facts") .non))
  .nil)))))))
theorem c__law_wrong : ckSs G (ccOf N__law_wrong (defScope (top 51)) false) s__law_wrong (defBody (top 51)) = true := by decide +kernel
def N__law_rows_right : List Str := ["row", "task", "names", "deeds", "begin", "wish", "costs", "deed", "states", "at", "name", "j", "more", "value", "good", "bad", "due"]
def s__law_rows_right : Ss := (.cons (.asg (.tup [3, 4, 5]) (.var 1))
  (.cons (.asg (.nm 6) (.bf .dict (.cons (.lc false [("deed", 7)] (.nm 7) (.seq (.var 3)) .yes (.tup (.cons (.ix (.var 7) (.int 0)) (.cons (.ix (.var 7) (.int 5)) .nil)))) .nil)))
  (.cons (.asg (.nm 8) (.bf .tuple (.cons (.lc false [("at", 9)] (.nm 9) (.rng1 (.bin .add (.bf .len (.cons (.var 2) .nil)) (.int 1))) .yes (.call 32 (.cons (.var 1) (.cons (.var 4) (.cons (.sl false (.var 2) .no (.yes (.var 9))) .nil))))) .nil)))
  (.cons (.ifs (.or (.cons (.not (.tru (.call 25 (.cons (.call 20 (.cons (.var 1) (.cons (.var 2) .nil))) (.cons (.var 8) .nil))))) (.cons (.not (.tru (.call 25 (.cons (.call 21 (.cons (.var 1) (.cons (.var 2) .nil))) (.cons (.bf .sum (.cons (.lc false [("name", 10)] (.nm 10) (.seq (.var 2)) .yes (.ix (.var 6) (.var 10))) .nil)) .nil))))) .nil))) (.cons (.ret (.bl false))
  .nil) .nil)
  (.cons (.asg (.nm 11) (.call 23 (.cons (.var 0) (.cons (.bin .add (.bf .len (.cons (.var 2) .nil)) (.int 1)) .nil))))
  (.cons (.asg (.nm 12) (.bin .add (.bin .add (.sl false (.var 2) .no (.yes (.var 11))) (.tup (.cons (.call 24 (.cons (.var 0) (.cons (.bin .add (.lc false [("deed", 7)] (.nm 7) (.seq (.var 3)) .yes (.ix (.var 7) (.int 0))) (.lst false (.cons (.str "zz") (.cons .non (.cons (.int 2) .nil))))) .nil))) .nil))) (.sl false (.var 2) (.yes (.var 11)) .no)))
  (.cons (.fors (.nm 13) (.seq (.lst false (.cons (.var 2) (.cons (.var 12) (.cons (.bn false .list (.cons (.var 2) .nil)) (.cons .non (.cons (.rev false (.var 2)) (.cons (.sl false (.var 2) .no (.yes (.var 11))) .nil)))))))) (.cons (.asg (.nm 14) (.isi .tuple (.var 13)))
  (.cons (.asg (.nm 15) (.ite (.tru (.var 14)) (.lc false [("at", 9)] (.nm 9) (.rng1 (.bf .len (.cons (.var 13) .nil))) (.cmp .is (.call 32 (.cons (.var 1) (.cons (.var 4) (.cons (.sl false (.var 13) .no (.yes (.bin .add (.var 9) (.int 1)))) .nil)))) .non) (.var 9)) (.lst false .nil)))
  (.cons (.asg (.nm 16) (.ite (.cmp .ne (.var 15) (.lst false .nil)) (.tup (.cons (.str "bad") (.cons (.bin .add (.str "deed") (.bf .str (.cons (.ix (.var 15) (.int 0)) .nil))) .nil))) (.tup (.cons (.str "bad") (.cons (.str "deednone") .nil)))))
  (.cons (.ifs (.and (.cons (.tru (.var 14)) (.cons (.cmp .eq (.var 15) (.lst false .nil)) .nil))) (.cons (.asg (.nm 16) (.bf .tuple (.cons (.lc false [("at", 9)] (.nm 9) (.rng1 (.bin .add (.bf .len (.cons (.var 13) .nil)) (.int 1))) .yes (.call 32 (.cons (.var 1) (.cons (.var 4) (.cons (.sl false (.var 13) .no (.yes (.var 9))) .nil))))) .nil)))
  .nil) .nil)
  (.cons (.ifs (.not (.tru (.call 25 (.cons (.told 0 (.call 20 (.cons (.var 1) (.cons (.var 13) .nil)))) (.cons (.var 16) .nil))))) (.cons (.ret (.bl false))
  .nil) .nil)
  (.cons (.ifs (.not (.tru (.call 25 (.cons (.call 22 (.cons (.var 1) (.cons (.var 13) .nil))) (.cons (.and (.cons (.var 14) (.cons (.cmp .eq (.var 15) (.lst false .nil)) (.cons (.call 29 (.cons (.call 32 (.cons (.var 1) (.cons (.var 4) (.cons (.var 13) .nil)))) (.cons (.var 5) .nil))) .nil)))) .nil))))) (.cons (.ret (.bl false))
  .nil) .nil)
  .nil)))))))
  (.cons (.ret (.bl true))
  .nil))))))))
theorem c__law_rows_right : ckSs G (ccOf N__law_rows_right (defScope (top 53)) true) s__law_rows_right (defBody (top 53)) = true := by decide +kernel
def N_law : List Str := ["script", "row", "task", "deeds", "begin", "wish", "k", "one", "some", "other", "bent", "value", "many", "j", "word", "ask", "state", "names", "turn", "can", "due", "step", "deed"]
def s_law : Ss := (.cons (.asg (.nm 1) (.lst true (.cons (.var 0) (.cons (.int 0) (.cons (.int 20000) (.cons (.int 0) .nil))))))
  (.cons (.asg (.nm 2) (.call 27 (.cons (.var 1) .nil)))
  (.cons (.asg (.tup [3, 4, 5]) (.var 2))
  (.cons (.asg (.nm 6) (.call 23 (.cons (.var 1) (.cons (.bf .len (.cons (.var 3) .nil)) .nil))))
  (.cons (.asg (.nm 7) (.ix (.var 3) (.var 6)))
  (.cons (.asg (.nm 8) (.lst false (.cons (.bin .add (.sl false (.var 7) .no (.yes (.int 5))) (.tup (.cons (.int 0) .nil))) (.cons (.bin .add (.sl false (.var 7) .no (.yes (.int 5))) (.tup (.cons (.int 10) .nil))) (.cons (.bin .add (.sl false (.var 7) .no (.yes (.int 5))) (.tup (.cons (.bl true) .nil))) (.cons (.bin .add (.bin .add (.sl false (.var 7) .no (.yes (.int 1))) (.tup (.cons (.tup (.cons (.str "b") (.cons (.str "a") .nil))) .nil))) (.sl false (.var 7) (.yes (.int 2)) .no)) (.cons (.bin .add (.bin .add (.sl false (.var 7) .no (.yes (.int 1))) (.tup (.cons (.tup (.cons (.str "a") .nil)) (.cons (.tup (.cons (.str "a") .nil)) .nil)))) (.sl false (.var 7) (.yes (.int 3)) .no)) .nil)))))))
  (.cons (.asg (.nm 9) (.call 24 (.cons (.var 1) (.cons (.bin .add (.var 8) (.lst false (.cons (.bin .add (.sl false (.var 7) .no (.yes (.int 3))) (.tup (.cons (.tup (.cons (.str "a") .nil)) (.cons (.tup (.cons (.str "a") .nil)) (.cons (.int 1) .nil))))) (.cons (.bin .add (.tup (.cons (.str "") .nil)) (.sl false (.var 7) (.yes (.int 1)) .no)) (.cons (.bin .add (.tup (.cons (.bin .mul (.str "x") (.int 41)) .nil)) (.sl false (.var 7) (.yes (.int 1)) .no)) (.cons (.sl false (.var 7) .no (.yes (.int 5))) (.cons (.bn false .list (.cons (.var 7) .nil)) (.cons .non .nil)))))))) .nil))))
  (.cons (.asg (.nm 10) (.lst false (.cons (.var 2) (.cons (.bn false .list (.cons (.var 2) .nil)) (.cons (.sl false (.var 2) .no (.yes (.int 2))) (.cons (.tup (.cons (.bn false .list (.cons (.var 3) .nil)) (.cons (.var 4) (.cons (.var 5) .nil)))) (.cons (.tup (.cons (.bin .add (.bin .add (.sl false (.var 3) .no (.yes (.var 6))) (.tup (.cons (.var 9) .nil))) (.sl false (.var 3) (.yes (.bin .add (.var 6) (.int 1))) .no)) (.cons (.var 4) (.cons (.var 5) .nil)))) .nil)))))))
  (.cons (.asg (.nm 10) (.bin .add (.var 10) (.lst false (.cons (.tup (.cons (.bin .add (.var 3) (.tup (.cons (.var 7) .nil))) (.cons (.var 4) (.cons (.var 5) .nil)))) (.cons (.tup (.cons (.rev false (.var 3)) (.cons (.var 4) (.cons (.var 5) .nil)))) (.cons .non (.cons (.int 3) (.cons (.tup (.cons (.var 3) (.cons (.bn false .list (.cons (.var 4) .nil)) (.cons (.var 5) .nil)))) (.cons (.tup (.cons (.var 3) (.cons (.tup (.cons (.str "b") (.cons (.str "a") .nil))) (.cons (.var 5) .nil)))) .nil)))))))))
  (.cons (.asg (.nm 10) (.bin .add (.bin .add (.var 10) (.lc false [("value", 11)] (.nm 11) (.seq (.lst false (.cons (.tup (.cons (.str "a") (.cons (.str "a") .nil))) (.cons .non (.cons (.tup (.cons (.int 1) .nil)) .nil))))) .yes (.tup (.cons (.var 3) (.cons (.var 4) (.cons (.var 11) .nil)))))) (.lst false (.cons (.tup (.cons (.var 3) (.cons (.bf .tuple (.cons (.bn false .list (.cons (.str "abcdefghijk") .nil)) .nil)) (.cons (.var 5) .nil)))) (.cons (.tup (.cons (.var 3) (.cons (.tup (.cons (.str "") (.cons (.str "a") .nil))) (.cons (.var 5) .nil)))) .nil)))))
  (.cons (.asg (.nm 12) (.bf .tuple (.cons (.lc false [("j", 13)] (.nm 13) (.rng1 (.int 15)) .yes (.tup (.cons (.bin .add (.str "n") (.bf .str (.cons (.bin .add (.int 10) (.var 13)) .nil))) (.cons (.tup .nil) (.cons (.tup .nil) (.cons (.tup .nil) (.cons (.tup .nil) (.cons (.int 1) .nil)))))))) .nil)))
  (.cons (.fors (.nm 11) (.seq (.bin .add (.var 10) (.lst false (.cons (.tup (.cons (.var 12) (.cons (.var 4) (.cons (.var 5) .nil)))) (.cons (.tup (.cons (.sl false (.var 12) .no (.yes (.int 14))) (.cons (.var 4) (.cons (.var 5) .nil)))) (.cons (.tup (.cons (.tup .nil) (.cons (.tup .nil) (.cons (.tup .nil) .nil)))) .nil)))))) (.cons (.asg (.nm 14) (.call 36 (.cons (.var 11) .nil)))
  (.cons (.ifs (.not (.tru (.call 25 (.cons (.call 10 (.cons (.var 11) .nil)) (.cons (.cmp .is (.var 14) .non) .nil))))) (.cons (.ret (.bl false))
  .nil) .nil)
  (.cons (.ifs (.and (.cons (.cmp .isnot (.var 14) .non) (.cons (.cmp .ne (.told 0 (.call 12 (.cons (.var 11) .nil))) (.tup (.cons (.str "bad") (.cons (.var 14) .nil)))) .nil))) (.cons (.ret (.bl false))
  .nil) .nil)
  (.cons (.ifs (.and (.cons (.cmp .isnot (.var 14) .non) (.cons (.cmp .ne (.lc false [("ask", 15)] (.nm 15) (.seq (.lst false (.cons (.glb 4) (.cons (.glb 5) (.cons (.glb 6) (.cons (.glb 7) .nil)))))) .yes (.told 0 (.callv 15 (.cons (.var 11) (.cons .non .nil))))) (.bin .mul (.lst false (.cons (.tup (.cons (.str "bad") (.cons (.var 14) .nil))) .nil)) (.int 4))) .nil))) (.cons (.ret (.bl false))
  .nil) .nil)
  .nil)))))
  (.cons (.ifs (.not (.tru (.call 25 (.cons (.call 12 (.cons (.var 2) .nil)) (.cons (.bf .tuple (.cons (.call 28 (.cons (.var 2) .nil)) .nil)) .nil))))) (.cons (.ret (.bl false))
  .nil) .nil)
  (.cons (.asg (.tup [16, 17]) (.tup (.cons (.var 4) (.cons (.tup .nil) .nil))))
  (.cons (.fors (.nm 18) (.rng1 (.int 6)) (.cons (.asg (.nm 19) (.lc false [("deed", 22)] (.nm 22) (.seq (.var 3)) (.cmp .isnot (.call 30 (.cons (.var 16) (.cons (.var 22) .nil))) .non) (.var 22)))
  (.cons (.ifs (.not (.tru (.call 25 (.cons (.call 18 (.cons (.var 2) (.cons (.var 16) .nil))) (.cons (.bf .tuple (.cons (.lc false [("deed", 22)] (.nm 22) (.seq (.var 19)) .yes (.ix (.var 22) (.int 0))) .nil)) .nil))))) (.cons (.ret (.bl false))
  .nil) .nil)
  (.cons (.fors (.nm 11) (.seq (.bin .add (.lc false [("deed", 22)] (.nm 22) (.seq (.var 3)) .yes (.ix (.var 22) (.int 0))) (.lst false (.cons (.str "zz") (.cons .non (.cons (.int 1) (.cons (.tup (.cons (.str "p") .nil)) .nil))))))) (.cons (.asg (.nm 8) (.lc false [("deed", 22)] (.nm 22) (.seq (.var 19)) (.cmp .eq (.ix (.var 22) (.int 0)) (.var 11)) (.var 22)))
  (.cons (.asg (.nm 20) (.ite (.cmp .ne (.var 8) (.lst false .nil)) (.call 30 (.cons (.var 16) (.cons (.ix (.var 8) (.int 0)) .nil))) (.tup (.cons (.str "bad") (.cons (.str "deednone") .nil)))))
  (.cons (.ifs (.not (.tru (.call 25 (.cons (.told 0 (.call 19 (.cons (.var 2) (.cons (.var 16) (.cons (.var 11) .nil))))) (.cons (.var 20) .nil))))) (.cons (.ret (.bl false))
  .nil) .nil)
  .nil))))
  (.cons (.ifs (.cmp .ne (.var 19) (.lst false .nil)) (.cons (.asg (.nm 21) (.call 24 (.cons (.var 1) (.cons (.var 19) .nil))))
  (.cons (.asg (.tup [16, 17]) (.tup (.cons (.call 30 (.cons (.var 16) (.cons (.var 21) .nil))) (.cons (.bin .add (.var 17) (.tup (.cons (.ix (.var 21) (.int 0)) .nil))) .nil))))
  .nil)) .nil)
  .nil)))))
  (.cons (.ifs (.not (.tru (.call 37 (.cons (.var 1) (.cons (.var 2) (.cons (.var 17) .nil)))))) (.cons (.ret (.bl false))
  .nil) .nil)
  (.cons (.ret (.cmp .eq (.lc false [("value", 11)] (.nm 11) (.seq (.lst false (.cons .non (.cons (.bn false .list (.cons (.var 4) .nil)) (.cons (.tup (.cons (.str "zz") .nil)) (.cons (.tup (.cons (.str "b") (.cons (.str "a") .nil))) (.cons (.str "a") .nil))))))) (.cmp .ne (.told 0 (.call 18 (.cons (.var 2) (.cons (.var 11) .nil)))) (.tup (.cons (.str "bad") (.cons (.str "state") .nil)))) (.var 11)) (.lst false .nil)))
  .nil)))))))))))))))))
theorem c_law : ckSs G (ccOf N_law (defScope (top 54)) true) s_law (defBody (top 54)) = true := by decide +kernel
def d_is_integer : Df := ⟨"is_integer", N_is_integer, ["value"], s_is_integer, false⟩
def d_is_number : Df := ⟨"is_number", N_is_number, ["value", "least", "most"], s_is_number, false⟩
def d_is_sign_row : Df := ⟨"is_sign_row", N_is_sign_row, ["value"], s_is_sign_row, false⟩
def d_is_ascending : Df := ⟨"is_ascending", N_is_ascending, ["words"], s_is_ascending, false⟩
def d_is_facts : Df := ⟨"is_facts", N_is_facts, ["value"], s_is_facts, false⟩
def d_is_deed : Df := ⟨"is_deed", N_is_deed, ["value"], s_is_deed, false⟩
def d_all_stand : Df := ⟨"all_stand", N_all_stand, ["wanted", "state"], s_all_stand, false⟩
def d_some_stand : Df := ⟨"some_stand", N_some_stand, ["unwanted", "state"], s_some_stand, false⟩
def d_told_facts : Df := ⟨"told_facts", N_told_facts, ["task"], s_told_facts, false⟩
def d_wrong_word : Df := ⟨"wrong_word", N_wrong_word, ["value"], s_wrong_word, false⟩
def d_is_task : Df := ⟨"is_task", N_is_task, ["value"], s_is_task, false⟩
def d_check_task : Df := ⟨"check_task", N_check_task, ["task"], s_check_task, false⟩
def d_facts : Df := ⟨"facts", N_facts, ["task"], s_facts, false⟩
def d_is_facts_among : Df := ⟨"is_facts_among", N_is_facts_among, ["value", "signs"], s_is_facts_among, false⟩
def d_check_state : Df := ⟨"check_state", N_check_state, ["task", "state"], s_check_state, false⟩
def d_can_be_done : Df := ⟨"can_be_done", N_can_be_done, ["deed", "state"], s_can_be_done, false⟩
def d_state_behind : Df := ⟨"state_behind", N_state_behind, ["deed", "state"], s_state_behind, false⟩
def d_deed_to_do : Df := ⟨"deed_to_do", N_deed_to_do, ["task", "state", "name"], s_deed_to_do, false⟩
def d_open_deeds : Df := ⟨"open_deeds", N_open_deeds, ["task", "state"], s_open_deeds, false⟩
def d_done : Df := ⟨"done", N_done, ["task", "state", "name"], s_done, false⟩
def d_run : Df := ⟨"run", N_run, ["task", "names"], s_run, false⟩
def d_price : Df := ⟨"price", N_price, ["task", "names"], s_price, false⟩
def d_is_plan : Df := ⟨"is_plan", N_is_plan, ["task", "value"], s_is_plan, false⟩
def d__law_taken : Df := ⟨"_law_taken", N__law_taken, ["row", "many"], s__law_taken, false⟩
def d__law_pick : Df := ⟨"_law_pick", N__law_pick, ["row", "things"], s__law_pick, false⟩
def d__law_alike : Df := ⟨"_law_alike", N__law_alike, ["found", "due"], s__law_alike, false⟩
def d__law_some : Df := ⟨"_law_some", N__law_some, ["row", "every", "most"], s__law_some, false⟩
def d__law_task : Df := ⟨"_law_task", N__law_task, ["row"], s__law_task, false⟩
def d__law_facts : Df := ⟨"_law_facts", N__law_facts, ["task"], s__law_facts, false⟩
def d__law_holds : Df := ⟨"_law_holds", N__law_holds, ["state", "some"], s__law_holds, false⟩
def d__law_go : Df := ⟨"_law_go", N__law_go, ["state", "deed"], s__law_go, false⟩
def d__law_without : Df := ⟨"_law_without", N__law_without, ["task", "name"], s__law_without, false⟩
def d__law_walk : Df := ⟨"_law_walk", N__law_walk, ["task", "state", "names"], s__law_walk, false⟩
def d__law_are_facts : Df := ⟨"_law_are_facts", N__law_are_facts, ["task", "value"], s__law_are_facts, false⟩
def d__law_is_part : Df := ⟨"_law_is_part", N__law_is_part, ["value"], s__law_is_part, false⟩
def d__law_is_deed : Df := ⟨"_law_is_deed", N__law_is_deed, ["value"], s__law_is_deed, false⟩
def d__law_wrong : Df := ⟨"_law_wrong", N__law_wrong, ["value"], s__law_wrong, false⟩
def d__law_rows_right : Df := ⟨"_law_rows_right", N__law_rows_right, ["row", "task", "names"], s__law_rows_right, true⟩
def d_law : Df := ⟨"law", N_law, ["script"], s_law, true⟩
def ds0 : List Df := [d_is_integer, d_is_number, d_is_sign_row, d_is_ascending, d_is_facts, d_is_deed, d_all_stand, d_some_stand]
def ds1 : List Df := [d_told_facts, d_wrong_word, d_is_task, d_check_task, d_facts, d_is_facts_among, d_check_state, d_can_be_done]
def ds2 : List Df := [d_state_behind, d_deed_to_do, d_open_deeds, d_done, d_run, d_price, d_is_plan, d__law_taken]
def ds3 : List Df := [d__law_pick, d__law_alike, d__law_some, d__law_task, d__law_facts, d__law_holds, d__law_go, d__law_without]
def ds4 : List Df := [d__law_walk, d__law_are_facts, d__law_is_part, d__law_is_deed, d__law_wrong, d__law_rows_right, d_law]
def ds : List Df := ds0 ++ ds1 ++ ds2 ++ ds3 ++ ds4
theorem names_ok : fns = ds.map fun d => (d.name, d.ps.length) := by decide +kernel

end Wr.K00

set_option maxHeartbeats 0
namespace Wr.K00
open PySem PySem.Spec PyProof.Rows L2 Wr

def D10 : He.DefD := ddOf "is_integer" (top 10)
def D11 : He.DefD := ddOf "is_number" (top 11)
def D12 : He.DefD := ddOf "is_sign_row" (top 12)
def D13 : He.DefD := ddOf "is_ascending" (top 13)
def D14 : He.DefD := ddOf "is_facts" (top 14)
def D15 : He.DefD := ddOf "is_deed" (top 15)
def D16 : He.DefD := ddOf "all_stand" (top 16)
def D17 : He.DefD := ddOf "some_stand" (top 17)
def D18 : He.DefD := ddOf "told_facts" (top 18)
def D19 : He.DefD := ddOf "wrong_word" (top 19)
def D20 : He.DefD := ddOf "is_task" (top 20)
def D21 : He.DefD := ddOf "check_task" (top 21)
def D22 : He.DefD := ddOf "facts" (top 22)
def D23 : He.DefD := ddOf "is_facts_among" (top 23)
def D24 : He.DefD := ddOf "check_state" (top 24)
def D25 : He.DefD := ddOf "can_be_done" (top 25)
def D26 : He.DefD := ddOf "state_behind" (top 26)
def D27 : He.DefD := ddOf "deed_to_do" (top 27)
def D28 : He.DefD := ddOf "open_deeds" (top 28)
def D29 : He.DefD := ddOf "done" (top 29)
def D30 : He.DefD := ddOf "run" (top 30)
def D31 : He.DefD := ddOf "price" (top 31)
def D32 : He.DefD := ddOf "is_plan" (top 32)
def D34 : He.DefD := ddOf "_law_taken" (top 34)
def D35 : He.DefD := ddOf "_law_pick" (top 35)
def D36 : He.DefD := ddOf "_law_alike" (top 36)
def D37 : He.DefD := ddOf "_law_some" (top 37)
def D38 : He.DefD := ddOf "_law_task" (top 38)
def D39 : He.DefD := ddOf "_law_facts" (top 39)
def D40 : He.DefD := ddOf "_law_holds" (top 40)
def D41 : He.DefD := ddOf "_law_go" (top 41)
def D46 : He.DefD := ddOf "_law_without" (top 46)
def D47 : He.DefD := ddOf "_law_walk" (top 47)
def D48 : He.DefD := ddOf "_law_are_facts" (top 48)
def D49 : He.DefD := ddOf "_law_is_part" (top 49)
def D50 : He.DefD := ddOf "_law_is_deed" (top 50)
def D51 : He.DefD := ddOf "_law_wrong" (top 51)
def D52 : He.DefD := ddOf "_law_told" (top 52)
def D53 : He.DefD := ddOf "_law_rows_right" (top 53)
def D54 : He.DefD := ddOf "law" (top 54)
def I2_0 : He.DefD := ddIn "BadTask" "__init__" "BadTask.__init__" (inClass (top 2) 0)
def I3_0 : He.DefD := ddIn "BadState" "__init__" "BadState.__init__" (inClass (top 3) 0)
def I4_0 : He.DefD := ddIn "BadDeed" "__init__" "BadDeed.__init__" (inClass (top 4) 0)
def fnl0 : List He.DefD := [D10, D11, D12, D13, D14, D15, D16, D17, D18, D19]
def fnl1 : List He.DefD := [D20, D21, D22, D23, D24, D25, D26, D27, D28, D29]
def fnl2 : List He.DefD := [D30, D31, D32, D34, D35, D36, D37, D38, D39, D40]
def fnl3 : List He.DefD := [D41, D46, D47, D48, D49, D50, D51, D52, D53, D54]
def fnl4 : List He.DefD := [I2_0, I3_0, I4_0]
def fn : List He.DefD := fnl0 ++ fnl1 ++ fnl2 ++ fnl3 ++ fnl4
def gl0 : List Str := ["is_integer", "is_number", "is_sign_row", "is_ascending", "is_facts", "is_deed", "all_stand", "some_stand", "told_facts", "wrong_word"]
def gl1 : List Str := ["is_task", "check_task", "facts", "is_facts_among", "check_state", "can_be_done", "state_behind", "deed_to_do", "open_deeds", "done"]
def gl2 : List Str := ["run", "price", "is_plan", "_law_taken", "_law_pick", "_law_alike", "_law_some", "_law_task", "_law_facts", "_law_holds"]
def gl3 : List Str := ["_law_go", "_law_without", "_law_walk", "_law_are_facts", "_law_is_part", "_law_is_deed", "_law_wrong", "_law_told", "_law_rows_right", "law"]
def gl : List Str := gl0 ++ gl1 ++ gl2 ++ gl3
def ls : List Str := ["_law_rows_right", "law"]
def nm0 : List PySem.Str := ["__name__", "PlanError", "BadTask", "BadState", "BadDeed", "MOST_SIGNS", "MOST_DEEDS", "MOST_FACTS", "MOST_PRICE", "is_integer"]
def nm1 : List PySem.Str := ["is_number", "is_sign_row", "is_ascending", "is_facts", "is_deed", "all_stand", "some_stand", "told_facts", "wrong_word", "is_task"]
def nm2 : List PySem.Str := ["check_task", "facts", "is_facts_among", "check_state", "can_be_done", "state_behind", "deed_to_do", "open_deeds", "done", "run"]
def nm3 : List PySem.Str := ["price", "is_plan", "_law_taken", "_law_pick", "_law_alike", "_law_some", "_law_task", "_law_facts", "_law_holds", "_law_go"]
def nm4 : List PySem.Str := ["_law_met", "_law_left", "_law_table", "_law_best", "_law_without", "_law_walk", "_law_are_facts", "_law_is_part", "_law_is_deed", "_law_wrong"]
def nm5 : List PySem.Str := ["_law_told", "_law_rows_right"]
def names : List PySem.Str := nm0 ++ nm1 ++ nm2 ++ nm3 ++ nm4 ++ nm5
abbrev R : PySem.W.OpenRow := PySem.W.OpenLaw.row PySem.Challenge.rw_wishroads_k00_whole_tasks
def ask (K : PySem.W.Frag) : Bool := askB G "PlanError" gl ls K
abbrev hk : PySem.W.Hook := hookW 6 ask fn
def ob (s : PySem.W.SharedT) : AlW := obsWG 6 ask fn (HandSHeadRun.getT s)
theorem ob_eq (s : PySem.W.SharedT) : ob s = hk.obs s.abs := obsW_eq (HandSHeadRun.getT_eq s)
theorem run (w : World) : HandSHeadRun.RunEq R (PySem.W.view R.prog [54]) hk ob 4000 names w := by
  intro os
  kernel_rfl
end Wr.K00

set_option maxHeartbeats 0
namespace Wr.K00
open PySem PySem.Spec PyProof.Rows L2 Wr

section
variable {P0 : Program} {w : World} {K : PySem.W.Frag} {mg : Str → Option Value} {base : Heap}
theorem exc_txt (c : obsW ask fn K = (true, fn.map He.DefD.val)) : ExcTxt P0 w K mg base G "PlanError" := by
  intro j x fo hj xc bs
  match j, hj with
  | 0, hj =>
    cases hj
    obtain ⟨fd, F, b⟩ := init_at c 40 (C := "BadTask") (m := "__init__") (qual := "BadTask.__init__") (st := inClass (top 2) 0) rfl (ps := ["self", "word"]) (fun _ _ _ _ _ _ us hl => match us, hl with | [_, _], _ => rfl)
    exact xfact1 xc bs F b (scB_ok (by decide +kernel)) (by decide) (by decide +kernel) (by decide +kernel) (by decide +kernel) (by decide) (by decide) (by decide +kernel) rfl
  | 1, hj =>
    cases hj
    obtain ⟨fd, F, b⟩ := init_at c 41 (C := "BadState") (m := "__init__") (qual := "BadState.__init__") (st := inClass (top 3) 0) rfl (ps := ["self"]) (fun _ _ _ _ _ _ us hl => match us, hl with | [_], _ => rfl)
    exact xfact0 xc bs F b (scB_ok (by decide +kernel)) (by decide) (by decide +kernel) (by decide +kernel) (by decide +kernel) rfl
  | 2, hj =>
    cases hj
    obtain ⟨fd, F, b⟩ := init_at c 42 (C := "BadDeed") (m := "__init__") (qual := "BadDeed.__init__") (st := inClass (top 4) 0) rfl (ps := ["self", "index"]) (fun _ _ _ _ _ _ us hl => match us, hl with | [_, _], _ => rfl)
    exact xfact1 xc bs F b (scB_ok (by decide +kernel)) (by decide) (by decide +kernel) (by decide +kernel) (by decide +kernel) (by decide) (by decide) (by decide +kernel) rfl
  | n + 3, hj => cases hj
theorem at_is_integer (c : obsW ask fn K = (true, fn.map He.DefD.val)) (g : ∀ x ∈ gl, mg x = some (.ref (He.ga K x))) (l : ∀ x ∈ ls, lamB K x = true) : DfAt G K mg d_is_integer (top 10) :=
  df_at c 0 (d := d_is_integer) (st := top 10) rfl (g "is_integer" (List.elem_iff.mp (by decide +kernel))) (fun e => nomatch e) (fun _ _ _ _ _ _ us hl => match us, hl with | [_], _ => rfl) (by decide +kernel) c_is_integer
theorem at_is_number (c : obsW ask fn K = (true, fn.map He.DefD.val)) (g : ∀ x ∈ gl, mg x = some (.ref (He.ga K x))) (l : ∀ x ∈ ls, lamB K x = true) : DfAt G K mg d_is_number (top 11) :=
  df_at c 1 (d := d_is_number) (st := top 11) rfl (g "is_number" (List.elem_iff.mp (by decide +kernel))) (fun e => nomatch e) (fun _ _ _ _ _ _ us hl => match us, hl with | [_, _, _], _ => rfl) (by decide +kernel) c_is_number
theorem at_is_sign_row (c : obsW ask fn K = (true, fn.map He.DefD.val)) (g : ∀ x ∈ gl, mg x = some (.ref (He.ga K x))) (l : ∀ x ∈ ls, lamB K x = true) : DfAt G K mg d_is_sign_row (top 12) :=
  df_at c 2 (d := d_is_sign_row) (st := top 12) rfl (g "is_sign_row" (List.elem_iff.mp (by decide +kernel))) (fun e => nomatch e) (fun _ _ _ _ _ _ us hl => match us, hl with | [_], _ => rfl) (by decide +kernel) c_is_sign_row
theorem at_is_ascending (c : obsW ask fn K = (true, fn.map He.DefD.val)) (g : ∀ x ∈ gl, mg x = some (.ref (He.ga K x))) (l : ∀ x ∈ ls, lamB K x = true) : DfAt G K mg d_is_ascending (top 13) :=
  df_at c 3 (d := d_is_ascending) (st := top 13) rfl (g "is_ascending" (List.elem_iff.mp (by decide +kernel))) (fun e => nomatch e) (fun _ _ _ _ _ _ us hl => match us, hl with | [_], _ => rfl) (by decide +kernel) c_is_ascending
theorem at_is_facts (c : obsW ask fn K = (true, fn.map He.DefD.val)) (g : ∀ x ∈ gl, mg x = some (.ref (He.ga K x))) (l : ∀ x ∈ ls, lamB K x = true) : DfAt G K mg d_is_facts (top 14) :=
  df_at c 4 (d := d_is_facts) (st := top 14) rfl (g "is_facts" (List.elem_iff.mp (by decide +kernel))) (fun e => nomatch e) (fun _ _ _ _ _ _ us hl => match us, hl with | [_], _ => rfl) (by decide +kernel) c_is_facts
theorem at_is_deed (c : obsW ask fn K = (true, fn.map He.DefD.val)) (g : ∀ x ∈ gl, mg x = some (.ref (He.ga K x))) (l : ∀ x ∈ ls, lamB K x = true) : DfAt G K mg d_is_deed (top 15) :=
  df_at c 5 (d := d_is_deed) (st := top 15) rfl (g "is_deed" (List.elem_iff.mp (by decide +kernel))) (fun e => nomatch e) (fun _ _ _ _ _ _ us hl => match us, hl with | [_], _ => rfl) (by decide +kernel) c_is_deed
theorem at_all_stand (c : obsW ask fn K = (true, fn.map He.DefD.val)) (g : ∀ x ∈ gl, mg x = some (.ref (He.ga K x))) (l : ∀ x ∈ ls, lamB K x = true) : DfAt G K mg d_all_stand (top 16) :=
  df_at c 6 (d := d_all_stand) (st := top 16) rfl (g "all_stand" (List.elem_iff.mp (by decide +kernel))) (fun e => nomatch e) (fun _ _ _ _ _ _ us hl => match us, hl with | [_, _], _ => rfl) (by decide +kernel) c_all_stand
theorem at_some_stand (c : obsW ask fn K = (true, fn.map He.DefD.val)) (g : ∀ x ∈ gl, mg x = some (.ref (He.ga K x))) (l : ∀ x ∈ ls, lamB K x = true) : DfAt G K mg d_some_stand (top 17) :=
  df_at c 7 (d := d_some_stand) (st := top 17) rfl (g "some_stand" (List.elem_iff.mp (by decide +kernel))) (fun e => nomatch e) (fun _ _ _ _ _ _ us hl => match us, hl with | [_, _], _ => rfl) (by decide +kernel) c_some_stand
theorem at_told_facts (c : obsW ask fn K = (true, fn.map He.DefD.val)) (g : ∀ x ∈ gl, mg x = some (.ref (He.ga K x))) (l : ∀ x ∈ ls, lamB K x = true) : DfAt G K mg d_told_facts (top 18) :=
  df_at c 8 (d := d_told_facts) (st := top 18) rfl (g "told_facts" (List.elem_iff.mp (by decide +kernel))) (fun e => nomatch e) (fun _ _ _ _ _ _ us hl => match us, hl with | [_], _ => rfl) (by decide +kernel) c_told_facts
theorem at_wrong_word (c : obsW ask fn K = (true, fn.map He.DefD.val)) (g : ∀ x ∈ gl, mg x = some (.ref (He.ga K x))) (l : ∀ x ∈ ls, lamB K x = true) : DfAt G K mg d_wrong_word (top 19) :=
  df_at c 9 (d := d_wrong_word) (st := top 19) rfl (g "wrong_word" (List.elem_iff.mp (by decide +kernel))) (fun e => nomatch e) (fun _ _ _ _ _ _ us hl => match us, hl with | [_], _ => rfl) (by decide +kernel) c_wrong_word
theorem at_is_task (c : obsW ask fn K = (true, fn.map He.DefD.val)) (g : ∀ x ∈ gl, mg x = some (.ref (He.ga K x))) (l : ∀ x ∈ ls, lamB K x = true) : DfAt G K mg d_is_task (top 20) :=
  df_at c 10 (d := d_is_task) (st := top 20) rfl (g "is_task" (List.elem_iff.mp (by decide +kernel))) (fun e => nomatch e) (fun _ _ _ _ _ _ us hl => match us, hl with | [_], _ => rfl) (by decide +kernel) c_is_task
theorem at_check_task (c : obsW ask fn K = (true, fn.map He.DefD.val)) (g : ∀ x ∈ gl, mg x = some (.ref (He.ga K x))) (l : ∀ x ∈ ls, lamB K x = true) : DfAt G K mg d_check_task (top 21) :=
  df_at c 11 (d := d_check_task) (st := top 21) rfl (g "check_task" (List.elem_iff.mp (by decide +kernel))) (fun e => nomatch e) (fun _ _ _ _ _ _ us hl => match us, hl with | [_], _ => rfl) (by decide +kernel) c_check_task
theorem at_facts (c : obsW ask fn K = (true, fn.map He.DefD.val)) (g : ∀ x ∈ gl, mg x = some (.ref (He.ga K x))) (l : ∀ x ∈ ls, lamB K x = true) : DfAt G K mg d_facts (top 22) :=
  df_at c 12 (d := d_facts) (st := top 22) rfl (g "facts" (List.elem_iff.mp (by decide +kernel))) (fun e => nomatch e) (fun _ _ _ _ _ _ us hl => match us, hl with | [_], _ => rfl) (by decide +kernel) c_facts
theorem at_is_facts_among (c : obsW ask fn K = (true, fn.map He.DefD.val)) (g : ∀ x ∈ gl, mg x = some (.ref (He.ga K x))) (l : ∀ x ∈ ls, lamB K x = true) : DfAt G K mg d_is_facts_among (top 23) :=
  df_at c 13 (d := d_is_facts_among) (st := top 23) rfl (g "is_facts_among" (List.elem_iff.mp (by decide +kernel))) (fun e => nomatch e) (fun _ _ _ _ _ _ us hl => match us, hl with | [_, _], _ => rfl) (by decide +kernel) c_is_facts_among
theorem at_check_state (c : obsW ask fn K = (true, fn.map He.DefD.val)) (g : ∀ x ∈ gl, mg x = some (.ref (He.ga K x))) (l : ∀ x ∈ ls, lamB K x = true) : DfAt G K mg d_check_state (top 24) :=
  df_at c 14 (d := d_check_state) (st := top 24) rfl (g "check_state" (List.elem_iff.mp (by decide +kernel))) (fun e => nomatch e) (fun _ _ _ _ _ _ us hl => match us, hl with | [_, _], _ => rfl) (by decide +kernel) c_check_state
theorem at_can_be_done (c : obsW ask fn K = (true, fn.map He.DefD.val)) (g : ∀ x ∈ gl, mg x = some (.ref (He.ga K x))) (l : ∀ x ∈ ls, lamB K x = true) : DfAt G K mg d_can_be_done (top 25) :=
  df_at c 15 (d := d_can_be_done) (st := top 25) rfl (g "can_be_done" (List.elem_iff.mp (by decide +kernel))) (fun e => nomatch e) (fun _ _ _ _ _ _ us hl => match us, hl with | [_, _], _ => rfl) (by decide +kernel) c_can_be_done
theorem at_state_behind (c : obsW ask fn K = (true, fn.map He.DefD.val)) (g : ∀ x ∈ gl, mg x = some (.ref (He.ga K x))) (l : ∀ x ∈ ls, lamB K x = true) : DfAt G K mg d_state_behind (top 26) :=
  df_at c 16 (d := d_state_behind) (st := top 26) rfl (g "state_behind" (List.elem_iff.mp (by decide +kernel))) (fun e => nomatch e) (fun _ _ _ _ _ _ us hl => match us, hl with | [_, _], _ => rfl) (by decide +kernel) c_state_behind
theorem at_deed_to_do (c : obsW ask fn K = (true, fn.map He.DefD.val)) (g : ∀ x ∈ gl, mg x = some (.ref (He.ga K x))) (l : ∀ x ∈ ls, lamB K x = true) : DfAt G K mg d_deed_to_do (top 27) :=
  df_at c 17 (d := d_deed_to_do) (st := top 27) rfl (g "deed_to_do" (List.elem_iff.mp (by decide +kernel))) (fun e => nomatch e) (fun _ _ _ _ _ _ us hl => match us, hl with | [_, _, _], _ => rfl) (by decide +kernel) c_deed_to_do
theorem at_open_deeds (c : obsW ask fn K = (true, fn.map He.DefD.val)) (g : ∀ x ∈ gl, mg x = some (.ref (He.ga K x))) (l : ∀ x ∈ ls, lamB K x = true) : DfAt G K mg d_open_deeds (top 28) :=
  df_at c 18 (d := d_open_deeds) (st := top 28) rfl (g "open_deeds" (List.elem_iff.mp (by decide +kernel))) (fun e => nomatch e) (fun _ _ _ _ _ _ us hl => match us, hl with | [_, _], _ => rfl) (by decide +kernel) c_open_deeds
theorem at_done (c : obsW ask fn K = (true, fn.map He.DefD.val)) (g : ∀ x ∈ gl, mg x = some (.ref (He.ga K x))) (l : ∀ x ∈ ls, lamB K x = true) : DfAt G K mg d_done (top 29) :=
  df_at c 19 (d := d_done) (st := top 29) rfl (g "done" (List.elem_iff.mp (by decide +kernel))) (fun e => nomatch e) (fun _ _ _ _ _ _ us hl => match us, hl with | [_, _, _], _ => rfl) (by decide +kernel) c_done
theorem at_run (c : obsW ask fn K = (true, fn.map He.DefD.val)) (g : ∀ x ∈ gl, mg x = some (.ref (He.ga K x))) (l : ∀ x ∈ ls, lamB K x = true) : DfAt G K mg d_run (top 30) :=
  df_at c 20 (d := d_run) (st := top 30) rfl (g "run" (List.elem_iff.mp (by decide +kernel))) (fun e => nomatch e) (fun _ _ _ _ _ _ us hl => match us, hl with | [_, _], _ => rfl) (by decide +kernel) c_run
theorem at_price (c : obsW ask fn K = (true, fn.map He.DefD.val)) (g : ∀ x ∈ gl, mg x = some (.ref (He.ga K x))) (l : ∀ x ∈ ls, lamB K x = true) : DfAt G K mg d_price (top 31) :=
  df_at c 21 (d := d_price) (st := top 31) rfl (g "price" (List.elem_iff.mp (by decide +kernel))) (fun e => nomatch e) (fun _ _ _ _ _ _ us hl => match us, hl with | [_, _], _ => rfl) (by decide +kernel) c_price
theorem at_is_plan (c : obsW ask fn K = (true, fn.map He.DefD.val)) (g : ∀ x ∈ gl, mg x = some (.ref (He.ga K x))) (l : ∀ x ∈ ls, lamB K x = true) : DfAt G K mg d_is_plan (top 32) :=
  df_at c 22 (d := d_is_plan) (st := top 32) rfl (g "is_plan" (List.elem_iff.mp (by decide +kernel))) (fun e => nomatch e) (fun _ _ _ _ _ _ us hl => match us, hl with | [_, _], _ => rfl) (by decide +kernel) c_is_plan
theorem at__law_taken (c : obsW ask fn K = (true, fn.map He.DefD.val)) (g : ∀ x ∈ gl, mg x = some (.ref (He.ga K x))) (l : ∀ x ∈ ls, lamB K x = true) : DfAt G K mg d__law_taken (top 34) :=
  df_at c 23 (d := d__law_taken) (st := top 34) rfl (g "_law_taken" (List.elem_iff.mp (by decide +kernel))) (fun e => nomatch e) (fun _ _ _ _ _ _ us hl => match us, hl with | [_, _], _ => rfl) (by decide +kernel) c__law_taken
theorem at__law_pick (c : obsW ask fn K = (true, fn.map He.DefD.val)) (g : ∀ x ∈ gl, mg x = some (.ref (He.ga K x))) (l : ∀ x ∈ ls, lamB K x = true) : DfAt G K mg d__law_pick (top 35) :=
  df_at c 24 (d := d__law_pick) (st := top 35) rfl (g "_law_pick" (List.elem_iff.mp (by decide +kernel))) (fun e => nomatch e) (fun _ _ _ _ _ _ us hl => match us, hl with | [_, _], _ => rfl) (by decide +kernel) c__law_pick
theorem at__law_alike (c : obsW ask fn K = (true, fn.map He.DefD.val)) (g : ∀ x ∈ gl, mg x = some (.ref (He.ga K x))) (l : ∀ x ∈ ls, lamB K x = true) : DfAt G K mg d__law_alike (top 36) :=
  df_at c 25 (d := d__law_alike) (st := top 36) rfl (g "_law_alike" (List.elem_iff.mp (by decide +kernel))) (fun e => nomatch e) (fun _ _ _ _ _ _ us hl => match us, hl with | [_, _], _ => rfl) (by decide +kernel) c__law_alike
theorem at__law_some (c : obsW ask fn K = (true, fn.map He.DefD.val)) (g : ∀ x ∈ gl, mg x = some (.ref (He.ga K x))) (l : ∀ x ∈ ls, lamB K x = true) : DfAt G K mg d__law_some (top 37) :=
  df_at c 26 (d := d__law_some) (st := top 37) rfl (g "_law_some" (List.elem_iff.mp (by decide +kernel))) (fun e => nomatch e) (fun _ _ _ _ _ _ us hl => match us, hl with | [_, _, _], _ => rfl) (by decide +kernel) c__law_some
theorem at__law_task (c : obsW ask fn K = (true, fn.map He.DefD.val)) (g : ∀ x ∈ gl, mg x = some (.ref (He.ga K x))) (l : ∀ x ∈ ls, lamB K x = true) : DfAt G K mg d__law_task (top 38) :=
  df_at c 27 (d := d__law_task) (st := top 38) rfl (g "_law_task" (List.elem_iff.mp (by decide +kernel))) (fun e => nomatch e) (fun _ _ _ _ _ _ us hl => match us, hl with | [_], _ => rfl) (by decide +kernel) c__law_task
theorem at__law_facts (c : obsW ask fn K = (true, fn.map He.DefD.val)) (g : ∀ x ∈ gl, mg x = some (.ref (He.ga K x))) (l : ∀ x ∈ ls, lamB K x = true) : DfAt G K mg d__law_facts (top 39) :=
  df_at c 28 (d := d__law_facts) (st := top 39) rfl (g "_law_facts" (List.elem_iff.mp (by decide +kernel))) (fun e => nomatch e) (fun _ _ _ _ _ _ us hl => match us, hl with | [_], _ => rfl) (by decide +kernel) c__law_facts
theorem at__law_holds (c : obsW ask fn K = (true, fn.map He.DefD.val)) (g : ∀ x ∈ gl, mg x = some (.ref (He.ga K x))) (l : ∀ x ∈ ls, lamB K x = true) : DfAt G K mg d__law_holds (top 40) :=
  df_at c 29 (d := d__law_holds) (st := top 40) rfl (g "_law_holds" (List.elem_iff.mp (by decide +kernel))) (fun e => nomatch e) (fun _ _ _ _ _ _ us hl => match us, hl with | [_, _], _ => rfl) (by decide +kernel) c__law_holds
theorem at__law_go (c : obsW ask fn K = (true, fn.map He.DefD.val)) (g : ∀ x ∈ gl, mg x = some (.ref (He.ga K x))) (l : ∀ x ∈ ls, lamB K x = true) : DfAt G K mg d__law_go (top 41) :=
  df_at c 30 (d := d__law_go) (st := top 41) rfl (g "_law_go" (List.elem_iff.mp (by decide +kernel))) (fun e => nomatch e) (fun _ _ _ _ _ _ us hl => match us, hl with | [_, _], _ => rfl) (by decide +kernel) c__law_go
theorem at__law_without (c : obsW ask fn K = (true, fn.map He.DefD.val)) (g : ∀ x ∈ gl, mg x = some (.ref (He.ga K x))) (l : ∀ x ∈ ls, lamB K x = true) : DfAt G K mg d__law_without (top 46) :=
  df_at c 31 (d := d__law_without) (st := top 46) rfl (g "_law_without" (List.elem_iff.mp (by decide +kernel))) (fun e => nomatch e) (fun _ _ _ _ _ _ us hl => match us, hl with | [_, _], _ => rfl) (by decide +kernel) c__law_without
theorem at__law_walk (c : obsW ask fn K = (true, fn.map He.DefD.val)) (g : ∀ x ∈ gl, mg x = some (.ref (He.ga K x))) (l : ∀ x ∈ ls, lamB K x = true) : DfAt G K mg d__law_walk (top 47) :=
  df_at c 32 (d := d__law_walk) (st := top 47) rfl (g "_law_walk" (List.elem_iff.mp (by decide +kernel))) (fun e => nomatch e) (fun _ _ _ _ _ _ us hl => match us, hl with | [_, _, _], _ => rfl) (by decide +kernel) c__law_walk
theorem at__law_are_facts (c : obsW ask fn K = (true, fn.map He.DefD.val)) (g : ∀ x ∈ gl, mg x = some (.ref (He.ga K x))) (l : ∀ x ∈ ls, lamB K x = true) : DfAt G K mg d__law_are_facts (top 48) :=
  df_at c 33 (d := d__law_are_facts) (st := top 48) rfl (g "_law_are_facts" (List.elem_iff.mp (by decide +kernel))) (fun e => nomatch e) (fun _ _ _ _ _ _ us hl => match us, hl with | [_, _], _ => rfl) (by decide +kernel) c__law_are_facts
theorem at__law_is_part (c : obsW ask fn K = (true, fn.map He.DefD.val)) (g : ∀ x ∈ gl, mg x = some (.ref (He.ga K x))) (l : ∀ x ∈ ls, lamB K x = true) : DfAt G K mg d__law_is_part (top 49) :=
  df_at c 34 (d := d__law_is_part) (st := top 49) rfl (g "_law_is_part" (List.elem_iff.mp (by decide +kernel))) (fun e => nomatch e) (fun _ _ _ _ _ _ us hl => match us, hl with | [_], _ => rfl) (by decide +kernel) c__law_is_part
theorem at__law_is_deed (c : obsW ask fn K = (true, fn.map He.DefD.val)) (g : ∀ x ∈ gl, mg x = some (.ref (He.ga K x))) (l : ∀ x ∈ ls, lamB K x = true) : DfAt G K mg d__law_is_deed (top 50) :=
  df_at c 35 (d := d__law_is_deed) (st := top 50) rfl (g "_law_is_deed" (List.elem_iff.mp (by decide +kernel))) (fun e => nomatch e) (fun _ _ _ _ _ _ us hl => match us, hl with | [_], _ => rfl) (by decide +kernel) c__law_is_deed
theorem at__law_wrong (c : obsW ask fn K = (true, fn.map He.DefD.val)) (g : ∀ x ∈ gl, mg x = some (.ref (He.ga K x))) (l : ∀ x ∈ ls, lamB K x = true) : DfAt G K mg d__law_wrong (top 51) :=
  df_at c 36 (d := d__law_wrong) (st := top 51) rfl (g "_law_wrong" (List.elem_iff.mp (by decide +kernel))) (fun e => nomatch e) (fun _ _ _ _ _ _ us hl => match us, hl with | [_], _ => rfl) (by decide +kernel) c__law_wrong
theorem at__law_rows_right (c : obsW ask fn K = (true, fn.map He.DefD.val)) (g : ∀ x ∈ gl, mg x = some (.ref (He.ga K x))) (l : ∀ x ∈ ls, lamB K x = true) : DfAt G K mg d__law_rows_right (top 53) :=
  df_at c 38 (d := d__law_rows_right) (st := top 53) rfl (g "_law_rows_right" (List.elem_iff.mp (by decide +kernel))) (fun _ => l "_law_rows_right" (List.elem_iff.mp (by decide +kernel))) (fun _ _ _ _ _ _ us hl => match us, hl with | [_, _, _], _ => rfl) (by decide +kernel) c__law_rows_right
theorem at_law (c : obsW ask fn K = (true, fn.map He.DefD.val)) (g : ∀ x ∈ gl, mg x = some (.ref (He.ga K x))) (l : ∀ x ∈ ls, lamB K x = true) : DfAt G K mg d_law (top 54) :=
  df_at c 39 (d := d_law) (st := top 54) rfl (g "law" (List.elem_iff.mp (by decide +kernel))) (fun _ => l "law" (List.elem_iff.mp (by decide +kernel))) (fun _ _ _ _ _ _ us hl => match us, hl with | [_], _ => rfl) (by decide +kernel) c_law
theorem defs_at (c : obsW ask fn K = (true, fn.map He.DefD.val)) (g : ∀ x ∈ gl, mg x = some (.ref (He.ga K x))) (l : ∀ x ∈ ls, lamB K x = true) : ∀ d ∈ ds, ∃ st, DfAt G K mg d st := by
  have h0 : ∀ d ∈ ds0, ∃ st, DfAt G K mg d st := by
    unfold ds0
    simp only [List.forall_mem_cons]
    exact ⟨⟨_, at_is_integer c g l⟩, ⟨_, at_is_number c g l⟩, ⟨_, at_is_sign_row c g l⟩, ⟨_, at_is_ascending c g l⟩, ⟨_, at_is_facts c g l⟩, ⟨_, at_is_deed c g l⟩, ⟨_, at_all_stand c g l⟩, ⟨_, at_some_stand c g l⟩, fun _ z => nomatch z⟩
  have h1 : ∀ d ∈ ds1, ∃ st, DfAt G K mg d st := by
    unfold ds1
    simp only [List.forall_mem_cons]
    exact ⟨⟨_, at_told_facts c g l⟩, ⟨_, at_wrong_word c g l⟩, ⟨_, at_is_task c g l⟩, ⟨_, at_check_task c g l⟩, ⟨_, at_facts c g l⟩, ⟨_, at_is_facts_among c g l⟩, ⟨_, at_check_state c g l⟩, ⟨_, at_can_be_done c g l⟩, fun _ z => nomatch z⟩
  have h2 : ∀ d ∈ ds2, ∃ st, DfAt G K mg d st := by
    unfold ds2
    simp only [List.forall_mem_cons]
    exact ⟨⟨_, at_state_behind c g l⟩, ⟨_, at_deed_to_do c g l⟩, ⟨_, at_open_deeds c g l⟩, ⟨_, at_done c g l⟩, ⟨_, at_run c g l⟩, ⟨_, at_price c g l⟩, ⟨_, at_is_plan c g l⟩, ⟨_, at__law_taken c g l⟩, fun _ z => nomatch z⟩
  have h3 : ∀ d ∈ ds3, ∃ st, DfAt G K mg d st := by
    unfold ds3
    simp only [List.forall_mem_cons]
    exact ⟨⟨_, at__law_pick c g l⟩, ⟨_, at__law_alike c g l⟩, ⟨_, at__law_some c g l⟩, ⟨_, at__law_task c g l⟩, ⟨_, at__law_facts c g l⟩, ⟨_, at__law_holds c g l⟩, ⟨_, at__law_go c g l⟩, ⟨_, at__law_without c g l⟩, fun _ z => nomatch z⟩
  have h4 : ∀ d ∈ ds4, ∃ st, DfAt G K mg d st := by
    unfold ds4
    simp only [List.forall_mem_cons]
    exact ⟨⟨_, at__law_walk c g l⟩, ⟨_, at__law_are_facts c g l⟩, ⟨_, at__law_is_part c g l⟩, ⟨_, at__law_is_deed c g l⟩, ⟨_, at__law_wrong c g l⟩, ⟨_, at__law_rows_right c g l⟩, ⟨_, at_law c g l⟩, fun _ z => nomatch z⟩
  unfold ds
  simp only [List.forall_mem_append]
  exact ⟨⟨⟨⟨h0, h1⟩, h2⟩, h3⟩, h4⟩
theorem tds_at (c : obsW ask fn K = (true, fn.map He.DefD.val)) (g : ∀ x ∈ gl, mg x = some (.ref (He.ga K x))) : ∀ (j : Nat) (x : Str) (n : Nat) (hs : List (Str × Option Nat × HX)), G.tolds[j]? = some (x, n, hs) → TdAt G K mg x n hs := by
  intro j x n hs hj
  match j, hj with
  | 0, hj =>
    cases hj
    exact td_at c 37 (st := top 52) (a := "work") (Ng := ["work", "e"]) rfl (g "_law_told" (List.elem_iff.mp (by decide +kernel))) (fun _ _ _ _ _ _ us hl => match us, hl with | [_], _ => rfl) (by decide +kernel) rfl (by decide +kernel) (by decide +kernel) (by decide +kernel) rfl
  | n + 1, hj => cases hj
end
theorem law_mem : d_law ∈ ds := List.mem_of_getElem? (i := 38) rfl
end Wr.K00
open PySem PySem.W PySem.Calls PyProof.Rows
theorem Wr.K00.fin (fuel k : Nat) (hk : 3 * k + 5 ≤ 100)
    (math : ∀ ns : List Int, ns.length ≤ 63 → (∀ z ∈ ns, Builtin.Int.intBits z ≤ 1048576) → ∃ S', Wr.defF Wr.K00.d_law.N.length (Wr.evSs Wr.K00.G (Wr.Gam Wr.K00.G Wr.K00.ds fuel k) fuel Wr.K00.d_law.ss) [.p (.lsf (ns.map Wr.P.int))] [] = some (.ok (.bl true), S')) :
    PySem.Challenge.rw_wishroads_k00_whole_tasks.Holds := by
  w_on; o_law
  refine HandSHeadRun.head_any (r := OpenLaw.row PySem.Challenge.rw_wishroads_k00_whole_tasks) (q := PySem.W.view (OpenLaw.row PySem.Challenge.rw_wishroads_k00_whole_tasks).prog [54]) (H := Wr.K00.hk) (ob := Wr.K00.ob) (M := 4000) (loose := Wr.K00.names) (d := HandSHeadRun.topDef (OpenLaw.row PySem.Challenge.rw_wishroads_k00_whole_tasks).prog 54) (kwd := []) Wr.K00.ob_eq
    (by kernel_rfl) (fun s => by kernel_rfl) Wr.K00.run (by kernel_rfl) (by kernel_rfl) (by kernel_rfl) (by rfl) (by first | assumption | decide +kernel) (by decide +kernel) ⟨rfl, rfl, rfl, rfl, rfl, by decide +kernel⟩ ?hw ?hc
  case hw => w_witness2
  case hc =>
    refine LamX.walk_ofTsE (l := PySem.Challenge.rw_wishroads_k00_whole_tasks) (n := 63) (k := 3 * k + 5) (x := "script") (CX := fun w => L2.CX PySem.Challenge.rw_wishroads_k00_whole_tasks.prog w) rfl (by decide) (by kernel_rfl) ((show L2.Room 100 callerA from ⟨rfl, by decide, by decide⟩).mono hk) ?F (fun _ _ _ _ _ z => ?z)
    case z =>
      obtain ⟨_, _, _, _, _, _, _, _, _, _, _, _, z⟩ := z
      exact z
    intro w mg fa h Y G hmg0
    obtain ⟨K, KX, tb, c⟩ := Y
    have hmg : mg ("law" : PySem.Str) = some (.ref fa) := by
      have e : (HandSHeadRun.topDef (OpenLaw.row PySem.Challenge.rw_wishroads_k00_whole_tasks).prog 54).name = ("law" : PySem.Str) := by kernel_rfl
      rw [← e]
      exact hmg0
    refine ⟨K, KX, Wr.law_at (G := Wr.K00.G) (b := "PlanError") (fs := Wr.K00.gl) (ls := Wr.K00.ls) (ds := Wr.K00.ds) (d := Wr.K00.d_law) KX G tb (Wr.saysQ c) (fun base => Wr.K00.exc_txt c) Wr.K00.names_ok (Wr.K00.defs_at c) (Wr.K00.tds_at c) (by decide) ?mem rfl hmg (Wr.K00.at_law c) (fun _ _ _ _ _ _ us hl => match us, hl with | [_], _ => rfl) math⟩
    case mem => exact Wr.K00.law_mem

set_option maxHeartbeats 4000000
/-! E0: reckoning with the evaluator. -/
namespace Wr
open PySem PySem.Spec PyProof.Rows L2

/-- a store of lists alone -/
def Sl (S : List Ob) : Prop := ∀ o ∈ S, ∃ l, o = .lst l
theorem Sl.nil : Sl [] := fun o h => by cases h
theorem Sl.closed {S : List Ob} (h : Sl S) (k : Nat) : S.all (closedO k) = true := List.all_eq_true.mpr fun o ho => by
  obtain ⟨l, rfl⟩ := h o ho
  rfl
theorem trunc_self {S : List Ob} (h : Sl S) : trunc S.length S = some S := by
  unfold trunc
  rw [List.take_length, h.closed]
  simp
theorem trunc_app {S T : List Ob} (h : Sl S) : trunc S.length (S ++ T) = some S := by
  unfold trunc
  rw [List.take_left, h.closed]
  simp
theorem endF_ret {S : List Ob} (h : Sl S) (p : P) (ρ : Vars) : endF S.length (some (.go (.ret (.p p)) ρ, S)) = some (.ok p, S) := by
  simp only [endF, frz, trunc_self h]
theorem endF_retT {S T : List Ob} (h : Sl S) (p : P) (ρ : Vars) : endF S.length (some (.go (.ret (.p p)) ρ, S ++ T)) = some (.ok p, S) := by
  simp only [endF, frz, trunc_app h]
theorem endF_nx {S : List Ob} (h : Sl S) (ρ : Vars) : endF S.length (some (.go .nx ρ, S)) = some (.ok .non, S) := by
  simp only [endF, trunc_self h, Option.map_some]
theorem endF_exc {S : List Ob} (h : Sl S) (c : Str) (fs : List (Str × P)) (ρ : Vars) : endF S.length (some (.exc c fs ρ, S)) = some (.exc c fs, S) := by
  simp only [endF, trunc_self h, Option.map_some]
theorem endF_excT {S T : List Ob} (h : Sl S) (c : Str) (fs : List (Str × P)) (ρ : Vars) : endF S.length (some (.exc c fs ρ, S ++ T)) = some (.exc c fs, S) := by
  simp only [endF, trunc_app h, Option.map_some]
theorem compP_pure {g : FG} {ft : F Bool} {fe : F Wv} {ρ : Vars} {S : List Ob} {t : P → Bool} {e : P → P} : ∀ (l acc : List P), (∀ x ∈ l, ∃ ρ1, g (.p x) ρ S = some ρ1 ∧ ft ρ1 S = some (.ok (t x), S) ∧ (t x = true → fe ρ1 S = some (.ok (.p (e x)), S))) → compP g ft fe ρ l acc S = some (acc ++ (l.filter t).map e, S)
  | [], acc, _ => by simp [compP]
  | x :: r, acc, h => by
    obtain ⟨ρ1, h1, h2, h3⟩ := h x List.mem_cons_self
    have ih := compP_pure (g := g) (ft := ft) (fe := fe) (ρ := ρ) (S := S) (e := e) (t := t) r
    simp only [compP, h1, h2]
    cases ht : t x with
    | false =>
      simp only [List.filter_cons, ht]
      exact ih acc fun y hy => h y (List.mem_cons_of_mem _ hy)
    | true =>
      simp only [h3 ht, List.filter_cons, ht, if_true, List.map_cons]
      rw [ih _ fun y hy => h y (List.mem_cons_of_mem _ hy), List.append_assoc]
      rfl

/-! ### the evaluator at a place: each piece by what its parts are worth there -/
abbrev Rw1 := Option (Rs Wv × List Ob)
def kB {α β : Type} (x : Option (Rs α × List Ob)) (k : α → List Ob → Option (Rs β × List Ob)) : Option (Rs β × List Ob) := match x with
  | none => none
  | some (.exc c fs, S1) => some (.exc c fs, S1)
  | some (.ok a, S1) => k a S1
theorem kB_ok {α β : Type} (a : α) (S : List Ob) (k : α → List Ob → Option (Rs β × List Ob)) : kB (some (.ok a, S)) k = k a S := rfl
theorem kB_exc {α β : Type} (c : Str) (fs : List (Str × P)) (S : List Ob) (k : α → List Ob → Option (Rs β × List Ob)) : kB (some (.exc c fs, S)) k = some (.exc c fs, S) := rfl
theorem kB_ite {α β : Type} (b : Bool) (x y : Option (Rs α × List Ob)) (k : α → List Ob → Option (Rs β × List Ob)) : kB (if b = true then x else y) k = if b = true then kB x k else kB y k := by cases b <;> rfl
theorem q_bindF {α β : Type} (fa : F α) (g : α → F β) (ρ : Vars) (S : List Ob) : bindF fa g ρ S = kB (fa ρ S) fun a S1 => g a ρ S1 := rfl
/-- and, or, not of truths as values -/
def kA (w : Wv) (S : List Ob) (k : List Ob → Rw1) : Rw1 := match w with
  | .p (.bl true) => k S
  | .p (.bl false) => some (.ok (.p (.bl false)), S)
  | _ => none
theorem kA_bl (b : Bool) (S : List Ob) (k : List Ob → Rw1) : kA (.p (.bl b)) S k = if b = true then k S else some (.ok (.p (.bl false)), S) := by cases b <;> rfl
theorem q_fAnd (fa fb : F Wv) (ρ : Vars) (S : List Ob) : fAnd fa fb ρ S = kB (fa ρ S) fun w S1 => kA w S1 fun S2 => fb ρ S2 := by
  refine (q_bindF _ _ ρ S).trans ?_
  congr 1
  funext w S1
  unfold kA
  split <;> first | rfl | (split <;> first | rfl | (exfalso; simp_all))
def kO (w : Wv) (S : List Ob) (k : List Ob → Rw1) : Rw1 := match w with
  | .p (.bl true) => some (.ok (.p (.bl true)), S)
  | .p (.bl false) => k S
  | _ => none
theorem kO_bl (b : Bool) (S : List Ob) (k : List Ob → Rw1) : kO (.p (.bl b)) S k = if b = true then some (.ok (.p (.bl true)), S) else k S := by cases b <;> rfl
theorem q_fOr (fa fb : F Wv) (ρ : Vars) (S : List Ob) : fOr fa fb ρ S = kB (fa ρ S) fun w S1 => kO w S1 fun S2 => fb ρ S2 := by
  refine (q_bindF _ _ ρ S).trans ?_
  congr 1
  funext w S1
  unfold kO
  split <;> first | rfl | (split <;> first | rfl | (exfalso; simp_all))
theorem m_and (b c : Bool) (S : List Ob) : (if b = true then (some (.ok (.p (.bl c)), S) : Rw1) else some (.ok (.p (.bl false)), S)) = some (.ok (.p (.bl (b && c))), S) := by cases b <;> rfl
theorem m_or (b c : Bool) (S : List Ob) : (if b = true then (some (.ok (.p (.bl true)), S) : Rw1) else some (.ok (.p (.bl c)), S)) = some (.ok (.p (.bl (b || c))), S) := by cases b <;> rfl
def kN (w : Wv) (S : List Ob) : Rw1 := match w with
  | .p (.bl b) => some (.ok (.p (.bl (!b))), S)
  | _ => none
theorem kN_bl (b : Bool) (S : List Ob) : kN (.p (.bl b)) S = some (.ok (.p (.bl (!b))), S) := rfl
theorem q_fNot (fa : F Wv) (ρ : Vars) (S : List Ob) : fNot fa ρ S = kB (fa ρ S) kN := by
  refine (q_bindF _ _ ρ S).trans ?_
  congr 1
  funext w S1
  unfold kN
  split <;> first | rfl | (split <;> first | rfl | (exfalso; simp_all))
theorem q_fIf (ft : F Bool) (fa fb : F Wv) (ρ : Vars) (S : List Ob) : fIf ft fa fb ρ S = kB (ft ρ S) fun b S1 => if b = true then fa ρ S1 else fb ρ S1 := by
  refine (q_bindF _ _ ρ S).trans ?_
  congr 1
  funext w S1
  cases w <;> rfl
/-- a function of data -/
def kO1 (o : Option P) (S : List Ob) : Rw1 := o.map fun z => (.ok (.p z), S)
theorem kO1_some (z : P) (S : List Ob) : kO1 (some z) S = some (.ok (.p z), S) := rfl
def kV {β : Type} (w : Wv) (S : List Ob) (k : P → Option (Rs β × List Ob)) : Option (Rs β × List Ob) := match view w S with
  | some x => k x
  | none => none
theorem kV_p {β : Type} (x : P) (S : List Ob) (k : P → Option (Rs β × List Ob)) : kV (.p x) S k = k x := rfl
theorem q_fOne (g : P → Option P) (fa : F Wv) (ρ : Vars) (S : List Ob) : fOne g fa ρ S = kB (fa ρ S) fun w S1 => kV w S1 fun x => kO1 (g x) S1 := rfl
theorem q_f2 (fo : P → P → Option P) (fa fb : F Wv) (ρ : Vars) (S : List Ob) : f2 fo fa fb ρ S = kB (fa ρ S) fun a S1 => kB (fb ρ S1) fun b S2 => kV a S2 fun x => kV b S2 fun y => kO1 (fo x y) S2 := by
  refine (q_bindF _ _ ρ S).trans ?_
  congr 1
  funext a S1
  refine (q_bindF _ _ ρ S1).trans ?_
  congr 1
  funext b S2
  unfold kV kO1
  cases view a S2 <;> cases view b S2 <;> rfl
theorem q_fTru (fa : F Wv) (ρ : Vars) (S : List Ob) : fTru fa ρ S = kB (fa ρ S) fun w S1 => kV w S1 fun x => (truP x).map fun b => (.ok b, S1) := rfl
def kT (w : Wv) (S : List Ob) : Option (Rs Bool × List Ob) := match w with
  | .p (.bl b) => some (.ok b, S)
  | _ => none
theorem kT_bl (b : Bool) (S : List Ob) : kT (.p (.bl b)) S = some (.ok b, S) := rfl
theorem q_asB (fa : F Wv) (ρ : Vars) (S : List Ob) : asB fa ρ S = kB (fa ρ S) kT := by
  refine (q_bindF _ _ ρ S).trans ?_
  congr 1
  funext w S1
  unfold kT
  split <;> first | rfl | (split <;> first | rfl | (exfalso; simp_all))
theorem m_andT (b c : Bool) (S : List Ob) : (if b = true then (some (.ok c, S) : Option (Rs Bool × List Ob)) else some (.ok false, S)) = some (.ok (b && c), S) := by cases b <;> rfl
theorem m_orT (b c : Bool) (S : List Ob) : (if b = true then (some (.ok true, S) : Option (Rs Bool × List Ob)) else some (.ok c, S)) = some (.ok (b || c), S) := by cases b <;> rfl
theorem q_fAndT (ft fu : F Bool) (ρ : Vars) (S : List Ob) : fAndT ft fu ρ S = kB (ft ρ S) fun b S1 => if b = true then fu ρ S1 else some (.ok false, S1) := by
  refine (q_bindF _ _ ρ S).trans ?_
  congr 1
  funext w S1
  cases w <;> rfl
theorem q_fOrT (ft fu : F Bool) (ρ : Vars) (S : List Ob) : fOrT ft fu ρ S = kB (ft ρ S) fun b S1 => if b = true then some (.ok true, S1) else fu ρ S1 := by
  refine (q_bindF _ _ ρ S).trans ?_
  congr 1
  funext w S1
  cases w <;> rfl
theorem q_fNotT (ft : F Bool) (ρ : Vars) (S : List Ob) : fNotT ft ρ S = kB (ft ρ S) fun b S1 => some (.ok (!b), S1) := rfl
def kC2 (o : Option P) (S : List Ob) (k : List Ob → Rw1) : Rw1 := match o with
  | some (.bl true) => k S
  | some (.bl false) => some (.ok (.p (.bl false)), S)
  | _ => none
theorem kC2_bl (b : Bool) (S : List Ob) (k : List Ob → Rw1) : kC2 (some (.bl b)) S k = if b = true then k S else some (.ok (.p (.bl false)), S) := by cases b <;> rfl
theorem q_fChain (fo fo' : P → P → Option P) (fa fb fc : F Wv) (ρ : Vars) (S : List Ob) : fChain fo fo' fa fb fc ρ S = kB (fa ρ S) fun a S1 => kB (fb ρ S1) fun b S2 => kV a S2 fun x => kV b S2 fun y => kC2 (fo x y) S2 fun S3 => kB (fc ρ S3) fun c S4 => kV b S4 fun y => kV c S4 fun z => kO1 (fo' y z) S4 := by
  refine (q_bindF _ _ ρ S).trans ?_
  congr 1
  funext a S1
  refine (q_bindF _ _ ρ S1).trans ?_
  congr 1
  funext b S2
  unfold kV
  cases ha : view a S2 with
  | none => rfl
  | some x =>
    cases hb : view b S2 with
    | none => rfl
    | some y =>
      simp only
      unfold kC2
      cases fo x y with
      | none => rfl
      | some z =>
        cases z <;> try rfl
        rename_i b0
        cases b0
        · rfl
        · refine (q_bindF _ _ ρ S2).trans ?_
          congr 1
          funext c S4
          unfold kO1
          cases view b S4 <;> cases view c S4 <;> rfl
/-- the arguments as data -/
def kL {β : Type} (ws : List Wv) (S : List Ob) (k : List P → Option (Rs β × List Ob)) : Option (Rs β × List Ob) := match viewL ws S with
  | some xs => k xs
  | none => none
theorem kL_p1 {β : Type} (x : P) (S : List Ob) (k : List P → Option (Rs β × List Ob)) : kL [.p x] S k = k [x] := rfl
theorem q_fB (fo : List P → Option P) (fs : F (List Wv)) (ρ : Vars) (S : List Ob) : fB fo fs ρ S = kB (fs ρ S) fun ws S1 => kL ws S1 fun xs => kO1 (fo xs) S1 := rfl
def kNw (own : Bool) (o : Option (List P)) (S : List Ob) : Rw1 := match o with
  | some l => newL own l S
  | none => none
theorem kNw_f (l : List P) (S : List Ob) : kNw false (some l) S = some (.ok (.p (.lst l)), S) := rfl
theorem kNw_t (l : List P) (S : List Ob) : kNw true (some l) S = some (.ok (.loc S.length), S ++ [.lst l]) := rfl
theorem q_fBn (own : Bool) (fo : List P → Option (List P)) (fs : F (List Wv)) (ρ : Vars) (S : List Ob) : fBn own fo fs ρ S = kB (fs ρ S) fun ws S1 => kL ws S1 fun xs => kNw own (fo xs) S1 := rfl
theorem q_fVar (i : Nat) (ρ : Vars) (S : List Ob) : fVar i ρ S = match ρ[i]? with | some (some w) => some (.ok w, S) | _ => none := rfl
theorem q_ret {α : Type} (a : α) (ρ : Vars) (S : List Ob) : retF a ρ S = some (.ok a, S) := rfl
theorem q_fC (p : P) (ρ : Vars) (S : List Ob) : fC p ρ S = some (.ok (.p p), S) := rfl
theorem q_fNil (ρ : Vars) (S : List Ob) : fNil ρ S = some (.ok [], S) := rfl
theorem q_fCons (fa : F Wv) (fr : F (List Wv)) (ρ : Vars) (S : List Ob) : fCons fa fr ρ S = kB (fa ρ S) fun a S1 => kB (fr ρ S1) fun r S2 => some (.ok (a :: r), S2) := rfl
def kI (w : Wv) (S : List Ob) (k : List P → Option (Rs (List P) × List Ob)) : Option (Rs (List P) × List Ob) := match itemsOf w with
  | some l => k l
  | none => none
theorem q_fItems (fa : F Wv) (ρ : Vars) (S : List Ob) : fItems fa ρ S = kB (fa ρ S) fun w S1 => (itemsOf w).map fun l => (.ok l, S1) := rfl
def kP (ws : List Wv) (S : List Ob) (k : List P → Rw1) : Rw1 := match allP ws with
  | some l => if l.length ≤ 16777216 then k l else none
  | none => none
theorem q_fTup (fs : F (List Wv)) (ρ : Vars) (S : List Ob) : fTup fs ρ S = kB (fs ρ S) fun ws S1 => kP ws S1 fun l => some (.ok (.p (.tup l)), S1) := rfl
theorem q_fLst (own : Bool) (fs : F (List Wv)) (ρ : Vars) (S : List Ob) : fLst own fs ρ S = kB (fs ρ S) fun ws S1 => kP ws S1 fun l => newL own l S1 := rfl
theorem q_fPart (fa : F Wv) (ρ : Vars) (S : List Ob) : fPart fa ρ S = kB (fa ρ S) fun a S1 => match a with | .p (.int i) => some (.ok (some i), S1) | _ => none := by
  refine (q_bindF _ _ ρ S).trans ?_
  congr 1
  funext w S1
  split <;> first | rfl | (split <;> first | rfl | (exfalso; simp_all))
def kSl (own : Bool) (a : Wv) (lo hi : Option Int) (S : List Ob) : Rw1 := match view a S with
  | some (.lst l) => newL own (cutP l lo hi) S
  | some (.lsf l) => newL own (cutP l lo hi) S
  | some (.tup l) => some (.ok (.p (.tup (cutP l lo hi))), S)
  | _ => none
theorem kSl_tup (own : Bool) (l : List P) (lo hi : Option Int) (S : List Ob) : kSl own (.p (.tup l)) lo hi S = some (.ok (.p (.tup (cutP l lo hi))), S) := rfl
theorem kSl_lst (l : List P) (lo hi : Option Int) (S : List Ob) : kSl false (.p (.lst l)) lo hi S = some (.ok (.p (.lst (cutP l lo hi))), S) := rfl
theorem q_fSl (own : Bool) (fa : F Wv) (fl fh : F (Option Int)) (ρ : Vars) (S : List Ob) : fSl own fa fl fh ρ S = kB (fa ρ S) fun a S1 => kB (fl ρ S1) fun lo S2 => kB (fh ρ S2) fun hi S3 => kSl own a lo hi S3 := rfl
theorem q_fRev (own : Bool) (fa : F Wv) (ρ : Vars) (S : List Ob) : fRev own fa ρ S = kB (fa ρ S) fun a S1 => match view a S1 with
  | some (.lst l) => newL own l.reverse S1
  | some (.lsf l) => newL own l.reverse S1
  | some (.tup l) => some (.ok (.p (.tup l.reverse)), S1)
  | _ => none := rfl
theorem q_fZip (fs : F (List Wv)) (ρ : Vars) (S : List Ob) : fZip fs ρ S = kB (fs ρ S) fun ws S1 => match ws with | [.p x, .p y] => (zipItems x y).map fun l => (.ok l, S1) | _ => none := by
  refine (q_bindF _ _ ρ S).trans ?_
  congr 1
  funext w S1
  split <;> first | rfl | (split <;> first | rfl | (exfalso; simp_all))
theorem q_fEnum (fs : F (List Wv)) (ρ : Vars) (S : List Ob) : fEnum fs ρ S = kB (fs ρ S) fun ws S1 => match ws with
  | [.p x] => (match asL x, asT x with
    | some l, _ => if l.length ≤ 16777216 then some (.ok (enumP l), S1) else none
    | _, some l => if l.length ≤ 16777216 then some (.ok (enumP l), S1) else none
    | _, _ => none)
  | _ => none := by
  refine (q_bindF _ _ ρ S).trans ?_
  congr 1
  funext w S1
  rcases w with _ | ⟨a, _ | ⟨b, r⟩⟩
  · rfl
  · cases a with
    | loc n => rfl
    | p x =>
      show (match asL x, asT x with
        | some l, _ => if l.length ≤ 16777216 then retF (enumP l) else failF
        | _, some l => if l.length ≤ 16777216 then retF (enumP l) else failF
        | _, _ => failF : F (List P)) ρ S1 = _
      cases hL : asL x with
      | some l =>
        simp only [hL]
        by_cases h : l.length ≤ 16777216
        · rw [if_pos h, if_pos h]; rfl
        · rw [if_neg h, if_neg h]; rfl
      | none =>
        cases hT : asT x with
        | some l =>
          simp only [hL, hT]
          by_cases h : l.length ≤ 16777216
          · rw [if_pos h, if_pos h]; rfl
          · rw [if_neg h, if_neg h]; rfl
        | none => simp only [hL, hT]; rfl
  · cases a <;> rfl
theorem q_fRng1 (fs : F (List Wv)) (ρ : Vars) (S : List Ob) : fRng1 fs ρ S = kB (fs ρ S) fun ws S1 => match ws with | [.p (.int j)] => (if -1000000 ≤ j ∧ j ≤ 1000000 then some (.ok (rngP 0 j.toNat), S1) else none) | _ => none := by
  refine (q_bindF _ _ ρ S).trans ?_
  congr 1
  funext w S1
  rcases w with _ | ⟨a, _ | ⟨b, r⟩⟩
  · rfl
  · cases a with
    | loc n => rfl
    | p x =>
      cases x <;> try rfl
      rename_i j
      show (if -1000000 ≤ j ∧ j ≤ 1000000 then retF (rngP 0 j.toNat) else failF : F (List P)) ρ S1 = (if -1000000 ≤ j ∧ j ≤ 1000000 then _ else _)
      by_cases h : -1000000 ≤ j ∧ j ≤ 1000000
      · rw [if_pos h, if_pos h]; rfl
      · rw [if_neg h, if_neg h]; rfl
  · cases a with
    | loc n => rfl
    | p x => cases x <;> rfl
/-- a comprehension -/
def kC (own : Bool) (o : Option (List P × List Ob)) : Rw1 := match o with
  | some (l', S') => newL own l' S'
  | none => none
theorem kC_f (l : List P) (S : List Ob) : kC false (some (l, S)) = some (.ok (.p (.lst l)), S) := rfl
theorem kC_t (l : List P) (S : List Ob) : kC true (some (l, S)) = some (.ok (.loc S.length), S ++ [.lst l]) := rfl
theorem q_fLc (own : Bool) (vs : List Nat) (fi : F (List P)) (g : FG) (ft : F Bool) (fe : F Wv) (ρ : Vars) (S : List Ob) : fLc own vs fi g ft fe ρ S = kB (fi ρ S) fun l S1 => kC own (compP g ft fe (wipeV ρ vs) l [] S1) := rfl
def kCN (own : Bool) (o : Option (List P × List Ob)) : Rw1 := match o with
  | some (l', S') => if l'.length ≤ 16777216 then newL own l' S' else none
  | none => none
theorem q_fLcN (own : Bool) (vs : List Nat) (c : Cla) (r : List Cla) (fe : F Wv) (ρ : Vars) (S : List Ob) : fLcN own vs c r fe ρ S = kB (c.fi ρ S) fun l S1 => kCN own (loopP (restP fe vs r) c.g c.ft (wipeV ρ vs) l [] S1) := rfl
theorem q_fStar (fe : F Wv) (fr : F (List Wv)) (ρ : Vars) (S : List Ob) : fStar fe fr ρ S = kB (fe ρ S) fun a S1 => match itemsOf a with
  | some l => kB (fr ρ S1) fun ws S2 => some (.ok (l.map Wv.p ++ ws), S2)
  | none => none := by
  refine (q_bindF _ _ ρ S).trans ?_
  congr 1
  funext w S1
  cases itemsOf w <;> rfl
/-! ### statements -/
def kS {α : Type} (x : Option (Rs α × List Ob)) (ρ : Vars) (k : α → List Ob → Option (SR × List Ob)) : Option (SR × List Ob) := match x with
  | none => none
  | some (.exc c fs, S1) => some (.exc c fs ρ, S1)
  | some (.ok a, S1) => k a S1
theorem kS_ok {α : Type} (a : α) (S : List Ob) (ρ : Vars) (k : α → List Ob → Option (SR × List Ob)) : kS (some (.ok a, S)) ρ k = k a S := rfl
theorem kS_exc {α : Type} (c : Str) (fs : List (Str × P)) (S : List Ob) (ρ : Vars) (k : α → List Ob → Option (SR × List Ob)) : kS (some (.exc c fs, S)) ρ k = some (.exc c fs ρ, S) := rfl
theorem kS_ite {α : Type} (b : Bool) (x y : Option (Rs α × List Ob)) (ρ : Vars) (k : α → List Ob → Option (SR × List Ob)) : kS (if b = true then x else y) ρ k = if b = true then kS x ρ k else kS y ρ k := by cases b <;> rfl
theorem q_bindS {α : Type} (fa : F α) (g : α → FS) (ρ : Vars) (S : List Ob) : bindS fa g ρ S = kS (fa ρ S) ρ fun a S1 => g a ρ S1 := rfl
theorem q_fRet (fa : F Wv) (ρ : Vars) (S : List Ob) : fRet fa ρ S = kS (fa ρ S) ρ fun a S1 => some (.go (.ret a) ρ, S1) := rfl
theorem q_fRetN (ρ : Vars) (S : List Ob) : fRetN ρ S = some (.go (.ret (.p .non)) ρ, S) := rfl
theorem q_dropS (fa : F Wv) (ρ : Vars) (S : List Ob) : dropS fa ρ S = kS (fa ρ S) ρ fun _ S1 => some (.go .nx ρ, S1) := rfl
theorem q_fIfS (ft : F Bool) (f g : FS) (ρ : Vars) (S : List Ob) : fIfS ft f g ρ S = kS (ft ρ S) ρ fun b S1 => if b = true then f ρ S1 else g ρ S1 := by
  refine (q_bindS _ _ ρ S).trans ?_
  congr 1
  funext w S1
  cases w <;> rfl
def kQ (x : Option (SR × List Ob)) (g : FS) : Option (SR × List Ob) := match x with
  | some (.go .nx ρ', S') => g ρ' S'
  | r => r
theorem q_seqS (f g : FS) (ρ : Vars) (S : List Ob) : seqS f g ρ S = kQ (f ρ S) g := rfl
theorem kQ_nx (ρ : Vars) (S : List Ob) (g : FS) : kQ (some (.go .nx ρ, S)) g = g ρ S := rfl
theorem kQ_ret (w : Wv) (ρ : Vars) (S : List Ob) (g : FS) : kQ (some (.go (.ret w) ρ, S)) g = some (.go (.ret w) ρ, S) := rfl
theorem kQ_exc (c : Str) (fs : List (Str × P)) (ρ : Vars) (S : List Ob) (g : FS) : kQ (some (.exc c fs ρ, S)) g = some (.exc c fs ρ, S) := rfl
theorem kQ_ite (b : Bool) (x y : Option (SR × List Ob)) (g : FS) : kQ (if b = true then x else y) g = if b = true then kQ x g else kQ y g := by cases b <;> rfl
theorem endF_ite (n : Nat) (b : Bool) (x y : Option (SR × List Ob)) : endF n (if b = true then x else y) = if b = true then endF n x else endF n y := by cases b <;> rfl
theorem q_skip (ρ : Vars) (S : List Ob) : skipS ρ S = some (.go .nx ρ, S) := rfl
theorem q_fAsg (fa : F Wv) (g : FG) (ρ : Vars) (S : List Ob) : fAsg fa g ρ S = kS (fa ρ S) ρ fun a S1 => (g a ρ S1).map fun ρ' => (.go .nx ρ', S1) := rfl
theorem q_fFor (fi : F (List P)) (g : FG) (f : FS) (ρ : Vars) (S : List Ob) : fFor fi g f ρ S = kS (fi ρ S) ρ fun l S1 => forS g f l ρ S1 := rfl
theorem q_fPar (i j : Nat) (fs : F (List Wv)) (ρ : Vars) (S : List Ob) : fPar i j fs ρ S = kS (fs ρ S) ρ fun ws S1 => match ws with
  | [a, b] => some (.go .nx ((ρ.set i (some a)).set j (some b)), S1)
  | _ => none := rfl
theorem q_fRaise0 (c : Str) (ρ : Vars) (S : List Ob) : fRaise0 c ρ S = some (.exc c [] ρ, S) := rfl
theorem q_fRaise1 (c f : Str) (fe : F Wv) (ρ : Vars) (S : List Ob) : fRaise1 c f fe ρ S = kS (fe ρ S) ρ fun w S1 => match w with
  | .p y => some (.exc c [(f, y)] ρ, S1)
  | .loc _ => none := rfl
theorem q_fSetI (fv fo fi : F Wv) (ρ : Vars) (S : List Ob) : fSetI fv fo fi ρ S = kS (fv ρ S) ρ fun v S1 => kS (fo ρ S1) ρ fun o S2 => kS (fi ρ S2) ρ fun i S3 => (setAt o i v S3).map fun S' => (.go .nx ρ, S') := rfl
def kR (o : Option (Rs P × List Ob)) : Rw1 := match o with
  | some (.ok p, S') => some (.ok (.p p), S')
  | some (.exc c e, S') => some (.exc c e, S')
  | none => none
theorem kR_ok (p : P) (S : List Ob) : kR (some (.ok p, S)) = some (.ok (.p p), S) := rfl
theorem kR_exc (c : Str) (e : List (Str × P)) (S : List Ob) : kR (some (.exc c e, S)) = some (.exc c e, S) := rfl
theorem kR_ite (b : Bool) (x y : Option (Rs P × List Ob)) : kR (if b = true then x else y) = if b = true then kR x else kR y := by cases b <;> rfl
end Wr
namespace Wr.K00
open PySem PySem.Spec PyProof.Rows L2 Wr
def cl (fuel k j : Nat) (ws : List Wv) (S : List Ob) : Option (Rs P × List Ob) := match (Gam G ds fuel k)[j]? with
  | some f => f ws S
  | none => none
theorem cl_def {fuel k j : Nat} (d : Df) (h : ds[j]? = some d) (ws : List Wv) (S : List Ob) : cl fuel (k + 1) j ws S = endF S.length (evSs G (Gam G ds fuel k) fuel d.ss (ws.map some ++ List.replicate (d.N.length - ws.length) none) S) := by
  unfold cl
  have e : (Gam G ds fuel (k + 1))[j]? = some (defF d.N.length (evSs G (Gam G ds fuel k) fuel d.ss)) := by
    show (ds.map _)[j]? = _
    rw [List.getElem?_map, h]
    rfl
  rw [e]
  rfl
theorem ds_len : ds.length = 39 := by decide +kernel
theorem q_call {fuel k j : Nat} (hj : j < 39) (fs : F (List Wv)) (ρ : Vars) (S : List Ob) : callF (Gam G ds fuel (k + 1)) j fs ρ S = kB (fs ρ S) fun ws S1 => kR (cl fuel (k + 1) j ws S1) := by
  unfold callF cl
  have hl : (Gam G ds fuel (k + 1)).length = 39 := by
    show (ds.map _).length = 39
    rw [List.length_map, ds_len]
  rw [List.getElem?_eq_getElem (by rw [hl]; exact hj)]
  simp only [fCall, bindF]
  cases h : fs ρ S with
  | none => rfl
  | some q =>
    obtain ⟨r, S1⟩ := q
    cases r with
    | exc c e => rfl
    | ok ws =>
      dsimp only [kB]
      generalize (Gam G ds fuel (k + 1))[j] ws S1 = o
      cases o with
      | none => rfl
      | some q =>
        obtain ⟨r2, S2⟩ := q
        cases r2 <;> rfl
theorem q_glb (j : Nat) (ρ : Vars) (S : List Ob) : vOf G j ρ S = match vals[j]? with | some (_, p) => some (.ok (.p p), S) | none => none := by
  unfold vOf
  show (match vals[j]? with | some (_, p) => fC p | none => failF) ρ S = _
  cases vals[j]? <;> rfl
end Wr.K00

set_option maxHeartbeats 4000000
namespace Wr
open PySem PySem.Spec PyProof.Rows L2
/-! ### plain data -/
mutual
def dm : P → Bool
  | .non => true
  | .bl _ => true
  | .int _ => true
  | .str x => decide (x.length ≤ 16777216)
  | .lst l => dmL l
  | .tup l => dmL l
  | _ => false
def dmL : List P → Bool
  | [] => true
  | x :: r => dm x && dmL r
end
mutual
def wt : P → Nat
  | .lst l => wtL l + 1
  | .tup l => wtL l + 1
  | _ => 1
def wtL : List P → Nat
  | [] => 0
  | x :: r => wt x + wtL r
end
theorem dmL_all : ∀ {l : List P}, dmL l = true ↔ ∀ x ∈ l, dm x = true
  | [] => by simp [dmL]
  | x :: r => by simp [dmL, dmL_all (l := r)]
theorem wtL_mem : ∀ {l : List P} {x : P}, x ∈ l → wt x ≤ wtL l
  | y :: r, x, h => by
    simp only [wtL]
    rcases List.mem_cons.mp h with e | e
    · rw [e]; omega
    · have := wtL_mem e; omega
theorem wt_pos (x : P) : 1 ≤ wt x := by cases x <;> simp [wt]
theorem wtL_len : ∀ (l : List P), l.length ≤ wtL l
  | [] => Nat.le_refl _
  | x :: r => by
    have := wtL_len r
    have := wt_pos x
    simp only [wtL, List.length_cons]; omega
def isInt : P → Bool | .int _ => true | .bl _ => true | _ => false
def isBl : P → Bool | .bl _ => true | _ => false
def isStr : P → Bool | .str _ => true | _ => false
def isTup : P → Bool | .tup _ => true | _ => false
def isLst : P → Bool | .lst _ => true | _ => false
theorem view_p (x : P) (S : List Ob) : view (.p x) S = some x := rfl
theorem itemsOf_lst (l : List P) : itemsOf (.p (.lst l)) = some l := rfl
theorem itemsOf_lsf (l : List P) : itemsOf (.p (.lsf l)) = some l := rfl
theorem itemsOf_tup (l : List P) : itemsOf (.p (.tup l)) = some l := rfl
theorem asL_lst (l : List P) : asL (.lst l) = some l := rfl
theorem asL_lsf (l : List P) : asL (.lsf l) = some l := rfl
theorem asL_tup (l : List P) : asL (.tup l) = none := rfl
theorem asT_lst (l : List P) : asT (.lst l) = none := rfl
theorem asT_tup (l : List P) : asT (.tup l) = some l := rfl
theorem truP_bl (b : Bool) : truP (.bl b) = some b := rfl
theorem isi_int {v : P} (h : dm v = true) : isiP Ty.int.nm v = some (.bl (isInt v)) := by
  cases v <;> first | rfl | (exfalso; simp [dm] at h)
theorem isi_bool {v : P} (h : dm v = true) : isiP Ty.bool.nm v = some (.bl (isBl v)) := by
  cases v <;> first | rfl | (exfalso; simp [dm] at h)
theorem isi_str {v : P} (h : dm v = true) : isiP Ty.str.nm v = some (.bl (isStr v)) := by
  cases v <;> first | rfl | (exfalso; simp [dm] at h)
theorem isi_tup {v : P} (h : dm v = true) : isiP Ty.tuple.nm v = some (.bl (isTup v)) := by
  cases v <;> first | rfl | (exfalso; simp [dm] at h)
theorem isi_lst {v : P} (h : dm v = true) : isiP Ty.list.nm v = some (.bl (isLst v)) := by
  cases v <;> first | rfl | (exfalso; simp [dm] at h)
def numB (lo hi : Int) : P → Bool
  | .int i => decide (lo ≤ i) && decide (i ≤ hi)
  | _ => false
def signB : P → Bool
  | .str x => decide (1 ≤ x.length) && decide (x.length ≤ 40)
  | _ => false
def ltS (a b : Str) : Bool := decide (a.cps.toList < b.cps.toList)
def ascB : List Str → Bool
  | a :: b :: r => ltS a b && ascB (b :: r)
  | _ => true
def strL : List P → List Str
  | [] => []
  | .str x :: r => x :: strL r
  | _ :: r => strL r
abbrev Tp (ss : List Str) : P := .tup (ss.map .str)
def factsB : P → Bool
  | .tup l => l.all signB && ascB (strL l)
  | _ => false
theorem signs_str : ∀ {l : List P}, l.all signB = true → l = (strL l).map .str
  | [], _ => rfl
  | x :: r, h => by
    simp only [List.all_cons, Bool.and_eq_true] at h
    cases x <;> simp only [signB] at h <;> first | (exact absurd h.1 (by decide)) | skip
    simp only [strL, List.map_cons]
    rw [← signs_str h.2]
theorem strL_map (ss : List Str) : strL (ss.map .str) = ss := by
  induction ss with
  | nil => rfl
  | cons x r ih => simp only [List.map_cons, strL, ih]
theorem blsP_map {α : Type} (f : α → Bool) (l : List α) : blsP (l.map fun x => .bl (f x)) = some (l.map f) := by
  induction l with
  | nil => rfl
  | cons x r ih => simp only [List.map_cons, blsP, ih, Option.map_some]
theorem allPy_all {α : Type} (f : α → Bool) (l : List α) : allPy false [.lst (l.map fun x => .bl (f x))] = some (.bl (l.all f)) := by
  simp only [allPy, asL, blsP_map, Option.map_some]
  simp [List.all_map, Function.comp_def]
theorem allPy_any {α : Type} (f : α → Bool) (l : List α) : allPy true [.lst (l.map fun x => .bl (f x))] = some (.bl (l.any f)) := by
  simp only [allPy, asL, blsP_map, Option.map_some]
  simp [List.any_map, Function.comp_def]
theorem filt_true {α : Type} (l : List α) : l.filter (fun _ => true) = l := List.filter_eq_self.mpr fun _ _ => rfl
theorem compP_map {α : Type} {i : α → P} {g : FG} {ft : F Bool} {fe : F Wv} {ρ : Vars} {S : List Ob} {t : α → Bool} {e : α → P} : ∀ (l : List α) (acc : List P), (∀ a ∈ l, ∃ ρ1, g (.p (i a)) ρ S = some ρ1 ∧ ft ρ1 S = some (.ok (t a), S) ∧ (t a = true → fe ρ1 S = some (.ok (.p (e a)), S))) → compP g ft fe ρ (l.map i) acc S = some (acc ++ (l.filter t).map e, S)
  | [], acc, _ => by simp [compP]
  | x :: r, acc, h => by
    obtain ⟨ρ1, h1, h2, h3⟩ := h x List.mem_cons_self
    have ih := compP_map (i := i) (g := g) (ft := ft) (fe := fe) (ρ := ρ) (S := S) (e := e) (t := t) r
    simp only [List.map_cons, compP, h1, h2]
    cases ht : t x with
    | false =>
      simp only [List.filter_cons, ht]
      exact ih acc fun y hy => h y (List.mem_cons_of_mem _ hy)
    | true =>
      simp only [h3 ht, List.filter_cons, ht, if_true, List.map_cons]
      rw [ih _ fun y hy => h y (List.mem_cons_of_mem _ hy), List.append_assoc]
      rfl
/-- no test -/
theorem compP_all {α : Type} {i : α → P} {g : FG} {fe : F Wv} {ρ : Vars} {S : List Ob} {e : α → P} (l : List α) (h : ∀ a ∈ l, ∃ ρ1, g (.p (i a)) ρ S = some ρ1 ∧ fe ρ1 S = some (.ok (.p (e a)), S)) : compP g (retF true) fe ρ (l.map i) [] S = some (l.map e, S) := by
  rw [compP_map (t := fun _ => true) (e := e) l [] fun a ha => ?_, filt_true]
  · rfl
  · obtain ⟨ρ1, h1, h2⟩ := h a ha
    exact ⟨ρ1, h1, rfl, fun _ => h2⟩
theorem compP_all' {g : FG} {fe : F Wv} {ρ : Vars} {S : List Ob} {e : P → P} (l : List P) (h : ∀ a ∈ l, ∃ ρ1, g (.p a) ρ S = some ρ1 ∧ fe ρ1 S = some (.ok (.p (e a)), S)) : compP g (retF true) fe ρ l [] S = some (l.map e, S) := by
  have := compP_all (i := id) l h
  rwa [List.map_id] at this
theorem loopP_pure {body : Vars → List P → List Ob → Option (List P × List Ob)} {g : FG} {ft : F Bool} {ρ : Vars} {S : List Ob} {f : P → List P} : ∀ (l acc : List P), (∀ x ∈ l, ∃ ρ1, g (.p x) ρ S = some ρ1 ∧ ft ρ1 S = some (.ok true, S) ∧ ∀ acc, body ρ1 acc S = some (acc ++ f x, S)) → loopP body g ft ρ l acc S = some (acc ++ l.flatMap f, S)
  | [], acc, _ => by simp [loopP]
  | x :: r, acc, h => by
    obtain ⟨ρ1, h1, h2, h3⟩ := h x List.mem_cons_self
    simp only [loopP, h1, h2, h3]
    rw [loopP_pure r _ fun y hy => h y (List.mem_cons_of_mem _ hy), List.flatMap_cons, List.append_assoc]
end Wr
namespace Wr.K00
open PySem PySem.Spec PyProof.Rows L2 Wr
local macro_rules
  | `(tactic| array_get_dec) => `(tactic| simp (config := { failIfUnchanged := false }) only [evSs, evS, evE, evEs, evAnd, evOr, evT, evAndT, evOrT, evI, evO, evTg, evBF, evBN, evBO, evCO, evCs, q_seqS, q_skip, q_fRet, q_fRetN, q_fIfS, q_bindS, q_bindF, q_ret, q_fVar, q_fC, q_fOne, q_fNot, q_fAnd, q_fOr, q_fIf, q_fTru, q_asB, q_fAndT, q_fOrT, q_fNotT, q_f2, q_fChain, q_fB, q_fBn, q_fCons, q_fNil, q_fTup, q_fLst, q_fSl, q_fRev, q_fPart, q_fLc, q_fLcN, q_fItems, q_fZip, q_fRng1, q_fEnum, q_fFor, q_fAsg, q_fPar, q_fRaise0, q_fRaise1, q_fSetI, q_dropS, q_fStar, q_glb, q_call,
  kB_ok, kB_exc, kB_ite, kA_bl, kO_bl, m_and, m_or, kN_bl, kO1_some, kV_p, kT_bl, m_andT, m_orT, kC2_bl, kL_p1, kNw_f, kNw_t, kSl_tup, kSl_lst, kC_f, kC_t, kS_ok, kS_exc, kS_ite, kQ_nx, kQ_ret, kQ_exc, kQ_ite, endF_ite, kR_ok, kR_exc, kR_ite, kP, allP, newL, gNm, gTupN, gNms, view_p, itemsOf_lst, itemsOf_tup, itemsOf_lsf, asL_lst, asL_lsf, asL_tup, asT_lst, asT_tup, truP_bl, vals,
  List.getElem?_cons_zero, List.getElem?_cons_succ, List.map_cons, List.map_nil, List.cons_append, List.nil_append, List.length_cons, List.length_nil, List.set_cons_zero, List.set_cons_succ, List.replicate_succ, List.replicate_zero, wipeV, Option.map_some, Option.map_none, if_true, if_false, Bool.false_eq_true, reduceCtorEq, Nat.reduceAdd, Nat.reduceSub, Nat.reduceLT, Nat.reduceLeDiff, Bool.not_true, Bool.not_false, Bool.and_true, Bool.true_and, Bool.and_false, Bool.false_and, Bool.or_true, Bool.true_or, Bool.or_false, Bool.false_or])
section
variable {fuel k : Nat} {S : List Ob}
theorem is_integer_ (hS : Sl S) {v : P} (hv : dm v = true) : cl fuel (k + 1) 0 [.p v] S = some (.ok (.bl (isInt v && !isBl v)), S) := by
  rw [cl_def d_is_integer rfl]
  simp only [d_is_integer, N_is_integer, s_is_integer]
  array_get_dec
  simp only [isi_int hv, isi_bool hv]
  array_get_dec
  exact endF_ret hS _ _
theorem is_number_ (hS : Sl S) {v : P} (hv : dm v = true) (lo hi : Int) : cl fuel (k + 2) 1 [.p v, .p (.int lo), .p (.int hi)] S = some (.ok (.bl (numB lo hi v)), S) := by
  rw [cl_def d_is_number rfl]
  simp only [d_is_number, N_is_number, s_is_number]
  array_get_dec
  rw [is_integer_ hS hv]
  array_get_dec
  cases v <;> first | (exfalso; simp [dm] at hv; done) | (simp only [isInt, isBl, numB]; array_get_dec; first | exact endF_ret hS _ _ | skip)
  simp only [cmpI]
  array_get_dec
  exact endF_ret hS _ _
theorem is_sign_row_ (hS : Sl S) {v : P} (hv : dm v = true) : cl fuel (k + 1) 2 [.p v] S = some (.ok (.bl (signB v)), S) := by
  rw [cl_def d_is_sign_row rfl]
  simp only [d_is_sign_row, N_is_sign_row, s_is_sign_row]
  array_get_dec
  simp only [isi_str hv]
  array_get_dec
  cases v <;> first | (exfalso; simp [dm] at hv; done) | (simp only [isStr, signB]; array_get_dec; first | exact endF_ret hS _ _ | skip)
  rename_i x
  have hx : x.length ≤ sizeLine := by rw [sizeLine_eq]; simpa [dm] using hv
  simp only [lenP, hx, if_true, cmpI]
  array_get_dec
  have e1 : decide ((1 : Int) ≤ ((x.length : Nat) : Int)) = decide (1 ≤ x.length) := by
    apply decide_eq_decide.mpr; omega
  have e2 : decide (((x.length : Nat) : Int) ≤ 40) = decide (x.length ≤ 40) := by
    apply decide_eq_decide.mpr; omega
  simp only [lenP, hx, if_true, cmpI, e1, e2]
  array_get_dec
  exact endF_ret hS _ _
theorem zip_strs : ∀ (ss ts : List Str), zipP (ss.map P.str) (ts.map P.str) = (ss.zip ts).map fun p => .tup [.str p.1, .str p.2]
  | [], ts => by cases ts <;> rfl
  | a :: r, [] => rfl
  | a :: r, b :: u => by
    simp only [List.map_cons, zipP, List.zip_cons_cons]
    rw [zip_strs r u]
theorem cut1 (l : List P) : cutP l (some 1) none = l.tail := by
  unfold cutP
  cases l with
  | nil => rfl
  | cons a r =>
    have h1 : HT.sIx (a :: r).length 0 (some 1) = 1 := by
      have := HT.sIx_nat (a :: r).length 0 1
      rw [show ((1 : Nat) : Int) = 1 from rfl] at this
      rw [this]
      simp
    rw [h1, HT.sIx_none]
    simp
theorem asc_zip : ∀ ss : List Str, ((ss.zip ss.tail).all fun p => ltS p.1 p.2) = ascB ss
  | [] => rfl
  | [_] => rfl
  | a :: b :: r => by
    have := asc_zip (b :: r)
    simp only [List.tail_cons, List.zip_cons_cons, List.all_cons, ascB] at this ⊢
    rw [← this]
theorem is_ascending_ (hS : Sl S) (ss : List Str) (w : P) (hw : w = .lst (ss.map .str) ∨ w = .tup (ss.map .str)) : cl fuel (k + 1) 3 [.p w] S = some (.ok (.bl (ascB ss)), S) := by
  rw [cl_def d_is_ascending rfl]
  simp only [d_is_ascending, N_is_ascending, s_is_ascending]
  have go : ∀ ρ : Vars, ρ.length = 3 → compP (gTupN [1, 2]) (retF true) (f2 ltP (fVar 1) (fVar 2)) ρ ((ss.zip ss.tail).map fun p => .tup [.str p.1, .str p.2]) [] S = some ((ss.zip ss.tail).map fun p => .bl (ltS p.1 p.2), S) := by
    intro ρ hρ
    match ρ, hρ with
    | [a, b, c], _ => exact compP_all _ fun p _ => ⟨_, rfl, rfl⟩
  rcases hw with rfl | rfl
  · array_get_dec
    simp only [zipItems, asL, cut1, ← List.map_tail, zip_strs]
    array_get_dec
    rw [go _ rfl]
    array_get_dec
    simp only [allPy_all, asc_zip]
    array_get_dec
    exact endF_ret hS _ _
  · array_get_dec
    simp only [zipItems, asL, asT, cut1, ← List.map_tail, zip_strs]
    array_get_dec
    rw [go _ rfl]
    array_get_dec
    simp only [allPy_all, asc_zip]
    array_get_dec
    exact endF_ret hS _ _
theorem dm_of {l : List P} (h : dm (.tup l) = true) : ∀ x ∈ l, dm x = true := dmL_all.mp (by simpa [dm] using h)
theorem is_facts_ (hS : Sl S) {v : P} (hv : dm v = true) : cl fuel (k + 2) 4 [.p v] S = some (.ok (.bl (factsB v)), S) := by
  rw [cl_def d_is_facts rfl]
  simp only [d_is_facts, N_is_facts, s_is_facts]
  array_get_dec
  simp only [isi_tup hv]
  array_get_dec
  cases v <;> first | (exfalso; simp [dm] at hv; done) | (simp only [isTup, factsB]; array_get_dec; first | exact endF_ret hS _ _ | skip)
  rename_i l
  rw [compP_all' (e := fun x => .bl (signB x)) l fun x hx => ⟨_, rfl, by
    array_get_dec
    rw [is_sign_row_ hS (dm_of hv x hx)]
    array_get_dec⟩]
  array_get_dec
  simp only [allPy_all]
  array_get_dec
  cases hl : l.all signB with
  | false =>
    array_get_dec
    exact endF_ret hS _ _
  | true =>
    array_get_dec
    rw [is_ascending_ hS (strL l) (.tup l) (.inr (by rw [← signs_str hl]))]
    array_get_dec
    exact endF_ret hS _ _
end
end Wr.K00

set_option maxHeartbeats 4000000
namespace Wr
open PySem PySem.Spec PyProof.Rows L2
theorem inL_str (x : Str) (ts : List Str) : inL (.str x) (ts.map .str) = decide (x ∈ ts) := by
  unfold inL
  induction ts with
  | nil => simp
  | cons a r ih =>
    rw [List.map_cons, List.any_cons, ih]
    have e : eqP (.str a) (.str x) = (a == x) := by simp [eqP]
    rw [e]
    by_cases h : a = x
    · simp [h]
    · have h2 : ¬ x = a := fun q => h q.symm
      simp [h, h2]
theorem flat_strs (ts : List Str) : (ts.map P.str).all flatP = true := by
  rw [List.all_map, List.all_eq_true]
  intro x _
  rfl
theorem inF_strs (neg : Bool) (x : Str) (ts : List Str) (w : P) (hw : w = .lst (ts.map .str) ∨ w = .tup (ts.map .str)) : inF neg (.str x) w = some (.bl (if neg = true then !decide (x ∈ ts) else decide (x ∈ ts))) := by
  rcases hw with rfl | rfl
  · unfold inF
    simp only [asL, flat_strs, inL_str, flatP, Bool.and_self, if_true]
  · unfold inF
    simp only [asL, asT, flat_strs, inL_str, flatP, Bool.and_self, if_true]
theorem mem_putT {x k : Str} {l : List Str} : x ∈ putT k l ↔ x = k ∨ x ∈ l := by
  unfold putT
  split
  · rename_i h
    exact ⟨.inr, fun q => q.elim (fun e => e ▸ h) id⟩
  · simp
theorem mem_putTs {x : Str} : ∀ {ks l : List Str}, x ∈ putTs l ks ↔ x ∈ l ∨ x ∈ ks
  | [], l => by simp [putTs]
  | k :: r, l => by
    simp only [putTs, mem_putTs (ks := r), mem_putT, List.mem_cons]
    constructor
    · rintro ((h | h) | h)
      · exact .inr (.inl h)
      · exact .inl h
      · exact .inr (.inr h)
    · rintro (h | h | h)
      · exact .inl (.inr h)
      · exact .inl (.inl h)
      · exact .inr h
theorem strsP_map : ∀ ss : List Str, strsP (ss.map .str) = some ss
  | [] => rfl
  | x :: r => by simp only [List.map_cons, strsP, strsP_map r, Option.map_some]
theorem setPy_strs (ts : List Str) (w : P) (hw : w = .lst (ts.map .str) ∨ w = .tup (ts.map .str)) (h : ts.length + 1 < 4096) : setPy [w] = some (.set (putTs [] ts)) := by
  rcases hw with rfl | rfl
  · simp only [setPy, asL, mkSet, strsP_map, h, if_true]
  · simp only [setPy, asL, asT, mkSet, strsP_map, h, if_true]
theorem inSet_str (x : Str) (ts : List Str) : inSet false (.str x) (.set (putTs [] ts)) = some (.bl (decide (x ∈ ts))) := by
  have e : decide (x ∈ putTs [] ts) = decide (x ∈ ts) := by
    apply decide_eq_decide.mpr
    simp [mem_putTs]
  simp only [inSet, Bool.false_eq_true, if_false, e]
theorem allP_app : ∀ (l : List P) (ws : List Wv), allP (l.map Wv.p ++ ws) = (allP ws).map (l ++ ·)
  | [], ws => by simp
  | x :: r, ws => by
    simp only [List.map_cons, List.cons_append, allP, allP_app r ws, Option.map_map]
    rfl
/-- sorted texts without doubles -/
def srt (ss : List Str) : List Str := sortT (putTs [] ss)
def meet (a b : List Str) : Bool := a.any fun x => decide (x ∈ b)
def strT : P → List Str
  | .tup l => strL l
  | _ => []
theorem facts_tp {v : P} (h : factsB v = true) : v = Tp (strT v) ∧ ascB (strT v) = true := by
  cases v <;> simp only [factsB, Bool.and_eq_true] at h <;> first | (cases h; done) | skip
  exact ⟨congrArg P.tup (signs_str h.1), h.2⟩
def deedB : P → Bool
  | .tup [n, a, b, c, d, q] => signB n && (factsB a && (factsB b && (factsB c && factsB d))) && (!(meet (strT a) (strT b) || meet (strT c) (strT d)) && numB 1 9 q)
  | _ => false
def nameP : P → Str
  | .tup (.str n :: _) => n
  | _ => ""
def toldD : P → List Str
  | .tup [_, a, b, c, d, _] => strT a ++ (strT b ++ (strT c ++ strT d))
  | _ => []
def toldP (l : List P) : List Str := l.flatMap toldD
def factsP (l : List P) (b w : P) : List Str := srt (toldP l ++ (strT b ++ strT w))
def wrong : P → Option Str
  | .tup [.tup l, b, w] => if 14 < l.length then some "deeds" else if l.all deedB = false then some "deeds" else if ascB (l.map nameP) = false then some "names" else if factsB b = false then some "begin" else if factsB w = false then some "wish" else if 10 < (factsP l b w).length then some "facts" else none
  | .tup [_, _, _] => some "deeds"
  | _ => some "form"
def optP : Option Str → P
  | none => .non
  | some x => .str x
theorem strL_len : ∀ l : List P, (strL l).length ≤ l.length
  | [] => Nat.le_refl _
  | x :: r => by
    have := strL_len r
    cases x <;> simp only [strL, List.length_cons] <;> omega
theorem strT_wt (v : P) : (strT v).length ≤ wt v := by
  cases v <;> simp only [strT, List.length_nil, wt] <;> try omega
  rename_i l
  have := strL_len l
  have := wtL_len l
  omega
theorem loopP_bd {N : Nat} {body : Vars → List P → List Ob → Option (List P × List Ob)} {g : FG} {ft : F Bool} {ρ : Vars} {S : List Ob} {f : P → List P} : ∀ (l acc : List P), (∀ x ∈ l, ∃ ρ1, g (.p x) ρ S = some ρ1 ∧ ft ρ1 S = some (.ok true, S) ∧ ∀ acc, acc.length + (f x).length ≤ N → body ρ1 acc S = some (acc ++ f x, S)) → acc.length + (l.flatMap f).length ≤ N → loopP body g ft ρ l acc S = some (acc ++ l.flatMap f, S)
  | [], acc, _, _ => by simp [loopP]
  | x :: r, acc, h, hN => by
    obtain ⟨ρ1, h1, h2, h3⟩ := h x List.mem_cons_self
    rw [List.flatMap_cons, List.length_append] at hN
    simp only [loopP, h1, h2, h3 acc (by omega)]
    rw [loopP_bd r _ (fun y hy => h y (List.mem_cons_of_mem _ hy)) (by rw [List.length_append]; omega), List.flatMap_cons, List.append_assoc]
structure DeedS (x : P) (n : Str) (a b c d : List Str) (q : Int) : Prop where
  eq : x = .tup [.str n, Tp a, Tp b, Tp c, Tp d, .int q]
  told : toldD x = a ++ (b ++ (c ++ d))
  name : nameP x = n
  fa : factsB (Tp a) = true
  fb : factsB (Tp b) = true
  fc : factsB (Tp c) = true
  fd : factsB (Tp d) = true
  m1 : meet a b = false
  m2 : meet c d = false
  pr : 1 ≤ q ∧ q ≤ 9
  nm : signB (.str n) = true
theorem deed_tp {x : P} (h : deedB x = true) : ∃ n a b c d q, DeedS x n a b c d q := by
  unfold deedB at h
  split at h
  · rename_i n a b c d q
    simp only [Bool.and_eq_true, Bool.not_eq_true', Bool.or_eq_false_iff] at h
    obtain ⟨⟨h1, h2, h3, h4, h5⟩, ⟨h6, h7⟩, h8⟩ := h
    have ea := (facts_tp h2).1
    have eb := (facts_tp h3).1
    have ec := (facts_tp h4).1
    have ed := (facts_tp h5).1
    cases n <;> simp only [signB] at h1 <;> first | (cases h1; done) | skip
    cases q <;> simp only [numB, Bool.and_eq_true, decide_eq_true_eq] at h8 <;> first | (cases h8; done) | skip
    rename_i n q
    refine ⟨n, strT a, strT b, strT c, strT d, q, by rw [← ea, ← eb, ← ec, ← ed], rfl, rfl, ea ▸ h2, eb ▸ h3, ec ▸ h4, ed ▸ h5, h6, h7, h8, ?_⟩
    simpa [signB] using h1
  · cases h
theorem strL_map' (ss : List Str) : strT (Tp ss) = ss := strL_map ss
theorem flat_one {α β : Type} (f : α → β) (l : List α) : l.flatMap (fun x => [f x]) = l.map f := by
  induction l with
  | nil => rfl
  | cons x r ih => rw [List.flatMap_cons, ih]; rfl
theorem toldD_wt {x : P} (h : deedB x = true) : (toldD x).length ≤ wt x := by
  unfold deedB at h
  split at h
  · rename_i n a b c d q
    have := strT_wt a
    have := strT_wt b
    have := strT_wt c
    have := strT_wt d
    simp only [toldD, List.length_append, wt, wtL]
    omega
  · cases h
theorem toldP_wt : ∀ {l : List P}, l.all deedB = true → (toldP l).length ≤ wtL l
  | [], _ => Nat.le_refl _
  | x :: r, h => by
    simp only [List.all_cons, Bool.and_eq_true] at h
    have := toldD_wt h.1
    have := toldP_wt h.2
    unfold toldP at *
    simp only [List.flatMap_cons, List.length_append, wtL]
    omega
theorem sortedPy_set (l : List Str) (h : l.length ≤ 4096) : sortedPy [.set (putTs [] l)] = some ((srt l).map .str) := by
  have le : (putTs [] l).length ≤ sizeLine := by
    have : ∀ (ks m : List Str), (putTs m ks).length ≤ m.length + ks.length := by
      intro ks
      induction ks with
      | nil => intro m; exact Nat.le_refl _
      | cons k r ih =>
        intro m
        have := ih (putT k m)
        have : (putT k m).length ≤ m.length + 1 := by unfold putT; split <;> simp
        simp only [putTs, List.length_cons]
        omega
    have := this l []
    simp only [List.length_nil] at this
    rw [sizeLine_eq]
    omega
  simp only [sortedPy, le, if_true, srt]
theorem allP_map (l : List P) : allP (l.map Wv.p) = some l := by
  have := allP_app l []
  simpa [allP] using this
theorem neF_int (a b : Int) : neF (.int a) (.int b) = some (.bl (!decide (a = b))) := by
  simp only [neF, dat, dep, eqP]
  by_cases h : a = b <;> simp [h]
theorem eqF_int (a b : Int) : eqF (.int a) (.int b) = some (.bl (decide (a = b))) := by
  simp only [eqF, dat, dep, eqP]
  by_cases h : a = b <;> simp [h]
theorem allPy4 (x y z u : Bool) : allPy false [.lst [.bl x, .bl y, .bl z, .bl u]] = some (.bl (x && (y && (z && u)))) := by
  simp [allPy, asL, blsP]
theorem kCN_f (l : List P) (S : List Ob) (h : l.length ≤ 16777216) : kCN false (some (l, S)) = some (.ok (.p (.lst l)), S) := if_pos h
theorem cut_1_5 (n a b c d q : P) : cutP [n, a, b, c, d, q] (some 1) (some 5) = [a, b, c, d] := rfl
end Wr
namespace Wr.K00
open PySem PySem.Spec PyProof.Rows L2 Wr
local macro_rules
  | `(tactic| array_get_dec) => `(tactic| simp (config := { failIfUnchanged := false }) only [evSs, evS, evE, evEs, evAnd, evOr, evT, evAndT, evOrT, evI, evO, evTg, evBF, evBN, evBO, evCO, evCs, q_seqS, q_skip, q_fRet, q_fRetN, q_fIfS, q_bindS, q_bindF, q_ret, q_fVar, q_fC, q_fOne, q_fNot, q_fAnd, q_fOr, q_fIf, q_fTru, q_asB, q_fAndT, q_fOrT, q_fNotT, q_f2, q_fChain, q_fB, q_fBn, q_fCons, q_fNil, q_fTup, q_fLst, q_fSl, q_fRev, q_fPart, q_fLc, q_fLcN, q_fItems, q_fZip, q_fRng1, q_fEnum, q_fFor, q_fAsg, q_fPar, q_fRaise0, q_fRaise1, q_fSetI, q_dropS, q_fStar, q_glb, q_call,
  kB_ok, kB_exc, kB_ite, kA_bl, kO_bl, m_and, m_or, kN_bl, kO1_some, kV_p, kT_bl, m_andT, m_orT, kC2_bl, kL_p1, kNw_f, kNw_t, kSl_tup, kSl_lst, kC_f, kC_t, kS_ok, kS_exc, kS_ite, kQ_nx, kQ_ret, kQ_exc, kQ_ite, endF_ite, kR_ok, kR_exc, kR_ite, kP, allP, newL, gNm, gTupN, gNms, view_p, itemsOf_lst, itemsOf_tup, itemsOf_lsf, asL_lst, asL_lsf, asL_tup, asT_lst, asT_tup, truP_bl, vals,
  List.getElem?_cons_zero, List.getElem?_cons_succ, List.map_cons, List.map_nil, List.cons_append, List.nil_append, List.length_cons, List.length_nil, List.set_cons_zero, List.set_cons_succ, List.replicate_succ, List.replicate_zero, wipeV, Option.map_some, Option.map_none, if_true, if_false, Bool.false_eq_true, reduceCtorEq, Nat.reduceAdd, Nat.reduceSub, Nat.reduceLT, Nat.reduceLeDiff, Bool.not_true, Bool.not_false, Bool.and_true, Bool.true_and, Bool.and_false, Bool.false_and, Bool.or_true, Bool.true_or, Bool.or_false, Bool.false_or])
section
variable {fuel k : Nat} {S : List Ob}
theorem all_stand_ (hS : Sl S) (ws ts : List Str) (v w : P) (hv : v = .lst (ws.map .str) ∨ v = .tup (ws.map .str)) (hw : w = .lst (ts.map .str) ∨ w = .tup (ts.map .str)) : cl fuel (k + 1) 6 [.p v, .p w] S = some (.ok (.bl (ws.all fun x => decide (x ∈ ts))), S) := by
  rw [cl_def d_all_stand rfl]
  simp only [d_all_stand, N_all_stand, s_all_stand]
  have go : ∀ ρ : Vars, ρ.length = 3 → ρ[1]? = some (some (.p w)) → compP (gNm 2) (retF true) (f2 (fun x y => (inF false x y).or (inSet false x y)) (fVar 2) (fVar 1)) ρ (ws.map .str) [] S = some (ws.map fun x => .bl (decide (x ∈ ts)), S) := by
    intro ρ hρ h1
    match ρ, hρ with
    | [a, b, c], _ =>
      have e : b = some (.p w) := by simpa using h1
      subst e
      refine compP_all _ fun x _ => ⟨_, rfl, ?_⟩
      array_get_dec
      rw [inF_strs false x ts w hw]
      simp only [Option.some_or]
      array_get_dec
  rcases hv with rfl | rfl
  · array_get_dec
    rw [go _ rfl rfl]
    array_get_dec
    simp only [allPy_all]
    array_get_dec
    exact endF_ret hS _ _
  · array_get_dec
    rw [go _ rfl rfl]
    array_get_dec
    simp only [allPy_all]
    array_get_dec
    exact endF_ret hS _ _
theorem some_stand_ (hS : Sl S) (ws ts : List Str) (v w : P) (hv : v = .lst (ws.map .str) ∨ v = .tup (ws.map .str)) (hw : w = .lst (ts.map .str) ∨ w = .tup (ts.map .str)) (hl : ts.length + 1 < 4096) : cl fuel (k + 1) 7 [.p v, .p w] S = some (.ok (.bl (meet ws ts)), S) := by
  rw [cl_def d_some_stand rfl]
  simp only [d_some_stand, N_some_stand, s_some_stand]
  have go : ∀ ρ : Vars, ρ.length = 4 → ρ[2]? = some (some (.p (.set (putTs [] ts)))) → compP (gNm 3) (retF true) (f2 (fun x y => (inF false x y).or (inSet false x y)) (fVar 3) (fVar 2)) ρ (ws.map .str) [] S = some (ws.map fun x => .bl (decide (x ∈ ts)), S) := by
    intro ρ hρ h1
    match ρ, hρ with
    | [a, b, c, d], _ =>
      have e : c = some (.p (.set (putTs [] ts))) := by simpa using h1
      subst e
      refine compP_all _ fun x _ => ⟨_, rfl, ?_⟩
      array_get_dec
      have e : inF false (.str x) (.set (putTs [] ts)) = none := rfl
      rw [e, inSet_str]
      simp only [Option.none_or]
      array_get_dec
  have fin : meet ws ts = ws.any fun x => decide (x ∈ ts) := rfl
  array_get_dec
  rw [setPy_strs ts w hw hl]
  rcases hv with rfl | rfl
  · array_get_dec
    rw [go _ rfl rfl]
    array_get_dec
    simp only [allPy_any]
    array_get_dec
    exact endF_ret hS _ _
  · array_get_dec
    rw [go _ rfl rfl]
    array_get_dec
    simp only [allPy_any]
    array_get_dec
    exact endF_ret hS _ _
theorem told_facts_ (hS : Sl S) {l : List P} {b w : P} (hl : l.all deedB = true) (hb : factsB b = true) (hw : factsB w = true) (hz : wtL l + wt b + wt w ≤ 4000) : cl fuel (k + 1) 8 [.p (.tup [.tup l, b, w])] S = some (.ok (Tp (factsP l b w)), S) := by
  obtain ⟨be, rfl⟩ : ∃ be, b = Tp be := ⟨_, (facts_tp hb).1⟩
  obtain ⟨wi, rfl⟩ : ∃ wi, w = Tp wi := ⟨_, (facts_tp hw).1⟩
  rw [cl_def d_told_facts rfl]
  simp only [d_told_facts, N_told_facts, s_told_facts]
  have hlen := toldP_wt hl
  have lb := strT_wt (Tp be)
  have lw := strT_wt (Tp wi)
  rw [strL_map'] at lb lw
  have inner : ∀ (ss : List Str) (ρ : Vars), ρ.length = 8 → ∀ acc : List P, acc.length + ss.length ≤ 16777216 → loopP (restP (fVar 7) [5, 6, 7] []) (gNm 7) (retF true) ρ (ss.map .str) acc S = some (acc ++ ss.map .str, S) := by
    intro ss ρ hρ acc ha
    have e : (ss.map P.str).flatMap (fun x => [x]) = ss.map P.str := by rw [flat_one (fun x => x)]; simp
    rw [loopP_bd (N := 16777216) (f := fun x => [x]) (ss.map .str) acc (fun x _ => ?_) (by rw [e, List.length_map]; exact ha), e]
    match ρ, hρ with
    | [r0, r1, r2, r3, r4, r5, r6, r7], _ =>
      refine ⟨_, rfl, rfl, fun acc h => ?_⟩
      simp only [List.length_cons, List.length_nil] at h
      have h' : acc.length < 16777216 := by omega
      simp only [restP, q_fVar, List.set_cons_succ, List.set_cons_zero, List.getElem?_cons_succ, List.getElem?_cons_zero, h', if_true]
  have mid : ∀ (x : P), deedB x = true → ∀ (ρ : Vars), ρ.length = 8 → ∀ acc : List P, acc.length + (toldD x).length ≤ 16777216 →
      restP (fVar 7) [5, 6, 7] [{ fi := fItems (fSl false (fVar 5) (fPart (fC (P.int 1))) (fPart (fC (P.int 5)))), g := gNm 6, is := (Tg.nm 6).slots, ft := retF true }, { fi := fItems (fVar 6), g := gNm 7, is := (Tg.nm 7).slots, ft := retF true }] (ρ.set 5 (some (.p x))) acc S = some (acc ++ (toldD x).map .str, S) := by
    intro x hx ρ hρ acc ha
    obtain ⟨n, a, b, c, d, q, D⟩ := deed_tp hx
    rw [D.told] at ha ⊢
    match ρ, hρ with
    | [r0, r1, r2, r3, r4, r5, r6, r7], _ =>
      simp only [restP, D.eq]
      array_get_dec
      rw [cut_1_5]
      have e : [Tp a, Tp b, Tp c, Tp d] = [a, b, c, d].map Tp := rfl
      rw [loopP_bd (N := 16777216) (f := fun r => (strT r).map .str) [Tp a, Tp b, Tp c, Tp d] acc (fun r hr => ?h1) ?h2]
      case h1 =>
        have hr' : ∃ ss, r = Tp ss := by
          rw [e] at hr
          obtain ⟨ss, _, e2⟩ := List.mem_map.mp hr
          exact ⟨ss, e2.symm⟩
        obtain ⟨ss, rfl⟩ := hr'
        refine ⟨_, rfl, rfl, fun acc h => ?_⟩
        rw [strL_map', List.length_map] at h
        array_get_dec
        rw [strL_map']
        exact inner ss _ rfl acc h
      case h2 =>
        simp only [List.flatMap_cons, List.flatMap_nil, strL_map', List.length_append, List.length_map, List.length_nil] at ha ⊢
        omega
      simp only [List.flatMap_cons, List.flatMap_nil, strL_map', List.map_append, List.append_nil]
  have tl : l.flatMap (fun x => (toldD x).map P.str) = (toldP l).map P.str := by
    unfold toldP
    rw [List.map_flatMap]
  array_get_dec
  rw [loopP_bd (N := 16777216) (f := fun x => (toldD x).map .str) l [] (fun x hx => ⟨_, rfl, rfl, fun acc h => mid x (List.all_eq_true.mp hl x hx) _ rfl acc (by simpa using h)⟩) (by rw [tl, List.length_map, List.length_nil]; omega)]
  rw [tl]
  have hcl : ((toldP l).map P.str).length ≤ 16777216 := by rw [List.length_map]; omega
  rw [List.nil_append, kCN_f _ _ hcl]
  array_get_dec
  simp only [allP_app, allP_map, allP, List.append_nil, Option.map_some, ← List.map_append]
  have e3 : (toldP l ++ (be ++ wi)).length ≤ 4000 := by
    simp only [List.length_append]
    omega
  rw [if_pos (by rw [List.length_map]; omega)]
  array_get_dec
  rw [setPy_strs _ _ (.inl rfl) (by omega)]
  array_get_dec
  rw [sortedPy_set _ (by omega)]
  array_get_dec
  simp only [tupPy]
  array_get_dec
  have ef : factsP l (Tp be) (Tp wi) = srt (toldP l ++ (be ++ wi)) := by unfold factsP; rw [strL_map', strL_map']
  rw [ef]
  exact endF_ret hS _ _
theorem and4 (f : P → Bool) (a b c d : P) : [a, b, c, d].all f = (f a && (f b && (f c && f d))) := by simp [Bool.and_assoc]
theorem is_deed_ (hS : Sl S) {v : P} (hv : dm v = true) (hw : wt v ≤ 4000) : cl fuel (k + 3) 5 [.p v] S = some (.ok (.bl (deedB v)), S) := by
  rw [cl_def d_is_deed rfl]
  simp only [d_is_deed, N_is_deed, s_is_deed]
  array_get_dec
  simp only [isi_tup hv]
  array_get_dec
  have no6 : ∀ l : List P, v = .tup l → l.length ≠ 6 → deedB v = false := by
    rintro l rfl h
    unfold deedB
    split
    · rename_i e
      cases e
      exact absurd rfl h
    · rfl
  cases v <;> first | (exfalso; simp [dm] at hv; done) | (simp only [isTup]; array_get_dec; first | exact endF_ret hS _ _ | skip)
  rename_i l
  simp only [lenP]
  array_get_dec
  rw [neF_int]
  array_get_dec
  by_cases h6 : l.length = 6
  · match l, h6 with
    | [n, a, b, c, d, q], _ =>
      have hd := dm_of hv
      simp only [List.mem_cons, List.not_mem_nil, or_false, forall_eq_or_imp, forall_eq] at hd
      obtain ⟨d1, d2, d3, d4, d5, d6⟩ := hd
      simp only [wt, wtL] at hw
      have e : (!decide (((([n, a, b, c, d, q] : List P).length : Nat) : Int) = 6)) = false := rfl
      rw [e]
      array_get_dec
      rw [is_sign_row_ hS d1]
      array_get_dec
      have rows := compP_all' (g := gNm 7) (fe := evE G (Gam G ds fuel (k + 2)) (.call 4 (.cons (.var 7) .nil))) (ρ := [some (Wv.p (P.tup [n, a, b, c, d, q])), some (Wv.p n), some (Wv.p a), some (Wv.p b), some (Wv.p c), some (Wv.p d), some (Wv.p q), none]) (S := S) (e := fun x => .bl (factsB x)) [a, b, c, d] (fun x hx => ⟨_, rfl, by
        have hx' : dm x = true := by
          simp only [List.mem_cons, List.not_mem_nil, or_false] at hx
          rcases hx with rfl | rfl | rfl | rfl <;> assumption
        array_get_dec
        rw [is_facts_ hS hx']
        array_get_dec⟩)
      cases h1 : signB n with
      | false =>
        array_get_dec
        simp only [deedB, h1, Bool.false_and]
        exact endF_ret hS _ _
      | true =>
        array_get_dec
        have e4 : callF (Gam G ds fuel (k + 2)) 4 (fCons (fVar 7) fNil) = evE G (Gam G ds fuel (k + 2)) (.call 4 (.cons (.var 7) .nil)) := rfl
        rw [e4, rows]
        array_get_dec
        rw [allPy4]
        array_get_dec
        cases hf : (factsB a && (factsB b && (factsB c && factsB d))) with
        | false =>
          array_get_dec
          simp only [deedB, h1, hf, Bool.and_false, Bool.false_and]
          exact endF_ret hS _ _
        | true =>
          have hf' := hf
          simp only [Bool.and_eq_true] at hf'
          obtain ⟨fa, fb, fc, fd⟩ := hf'
          array_get_dec
          have lb := strT_wt b
          have ld := strT_wt d
          rw [some_stand_ hS (strT a) (strT b) a b (.inr (facts_tp fa).1) (.inr (facts_tp fb).1) (by omega)]
          array_get_dec
          cases hm : meet (strT a) (strT b) with
          | true =>
            array_get_dec
            simp only [deedB, h1, hf, hm, Bool.true_or, Bool.not_true, Bool.false_and, Bool.and_false]
            exact endF_ret hS _ _
          | false =>
            array_get_dec
            rw [some_stand_ hS (strT c) (strT d) c d (.inr (facts_tp fc).1) (.inr (facts_tp fd).1) (by omega)]
            array_get_dec
            cases hm2 : meet (strT c) (strT d) with
            | true =>
              array_get_dec
              simp only [deedB, h1, hf, hm, hm2, Bool.or_true, Bool.not_true, Bool.false_and, Bool.and_false]
              exact endF_ret hS _ _
            | false =>
              array_get_dec
              rw [is_number_ hS d6]
              array_get_dec
              simp only [deedB, h1, hf, hm, hm2, Bool.and_true, Bool.true_and, Bool.or_false, Bool.not_false]
              exact endF_ret hS _ _
  · have e : (!decide (((l.length : Nat) : Int) = 6)) = true := by
      rw [Bool.not_eq_true', decide_eq_false_iff_not]
      omega
    rw [e, no6 l rfl h6]
    array_get_dec
    exact endF_ret hS _ _
theorem wrong_word_ (hS : Sl S) {v : P} (hv : dm v = true) (hw : wt v ≤ 4000) : cl fuel (k + 4) 9 [.p v] S = some (.ok (optP (wrong v)), S) := by
  rw [cl_def d_wrong_word rfl]
  simp only [d_wrong_word, N_wrong_word, s_wrong_word]
  array_get_dec
  simp only [isi_tup hv]
  array_get_dec
  cases v <;> first | (exfalso; simp [dm] at hv; done) | (simp only [isTup]; array_get_dec; first | exact endF_ret hS _ _ | skip)
  rename_i l
  simp only [lenP]
  array_get_dec
  rw [neF_int]
  array_get_dec
  by_cases h3 : l.length = 3
  · match l, h3 with
    | [d, b, w], _ =>
      have hd := dm_of hv
      simp only [List.mem_cons, List.not_mem_nil, or_false, forall_eq_or_imp, forall_eq] at hd
      obtain ⟨d1, d2, d3⟩ := hd
      simp only [wt, wtL] at hw
      have e : (!decide (((([d, b, w] : List P).length : Nat) : Int) = 3)) = false := rfl
      rw [e]
      array_get_dec
      simp only [isi_tup d1]
      array_get_dec
      cases d <;> first | (exfalso; simp [dm] at d1; done) | (simp only [isTup]; array_get_dec; first | exact endF_ret hS _ _ | skip)
      rename_i l _
      simp only [wt] at hw
      simp only [lenP, cmpI]
      array_get_dec
      have e2 : decide ((14 : Int) < ((l.length : Nat) : Int)) = decide (14 < l.length) := by
        apply decide_eq_decide.mpr; omega
      rw [e2]
      by_cases h14 : 14 < l.length
      · rw [decide_eq_true h14]
        array_get_dec
        simp only [wrong, h14, if_true]
        exact endF_ret hS _ _
      · rw [decide_eq_false h14]
        array_get_dec
        have hdl := dm_of d1
        have e4 : callF (Gam G ds fuel (k + 3)) 5 (fCons (fVar 4) fNil) = evE G (Gam G ds fuel (k + 3)) (.call 5 (.cons (.var 4) .nil)) := rfl
        rw [e4, compP_all' (e := fun x => .bl (deedB x)) l (fun x hx => ⟨_, rfl, by
          have := wtL_mem hx
          array_get_dec
          rw [is_deed_ hS (hdl x hx) (by omega)]
          array_get_dec⟩)]
        array_get_dec
        rw [allPy_all]
        array_get_dec
        cases ha : l.all deedB with
        | false =>
          array_get_dec
          simp only [wrong, h14, if_false, ha, if_true]
          exact endF_ret hS _ _
        | true =>
          array_get_dec
          rw [compP_all' (e := fun x => .str (nameP x)) l (fun x hx => ⟨_, rfl, by
            obtain ⟨n, a, b, c, d, q, D⟩ := deed_tp (List.all_eq_true.mp ha x hx)
            rw [D.name, D.eq]
            array_get_dec
            simp only [ixP]
            array_get_dec
            rfl⟩)]
          array_get_dec
          rw [is_ascending_ hS (l.map nameP) _ (.inl (by rw [List.map_map]; rfl))]
          array_get_dec
          cases hn : ascB (l.map nameP) with
          | false =>
            array_get_dec
            simp only [wrong, h14, if_false, ha, hn, Bool.true_eq_false, if_true]
            exact endF_ret hS _ _
          | true =>
            array_get_dec
            rw [is_facts_ hS d2]
            array_get_dec
            cases hb : factsB b with
            | false =>
              array_get_dec
              simp only [wrong, h14, if_false, ha, hn, hb, Bool.true_eq_false, if_true]
              exact endF_ret hS _ _
            | true =>
              array_get_dec
              rw [is_facts_ hS d3]
              array_get_dec
              cases hc : factsB w with
              | false =>
                array_get_dec
                simp only [wrong, h14, if_false, ha, hn, hb, hc, Bool.true_eq_false, if_true]
                exact endF_ret hS _ _
              | true =>
                array_get_dec
                rw [told_facts_ hS ha hb hc (by omega)]
                array_get_dec
                simp only [lenP, cmpI]
                array_get_dec
                have e3 : decide ((10 : Int) < (((factsP l b w).map P.str).length : Nat)) = decide (10 < (factsP l b w).length) := by
                  rw [List.length_map]
                  apply decide_eq_decide.mpr; omega
                rw [e3]
                by_cases h10 : 10 < (factsP l b w).length
                · rw [decide_eq_true h10]
                  array_get_dec
                  simp only [wrong, h14, if_false, ha, hn, hb, hc, Bool.true_eq_false, h10, if_true]
                  exact endF_ret hS _ _
                · rw [decide_eq_false h10]
                  array_get_dec
                  simp only [wrong, h14, if_false, ha, hn, hb, hc, Bool.true_eq_false, h10, if_false]
                  exact endF_ret hS _ _
  · have e : (!decide (((l.length : Nat) : Int) = 3)) = true := by
      rw [Bool.not_eq_true', decide_eq_false_iff_not]
      omega
    have e2 : wrong (.tup l) = some "form" := by
      unfold wrong
      split
      · rename_i e
        cases e
        exact absurd rfl h3
      · rename_i e
        cases e
        exact absurd rfl h3
      · rfl
    rw [e, e2]
    array_get_dec
    exact endF_ret hS _ _
end
end Wr.K00

set_option maxHeartbeats 4000000
namespace Wr
open PySem PySem.Spec PyProof.Rows L2
section
variable (a b c d e f : P)
theorem ix60 : ixP (.tup [a, b, c, d, e, f]) (.int 0) = some a := rfl
theorem ix61 : ixP (.tup [a, b, c, d, e, f]) (.int 1) = some b := rfl
theorem ix62 : ixP (.tup [a, b, c, d, e, f]) (.int 2) = some c := rfl
theorem ix63 : ixP (.tup [a, b, c, d, e, f]) (.int 3) = some d := rfl
theorem ix64 : ixP (.tup [a, b, c, d, e, f]) (.int 4) = some e := rfl
theorem ix65 : ixP (.tup [a, b, c, d, e, f]) (.int 5) = some f := rfl
theorem ix30 : ixP (.tup [a, b, c]) (.int 0) = some a := rfl
theorem ix31 : ixP (.tup [a, b, c]) (.int 1) = some b := rfl
theorem ix32 : ixP (.tup [a, b, c]) (.int 2) = some c := rfl
end
def fld (i : Nat) : P → List Str
  | .tup l => match l[i]? with
    | some p => strT p
    | none => []
  | _ => []
theorem DeedS.f1 {x : P} {n : Str} {a b c d : List Str} {q : Int} (D : DeedS x n a b c d q) : fld 1 x = a := by rw [D.eq]; exact strL_map' a
theorem DeedS.f2 {x : P} {n : Str} {a b c d : List Str} {q : Int} (D : DeedS x n a b c d q) : fld 2 x = b := by rw [D.eq]; exact strL_map' b
theorem DeedS.f3 {x : P} {n : Str} {a b c d : List Str} {q : Int} (D : DeedS x n a b c d q) : fld 3 x = c := by rw [D.eq]; exact strL_map' c
theorem DeedS.f4 {x : P} {n : Str} {a b c d : List Str} {q : Int} (D : DeedS x n a b c d q) : fld 4 x = d := by rw [D.eq]; exact strL_map' d
/-- can the deed be done, what stands behind it -/
def canB (x : P) (s : List Str) : Bool := (fld 1 x).all (fun z => decide (z ∈ s)) && !meet (fld 2 x) s
def behind (x : P) (s : List Str) : List Str := srt (s.filter (fun z => !decide (z ∈ fld 4 x)) ++ fld 3 x)
def isName (x v : P) : Bool := match v with
  | .str n => nameP x == n
  | _ => false
/-- the deed of that name that can be done -/
def toDo (l : List P) (s : List Str) (v : P) : Option P := l.find? fun x => isName x v && canB x s
def stateB (l : List P) (b w v : P) : Bool := factsB v && (strT v).all fun z => decide (z ∈ factsP l b w)
def optD : Option P → P
  | none => .non
  | some x => x
/-- a task, and nothing wrong with it -/
structure Tsk (l : List P) (be wi : List Str) : Prop where
  ok : wrong (.tup [.tup l, Tp be, Tp wi]) = none
  dm : dm (.tup [.tup l, Tp be, Tp wi]) = true
  wt : wt (.tup [.tup l, Tp be, Tp wi]) ≤ 2000
structure TskF (l : List P) (be wi : List Str) : Prop where
  len : l.length ≤ 14
  deeds : l.all deedB = true
  names : ascB (l.map nameP) = true
  fb : factsB (Tp be) = true
  fw : factsB (Tp wi) = true
  few : (factsP l (Tp be) (Tp wi)).length ≤ 10
theorem Tsk.f {l : List P} {be wi : List Str} (t : Tsk l be wi) : TskF l be wi := by
  have h := t.ok
  simp only [wrong] at h
  split at h
  · cases h
  · split at h
    · cases h
    · split at h
      · cases h
      · split at h
        · cases h
        · split at h
          · cases h
          · split at h
            · cases h
            · rename_i h1 h2 h3 h4 h5 h6
              exact ⟨by omega, by simpa using h2, by simpa using h3, by simpa using h4, by simpa using h5, by omega⟩
theorem isF_none (v : P) : isF false v .non = some (.bl (isN v)) := rfl
theorem isF_not (v : P) : isF true v .non = some (.bl (!isN v)) := rfl
theorem isN_opt (o : Option Str) : isN (optP o) = o.isNone := by cases o <;> rfl
theorem deed_isN {x : P} (h : deedB x = true) : isN x = false := by
  obtain ⟨n, a, b, c, d, q, D⟩ := deed_tp h
  rw [D.eq]
  rfl
end Wr
namespace Wr.K00
open PySem PySem.Spec PyProof.Rows L2 Wr
local macro_rules
  | `(tactic| array_get_dec) => `(tactic| simp (config := { failIfUnchanged := false }) only [evSs, evS, evE, evEs, evAnd, evOr, evT, evAndT, evOrT, evI, evO, evTg, evBF, evBN, evBO, evCO, evCs, q_seqS, q_skip, q_fRet, q_fRetN, q_fIfS, q_bindS, q_bindF, q_ret, q_fVar, q_fC, q_fOne, q_fNot, q_fAnd, q_fOr, q_fIf, q_fTru, q_asB, q_fAndT, q_fOrT, q_fNotT, q_f2, q_fChain, q_fB, q_fBn, q_fCons, q_fNil, q_fTup, q_fLst, q_fSl, q_fRev, q_fPart, q_fLc, q_fLcN, q_fItems, q_fZip, q_fRng1, q_fEnum, q_fFor, q_fAsg, q_fPar, q_fRaise0, q_fRaise1, q_fSetI, q_dropS, q_fStar, q_glb, q_call,
  kB_ok, kB_exc, kB_ite, kA_bl, kO_bl, m_and, m_or, kN_bl, kO1_some, kV_p, kT_bl, m_andT, m_orT, kC2_bl, kL_p1, kNw_f, kNw_t, kSl_tup, kSl_lst, kC_f, kC_t, kS_ok, kS_exc, kS_ite, kQ_nx, kQ_ret, kQ_exc, kQ_ite, endF_ite, kR_ok, kR_exc, kR_ite, kP, allP, newL, gNm, gTupN, gNms, view_p, itemsOf_lst, itemsOf_tup, itemsOf_lsf, asL_lst, asL_lsf, asL_tup, asT_lst, asT_tup, truP_bl, vals,
  List.getElem?_cons_zero, List.getElem?_cons_succ, List.map_cons, List.map_nil, List.cons_append, List.nil_append, List.length_cons, List.length_nil, List.set_cons_zero, List.set_cons_succ, List.replicate_succ, List.replicate_zero, wipeV, Option.map_some, Option.map_none, if_true, if_false, Bool.false_eq_true, reduceCtorEq, Nat.reduceAdd, Nat.reduceSub, Nat.reduceLT, Nat.reduceLeDiff, Bool.not_true, Bool.not_false, Bool.and_true, Bool.true_and, Bool.and_false, Bool.false_and, Bool.or_true, Bool.true_or, Bool.or_false, Bool.false_or])
section
variable {fuel k : Nat} {S : List Ob}
theorem is_task_ (hS : Sl S) {v : P} (hv : dm v = true) (hw : wt v ≤ 4000) : cl fuel (k + 5) 10 [.p v] S = some (.ok (.bl (wrong v).isNone), S) := by
  rw [cl_def d_is_task rfl]
  simp only [d_is_task, N_is_task, s_is_task]
  array_get_dec
  rw [wrong_word_ hS hv hw]
  array_get_dec
  rw [isF_none, isN_opt]
  array_get_dec
  exact endF_ret hS _ _
theorem check_task_ (hS : Sl S) {v : P} (hv : dm v = true) (hw : wt v ≤ 4000) : cl fuel (k + 5) 11 [.p v] S = match wrong v with
    | none => some (.ok .non, S)
    | some w => some (.exc "BadTask" [("word", .str w)], S) := by
  rw [cl_def d_check_task rfl]
  simp only [d_check_task, N_check_task, s_check_task]
  array_get_dec
  rw [wrong_word_ hS hv hw]
  array_get_dec
  rw [isF_not, isN_opt]
  cases hq : wrong v with
  | none =>
    simp only [Option.isNone_none]
    array_get_dec
    exact endF_nx hS _
  | some w =>
    simp only [Option.isNone_some, G, excs, optP]
    array_get_dec
    exact endF_exc hS _ _ _
theorem check_ok (hS : Sl S) {l : List P} {be wi : List Str} (t : Tsk l be wi) : cl fuel (k + 5) 11 [.p (.tup [.tup l, Tp be, Tp wi])] S = some (.ok .non, S) := by
  rw [check_task_ hS t.dm (Nat.le_trans t.wt (by decide)), t.ok]
theorem facts_ (hS : Sl S) {l : List P} {be wi : List Str} (t : Tsk l be wi) : cl fuel (k + 6) 12 [.p (.tup [.tup l, Tp be, Tp wi])] S = some (.ok (Tp (factsP l (Tp be) (Tp wi))), S) := by
  rw [cl_def d_facts rfl]
  simp only [d_facts, N_facts, s_facts]
  array_get_dec
  rw [check_ok hS t]
  array_get_dec
  have f := t.f
  have hw := t.wt
  simp only [wt, wtL] at hw
  rw [told_facts_ hS f.deeds f.fb f.fw (by simp only [wt]; omega)]
  array_get_dec
  exact endF_ret hS _ _
theorem facts_bad (hS : Sl S) {v : P} (hv : dm v = true) (hw : wt v ≤ 4000) {w : Str} (h : wrong v = some w) : cl fuel (k + 6) 12 [.p v] S = some (.exc "BadTask" [("word", .str w)], S) := by
  rw [cl_def d_facts rfl]
  simp only [d_facts, N_facts, s_facts]
  array_get_dec
  rw [check_task_ hS hv hw, h]
  array_get_dec
  exact endF_exc hS _ _ _
theorem is_facts_among_ (hS : Sl S) {v : P} (hv : dm v = true) (sg : List Str) : cl fuel (k + 3) 13 [.p v, .p (Tp sg)] S = some (.ok (.bl (factsB v && (strT v).all fun z => decide (z ∈ sg))), S) := by
  rw [cl_def d_is_facts_among rfl]
  simp only [d_is_facts_among, N_is_facts_among, s_is_facts_among]
  array_get_dec
  rw [is_facts_ hS hv]
  array_get_dec
  cases h : factsB v with
  | false =>
    array_get_dec
    exact endF_ret hS _ _
  | true =>
    array_get_dec
    rw [all_stand_ hS (strT v) sg v (Tp sg) (.inr (facts_tp h).1) (.inr rfl)]
    array_get_dec
    exact endF_ret hS _ _
theorem check_state_ (hS : Sl S) {l : List P} {be wi : List Str} (t : Tsk l be wi) {v : P} (hv : dm v = true) : cl fuel (k + 5) 14 [.p (.tup [.tup l, Tp be, Tp wi]), .p v] S = if stateB l (Tp be) (Tp wi) v = true then some (.ok .non, S) else some (.exc "BadState" [], S) := by
  rw [cl_def d_check_state rfl]
  simp only [d_check_state, N_check_state, s_check_state]
  have f := t.f
  have hw := t.wt
  simp only [wt, wtL] at hw
  array_get_dec
  rw [told_facts_ hS f.deeds f.fb f.fw (by simp only [wt]; omega)]
  array_get_dec
  rw [is_facts_among_ hS hv]
  array_get_dec
  have e : (factsB v && (strT v).all fun z => decide (z ∈ factsP l (Tp be) (Tp wi))) = stateB l (Tp be) (Tp wi) v := rfl
  rw [e]
  cases stateB l (Tp be) (Tp wi) v with
  | true =>
    array_get_dec
    exact endF_nx hS _
  | false =>
    simp only [G, excs]
    array_get_dec
    exact endF_exc hS _ _ _
theorem can_be_done_ (hS : Sl S) {x : P} (hx : deedB x = true) (s : List Str) (hs : s.length + 1 < 4096) : cl fuel (k + 2) 15 [.p x, .p (Tp s)] S = some (.ok (.bl (canB x s)), S) := by
  obtain ⟨n, a, b, c, d, q, D⟩ := deed_tp hx
  unfold canB
  rw [D.f1, D.f2, D.eq]
  rw [cl_def d_can_be_done rfl]
  simp only [d_can_be_done, N_can_be_done, s_can_be_done]
  array_get_dec
  rw [ix61]
  array_get_dec
  rw [all_stand_ hS a s (Tp a) (Tp s) (.inr rfl) (.inr rfl)]
  array_get_dec
  rw [ix62]
  array_get_dec
  rw [some_stand_ hS b s (Tp b) (Tp s) (.inr rfl) (.inr rfl) hs]
  array_get_dec
  cases (a.all fun z => decide (z ∈ s)) with
  | true => array_get_dec; exact endF_ret hS _ _
  | false => array_get_dec; exact endF_ret hS _ _
theorem state_behind_ (hS : Sl S) {x : P} (hx : deedB x = true) (s : List Str) (hs : s.length + wt x ≤ 4000) : cl fuel (k + 1) 16 [.p x, .p (Tp s)] S = some (.ok (Tp (behind x s)), S) := by
  obtain ⟨n, a, b, c, d, q, D⟩ := deed_tp hx
  have hc : c.length ≤ wt x := by
    rw [D.eq]
    have := strT_wt (Tp c)
    rw [strL_map'] at this
    simp only [wt, wtL] at this ⊢
    omega
  unfold behind
  rw [D.f3, D.f4, D.eq]
  rw [cl_def d_state_behind rfl]
  simp only [d_state_behind, N_state_behind, s_state_behind]
  array_get_dec
  rw [compP_map (i := P.str) (t := fun z => !decide (z ∈ d)) (e := P.str) s [] (fun z hz => ⟨_, rfl, by
    array_get_dec
    rw [ix64]
    array_get_dec
    rw [inF_strs true z d (Tp d) (.inr rfl)]
    simp only [Option.some_or, if_true]
    array_get_dec, fun _ => rfl⟩)]
  array_get_dec
  rw [ix63]
  array_get_dec
  simp only [allP_app, allP_map, allP, List.append_nil, Option.map_some, ← List.map_append]
  have e3 : (s.filter (fun z => !decide (z ∈ d)) ++ c).length ≤ 4000 := by
    rw [List.length_append]
    have := List.length_filter_le (fun z => !decide (z ∈ d)) s
    omega
  rw [if_pos (by rw [List.length_map]; omega)]
  array_get_dec
  rw [setPy_strs _ _ (.inl rfl) (by omega)]
  array_get_dec
  rw [sortedPy_set _ (by omega)]
  array_get_dec
  simp only [tupPy]
  array_get_dec
  exact endF_ret hS _ _
theorem eqF_str (a b : Str) : eqF (.str a) (.str b) = some (.bl (a == b)) := by
  simp only [eqF, dat, dep, eqP]
  rfl
abbrev bFind : Ss := (.cons (.ifs (.and (.cons (.cmp .eq (.ix (.var 3) (.int 0)) (.var 2)) (.cons (.tru (.call 15 (.cons (.var 3) (.cons (.var 1) .nil)))) .nil))) (.cons (.ret (.var 3)) .nil) .nil) .nil)
theorem find_for {s : List Str} (hS : Sl S) (hs : s.length + 1 < 4096) (tk : P) (n : Str) : ∀ (l : List P), l.all deedB = true → ∀ o, ∃ o', forS (gNm 3) (evSs G (Gam G ds fuel (k + 2)) fuel bFind) l [some (.p tk), some (.p (Tp s)), some (.p (.str n)), o] S =
    (match toDo l s (.str n) with
    | some x => some (.go (.ret (.p x)) [some (.p tk), some (.p (Tp s)), some (.p (.str n)), o'], S)
    | none => some (.go .nx [some (.p tk), some (.p (Tp s)), some (.p (.str n)), o'], S))
  | [], _, o => ⟨o, rfl⟩
  | x :: r, h, o => by
    simp only [List.all_cons, Bool.and_eq_true] at h
    obtain ⟨m, a, b, c, d, q, D⟩ := deed_tp h.1
    obtain ⟨o', ih⟩ := find_for hS hs tk n r h.2 (some (.p x))
    have hcb := can_be_done_ (fuel := fuel) (k := k) hS h.1 s hs
    have hnm : isName x (.str n) = (m == n) := by simp only [isName, D.name]
    simp only [forS]
    array_get_dec
    have hix : ixP x (.int 0) = some (.str m) := by rw [D.eq]; rfl
    rw [hix]
    array_get_dec
    rw [eqF_str]
    array_get_dec
    cases hq : (m == n) with
    | false =>
      array_get_dec
      refine ⟨o', ?_⟩
      unfold toDo at ih ⊢
      rw [List.find?_cons, hnm, hq, Bool.false_and]
      exact ih
    | true =>
      array_get_dec
      rw [hcb]
      array_get_dec
      cases hc : canB x s with
      | false =>
        array_get_dec
        refine ⟨o', ?_⟩
        unfold toDo at ih ⊢
        rw [List.find?_cons, hnm, hq, hc, Bool.and_false]
        exact ih
      | true =>
        array_get_dec
        refine ⟨some (.p x), ?_⟩
        unfold toDo
        rw [List.find?_cons, hnm, hq, hc, Bool.and_true]
end
end Wr.K00

set_option maxHeartbeats 4000000
namespace Wr
open PySem PySem.Spec PyProof.Rows L2 PySem.Froz
theorem str_ext {a b : Str} (h : a.cps.toList = b.cps.toList) : a = b := by
  cases a; cases b
  simp only at h
  congr
  exact Array.toList_inj.mp h
theorem ltS_cps (a b : Str) : ltS a b = ltCps a.cps.toList b.cps.toList := (ltCps_eq _ _).symm
theorem lt_of_le_ne {a b : Str} (h : leS a b = true) (n : a ≠ b) : ltS a b = true := by
  rw [ltS_cps]
  cases q : ltCps a.cps.toList b.cps.toList with
  | true => rfl
  | false =>
    exfalso
    unfold leS at h
    simp only [Bool.not_eq_true'] at h
    exact n (str_ext (lt_tri _ _ (by simp [q]) (by simp [h])))
theorem le_of_lt {a b : Str} (h : ltS a b = true) : leS a b = true := by
  rw [ltS_cps] at h
  unfold leS
  cases q : ltCps b.cps.toList a.cps.toList with
  | false => rfl
  | true => exact absurd q (lt_asym _ _ h)
theorem lt_ne {a b : Str} (h : ltS a b = true) : a ≠ b := by
  rintro rfl
  rw [ltS_cps] at h
  exact lt_asym _ _ h h
theorem asc_rise : ∀ {l : List Str} {x : Str}, ascB (x :: l) = true → risingS x l = true
  | [], _, _ => rfl
  | y :: r, x, h => by
    simp only [ascB, Bool.and_eq_true] at h
    have := asc_rise h.2
    simp only [risingS, Bool.and_eq_true]
    exact ⟨le_of_lt h.1, this⟩
theorem asc_sorted : ∀ {l : List Str}, ascB l = true → sortedS l = true
  | [], _ => rfl
  | x :: r, h => asc_rise h
theorem lt_trS {a b c : Str} (h : ltS a b = true) (h' : ltS b c = true) : ltS a c = true := by
  rw [ltS_cps] at *
  exact lt_tr _ _ _ h h'
theorem asc_all : ∀ {l : List Str} {x : Str}, ascB (x :: l) = true → ∀ y ∈ l, ltS x y = true
  | [], _, _, y, hy => by cases hy
  | z :: r, x, h, y, hy => by
    simp only [ascB, Bool.and_eq_true] at h
    rcases List.mem_cons.mp hy with e | e
    · rw [e]; exact h.1
    · exact lt_trS h.1 (asc_all h.2 y e)
theorem asc_tail {l : List Str} {x : Str} (h : ascB (x :: l) = true) : ascB l = true := by
  cases l with
  | nil => rfl
  | cons y r =>
    simp only [ascB, Bool.and_eq_true] at h
    exact h.2
theorem asc_nodup : ∀ {l : List Str}, ascB l = true → l.Nodup
  | [], _ => List.nodup_nil
  | x :: r, h => List.nodup_cons.mpr ⟨fun hx => lt_ne (asc_all h x hx) rfl, asc_nodup (asc_tail h)⟩
theorem asc_of : ∀ {l : List Str}, sortedS l = true → l.Nodup → ascB l = true
  | [], _, _ => rfl
  | [_], _, _ => rfl
  | x :: y :: r, h, n => by
    have h' : risingS x (y :: r) = true := h
    simp only [risingS, Bool.and_eq_true] at h'
    obtain ⟨n1, n2⟩ := List.nodup_cons.mp n
    simp only [ascB, Bool.and_eq_true]
    exact ⟨lt_of_le_ne h'.1 (fun e => n1 (e ▸ List.mem_cons_self)), asc_of (l := y :: r) h'.2 n2⟩
theorem putT_nodup {k : Str} {l : List Str} (h : l.Nodup) : (putT k l).Nodup := by
  unfold putT
  split
  · exact h
  · rename_i q
    exact List.nodup_cons.mpr ⟨q, h⟩
theorem putTs_nodup : ∀ {ks l : List Str}, l.Nodup → (putTs l ks).Nodup
  | [], _, h => h
  | k :: r, l, h => putTs_nodup (ks := r) (putT_nodup h)
theorem srt_nodup (l : List Str) : (srt l).Nodup := (sortT_perm _).nodup_iff.mpr (putTs_nodup List.nodup_nil)
theorem srt_asc (l : List Str) : ascB (srt l) = true := asc_of (sortT_sorted _) (srt_nodup l)
theorem mem_srt {z : Str} {l : List Str} : z ∈ srt l ↔ z ∈ l := by
  unfold srt
  rw [(sortT_perm _).mem_iff, mem_putTs]
  simp
theorem asc_eq {a b : List Str} (ha : ascB a = true) (hb : ascB b = true) (h : ∀ z, z ∈ a ↔ z ∈ b) : a = b := by
  refine sorted_uniq ?_ (asc_sorted ha) (asc_sorted hb)
  exact (List.perm_ext_iff_of_nodup (asc_nodup ha) (asc_nodup hb)).mpr h
theorem srt_self {a : List Str} (ha : ascB a = true) : srt a = a := asc_eq (srt_asc a) ha fun z => mem_srt
theorem srt_congr {a b : List Str} (h : ∀ z, z ∈ a ↔ z ∈ b) : srt a = srt b := asc_eq (srt_asc a) (srt_asc b) fun z => by rw [mem_srt, mem_srt, h]
theorem asc_len : ∀ {a b : List Str}, a.Nodup → (∀ z ∈ a, z ∈ b) → a.length ≤ b.length
  | [], _, _, _ => Nat.zero_le _
  | x :: r, b, n, h => by
    obtain ⟨n1, n2⟩ := List.nodup_cons.mp n
    have hx : x ∈ b := h x List.mem_cons_self
    have ih := asc_len (a := r) (b := b.erase x) n2 fun z hz => (List.mem_erase_of_ne (fun e : z = x => n1 (e ▸ hz))).mpr (h z (List.mem_cons_of_mem _ hz))
    rw [List.length_erase_of_mem hx] at ih
    have := List.length_pos_of_mem hx
    simp only [List.length_cons]
    omega
end Wr

set_option maxHeartbeats 4000000
namespace Wr
open PySem PySem.Spec PyProof.Rows L2
theorem find_mem {α : Type} {p : α → Bool} : ∀ {l : List α} {x : α}, l.find? p = some x → x ∈ l ∧ p x = true := fun h => ⟨List.mem_of_find?_eq_some h, List.find?_some h⟩
/-- a state of the task -/
structure Ste (l : List P) (be wi s : List Str) : Prop where
  fa : factsB (Tp s) = true
  sub : ∀ z ∈ s, z ∈ factsP l (Tp be) (Tp wi)
theorem Ste.asc {l : List P} {be wi s : List Str} (h : Ste l be wi s) : ascB s = true := by
  have := (facts_tp h.fa).2
  rwa [strL_map'] at this
theorem Ste.len {l : List P} {be wi s : List Str} (h : Ste l be wi s) (t : Tsk l be wi) : s.length ≤ 10 := Nat.le_trans (asc_len (asc_nodup h.asc) h.sub) t.f.few
theorem dm_facts {s : List Str} (h : factsB (Tp s) = true) : Wr.dm (Tp s) = true := by
  simp only [factsB, Bool.and_eq_true, List.all_map, List.all_eq_true] at h
  show dmL (s.map P.str) = true
  rw [dmL_all]
  intro x hx
  obtain ⟨z, hz, rfl⟩ := List.mem_map.mp hx
  have := h.1 z hz
  simp only [Function.comp, signB, Bool.and_eq_true, decide_eq_true_eq] at this
  show decide (z.length ≤ 16777216) = true
  exact decide_eq_true (by omega)
theorem Ste.dm {l : List P} {be wi s : List Str} (h : Ste l be wi s) (t : Tsk l be wi) : Wr.dm (Tp s) = true := dm_facts h.fa
theorem Ste.ok {l : List P} {be wi s : List Str} (h : Ste l be wi s) : stateB l (Tp be) (Tp wi) (Tp s) = true := by
  unfold stateB
  rw [h.fa, strL_map', Bool.true_and, List.all_eq_true]
  exact fun z hz => decide_eq_true (h.sub z hz)
theorem ste_of {l : List P} {be wi : List Str} {v : P} (h : stateB l (Tp be) (Tp wi) v = true) : ∃ s, v = Tp s ∧ Ste l be wi s := by
  unfold stateB at h
  simp only [Bool.and_eq_true, List.all_eq_true, decide_eq_true_eq] at h
  have e := (facts_tp h.1).1
  exact ⟨strT v, e, by rw [← e]; exact h.1, h.2⟩
theorem Tsk.deed {l : List P} {be wi : List Str} (t : Tsk l be wi) {x : P} (hx : x ∈ l) : deedB x = true ∧ Wr.wt x ≤ 2000 := by
  refine ⟨List.all_eq_true.mp t.f.deeds x hx, ?_⟩
  have := wtL_mem hx
  have := t.wt
  simp only [Wr.wt, Wr.wtL] at this
  omega
theorem mem_fact {l : List P} {be wi : List Str} {x : P} (hx : x ∈ l) {z : Str} (h : z ∈ toldD x) : z ∈ factsP l (Tp be) (Tp wi) := by
  unfold factsP toldP
  rw [mem_srt]
  exact List.mem_append_left _ (List.mem_flatMap.mpr ⟨x, hx, h⟩)
theorem signs_all {s : List Str} (h : ascB s = true) (h2 : ∀ z ∈ s, signB (.str z) = true) : factsB (Tp s) = true := by
  simp only [factsB, strL_map, h, Bool.and_true, List.all_map]
  rw [List.all_eq_true]
  exact fun z hz => h2 z hz
theorem facts_sign {s : List Str} (h : factsB (Tp s) = true) : ∀ z ∈ s, signB (.str z) = true := by
  simp only [factsB, Bool.and_eq_true, List.all_map] at h
  exact fun z hz => (List.all_eq_true.mp h.1) z hz
theorem ste_behind {l : List P} {be wi s : List Str} (t : Tsk l be wi) (h : Ste l be wi s) {x : P} (hx : x ∈ l) : Ste l be wi (behind x s) := by
  obtain ⟨n, a, b, c, d, q, D⟩ := deed_tp (t.deed hx).1
  have mem : ∀ z ∈ behind x s, z ∈ s ∨ z ∈ c := fun z hz => by
    unfold behind at hz
    rw [mem_srt, D.f3] at hz
    rcases List.mem_append.mp hz with q | q
    · exact .inl (List.mem_filter.mp q).1
    · exact .inr q
  refine ⟨signs_all (srt_asc _) fun z hz => ?_, fun z hz => ?_⟩
  · rcases mem z hz with q | q
    · exact facts_sign h.fa z q
    · exact facts_sign D.fc z q
  · rcases mem z hz with q | q
    · exact h.sub z q
    · refine mem_fact hx ?_
      rw [D.told]
      simp [q]
theorem ste_begin {l : List P} {be wi : List Str} (t : Tsk l be wi) : Ste l be wi be := ⟨t.f.fb, fun z hz => by
  unfold factsP
  rw [mem_srt, strL_map']
  exact List.mem_append_right _ (List.mem_append_left _ hz)⟩
/-- the state behind a deed's name -/
def stepP (l : List P) (s : List Str) (v : P) : Option (List Str) := (toDo l s v).map fun x => behind x s
def runP (l : List P) : List Str → List P → Nat → Except Nat (List (List Str))
  | _, [], _ => .ok []
  | s, v :: r, i => match stepP l s v with
    | none => .error i
    | some s' => match runP l s' r (i + 1) with
      | .error j => .error j
      | .ok ss => .ok (s' :: ss)
end Wr
namespace Wr.K00
open PySem PySem.Spec PyProof.Rows L2 Wr
local macro_rules
  | `(tactic| array_get_dec) => `(tactic| simp (config := { failIfUnchanged := false }) only [evSs, evS, evE, evEs, evAnd, evOr, evT, evAndT, evOrT, evI, evO, evTg, evBF, evBN, evBO, evCO, evCs, q_seqS, q_skip, q_fRet, q_fRetN, q_fIfS, q_bindS, q_bindF, q_ret, q_fVar, q_fC, q_fOne, q_fNot, q_fAnd, q_fOr, q_fIf, q_fTru, q_asB, q_fAndT, q_fOrT, q_fNotT, q_f2, q_fChain, q_fB, q_fBn, q_fCons, q_fNil, q_fTup, q_fLst, q_fSl, q_fRev, q_fPart, q_fLc, q_fLcN, q_fItems, q_fZip, q_fRng1, q_fEnum, q_fFor, q_fAsg, q_fPar, q_fRaise0, q_fRaise1, q_fSetI, q_dropS, q_fStar, q_glb, q_call,
  kB_ok, kB_exc, kB_ite, kA_bl, kO_bl, m_and, m_or, kN_bl, kO1_some, kV_p, kT_bl, m_andT, m_orT, kC2_bl, kL_p1, kNw_f, kNw_t, kSl_tup, kSl_lst, kC_f, kC_t, kS_ok, kS_exc, kS_ite, kQ_nx, kQ_ret, kQ_exc, kQ_ite, endF_ite, kR_ok, kR_exc, kR_ite, kP, allP, newL, gNm, gTupN, gNms, view_p, itemsOf_lst, itemsOf_tup, itemsOf_lsf, asL_lst, asL_lsf, asL_tup, asT_lst, asT_tup, truP_bl, vals,
  List.getElem?_cons_zero, List.getElem?_cons_succ, List.map_cons, List.map_nil, List.cons_append, List.nil_append, List.length_cons, List.length_nil, List.set_cons_zero, List.set_cons_succ, List.replicate_succ, List.replicate_zero, wipeV, Option.map_some, Option.map_none, if_true, if_false, Bool.false_eq_true, reduceCtorEq, Nat.reduceAdd, Nat.reduceSub, Nat.reduceLT, Nat.reduceLeDiff, Bool.not_true, Bool.not_false, Bool.and_true, Bool.true_and, Bool.and_false, Bool.false_and, Bool.or_true, Bool.true_or, Bool.or_false, Bool.false_or])
section
variable {fuel k : Nat} {S : List Ob}
theorem deed_to_do_ (hS : Sl S) {l : List P} {be wi s : List Str} (hl : l.all deedB = true) (hs : s.length + 1 < 4096) {v : P} (hv : dm v = true) : cl fuel (k + 3) 17 [.p (.tup [.tup l, Tp be, Tp wi]), .p (Tp s), .p v] S = some (.ok (optD (toDo l s v)), S) := by
  rw [cl_def d_deed_to_do rfl]
  simp only [d_deed_to_do, N_deed_to_do, s_deed_to_do]
  array_get_dec
  simp only [isi_str hv]
  array_get_dec
  have no : (∀ n, v ≠ .str n) → toDo l s v = none := fun h => by
    unfold toDo
    rw [List.find?_eq_none]
    intro x _
    unfold isName
    split
    · rename_i n
      exact absurd rfl (h n)
    · simp
  cases v <;> first | (exfalso; simp [dm] at hv; done) | (simp only [isStr]; array_get_dec; first | (rw [no (by intro n; simp)]; exact endF_ret hS _ _) | skip)
  rename_i n
  rw [ix30]
  array_get_dec
  obtain ⟨o', h⟩ := find_for (fuel := fuel) (k := k) hS hs (.tup [.tup l, Tp be, Tp wi]) n l hl none
  show endF S.length (kQ (kQ (forS (gNm 3) (evSs G (Gam G ds fuel (k + 2)) fuel bFind) l _ S) skipS) (seqS (fRet (fC P.non)) skipS)) = _
  rw [h]
  cases toDo l s (.str n) with
  | none =>
    array_get_dec
    exact endF_ret hS _ _
  | some x =>
    array_get_dec
    exact endF_ret hS _ _
theorem open_deeds_ (hS : Sl S) {l : List P} {be wi s : List Str} (t : Tsk l be wi) (h : Ste l be wi s) : cl fuel (k + 6) 18 [.p (.tup [.tup l, Tp be, Tp wi]), .p (Tp s)] S = some (.ok (.tup ((l.filter fun x => canB x s).map fun x => .str (nameP x))), S) := by
  rw [cl_def d_open_deeds rfl]
  simp only [d_open_deeds, N_open_deeds, s_open_deeds]
  array_get_dec
  rw [check_ok hS t]
  array_get_dec
  rw [check_state_ hS t (Ste.dm h t), h.ok]
  array_get_dec
  rw [ix30]
  array_get_dec
  have hl := h.len t
  rw [compP_pure (t := fun x => canB x s) (e := fun x => .str (nameP x)) l [] (fun x hx => ⟨_, rfl, by
    array_get_dec
    rw [can_be_done_ hS (t.deed hx).1 s (by omega)]
    array_get_dec, fun _ => by
    obtain ⟨n, a, b, c, d, q, D⟩ := deed_tp (t.deed hx).1
    array_get_dec
    rw [D.name, D.eq, ix60]
    array_get_dec⟩)]
  array_get_dec
  simp only [tupPy]
  array_get_dec
  exact endF_ret hS _ _
theorem open_bad (hS : Sl S) {v : P} (hv : dm v = true) (hw : wt v ≤ 4000) {w : Str} (h : wrong v = some w) (u : Wv) : cl fuel (k + 6) 18 [.p v, u] S = some (.exc "BadTask" [("word", .str w)], S) := by
  rw [cl_def d_open_deeds rfl]
  simp only [d_open_deeds, N_open_deeds, s_open_deeds]
  array_get_dec
  rw [check_task_ hS hv hw, h]
  array_get_dec
  exact endF_exc hS _ _ _
theorem open_badS (hS : Sl S) {l : List P} {be wi : List Str} (t : Tsk l be wi) {v : P} (hv : dm v = true) (h : stateB l (Tp be) (Tp wi) v = false) : cl fuel (k + 6) 18 [.p (.tup [.tup l, Tp be, Tp wi]), .p v] S = some (.exc "BadState" [], S) := by
  rw [cl_def d_open_deeds rfl]
  simp only [d_open_deeds, N_open_deeds, s_open_deeds]
  array_get_dec
  rw [check_ok hS t]
  array_get_dec
  rw [check_state_ hS t hv, h]
  array_get_dec
  exact endF_exc hS _ _ _
theorem done_ (hS : Sl S) {l : List P} {be wi s : List Str} (t : Tsk l be wi) (h : Ste l be wi s) {v : P} (hv : dm v = true) : cl fuel (k + 6) 19 [.p (.tup [.tup l, Tp be, Tp wi]), .p (Tp s), .p v] S = match stepP l s v with
    | some s' => some (.ok (Tp s'), S)
    | none => some (.exc "BadDeed" [("index", .non)], S) := by
  rw [cl_def d_done rfl]
  simp only [d_done, N_done, s_done]
  array_get_dec
  rw [check_ok hS t]
  array_get_dec
  rw [check_state_ hS t (Ste.dm h t), h.ok]
  array_get_dec
  have hl := h.len t
  rw [deed_to_do_ hS t.f.deeds (by omega) hv]
  unfold stepP
  cases hq : toDo l s v with
  | none =>
    array_get_dec
    simp only [optD, isF_none, isN, G, excs]
    array_get_dec
    exact endF_exc hS _ _ _
  | some x =>
    have hx := t.deed (find_mem hq).1
    array_get_dec
    simp only [optD, isF_none, deed_isN hx.1]
    array_get_dec
    rw [state_behind_ hS hx.1 s (by omega)]
    array_get_dec
    exact endF_ret hS _ _
end
end Wr.K00

set_option maxHeartbeats 4000000
namespace Wr
open PySem PySem.Spec PyProof.Rows L2
theorem Sl.snoc {S : List Ob} (h : Sl S) (l : List P) : Sl (S ++ [.lst l]) := fun o ho => by
  rcases List.mem_append.mp ho with q | q
  · exact h o q
  · exact ⟨l, List.mem_singleton.mp q⟩
theorem last_at (S : List Ob) (o : Ob) : (S ++ [o])[S.length]? = some o := by
  rw [List.getElem?_append_right (Nat.le_refl _), Nat.sub_self]
  rfl
theorem view_last (S : List Ob) (L : List P) : view (.loc S.length) (S ++ [.lst L]) = some (.lst L) := by
  unfold view
  simp only [last_at]
theorem kV_last {β : Type} (S : List Ob) (L : List P) (k : P → Option (Rs β × List Ob)) : kV (.loc S.length) (S ++ [.lst L]) k = k (.lst L) := by
  unfold kV
  rw [view_last]
theorem kL_last {β : Type} (S : List Ob) (L : List P) (k : List P → Option (Rs β × List Ob)) : kL [.loc S.length] (S ++ [.lst L]) k = k [.lst L] := by
  unfold kL viewL viewL
  rw [view_last]
theorem lstOf_last (S : List Ob) (L : List P) : lstOf (.loc S.length) (S ++ [.lst L]) = some (S.length, L) := by
  unfold lstOf
  simp only [last_at]
theorem set_last (S : List Ob) (o o' : Ob) : (S ++ [o]).set S.length o' = S ++ [o'] := by
  rw [List.set_append_right _ _ (Nat.le_refl _), Nat.sub_self]
  rfl
theorem atI_last (acc : List P) (x : P) : L2.atI (acc ++ [x]) (-1) = some x := by
  unfold L2.atI L2.ixN
  have h0 : ¬ (0 : Int) ≤ -1 := by decide
  rw [if_neg h0]
  have h1 : -(((acc ++ [x]).length : Nat) : Int) ≤ -1 := by rw [List.length_append, List.length_singleton]; omega
  rw [if_pos h1]
  simp only [Option.bind_some]
  have e : (-1 + (((acc ++ [x]).length : Nat) : Int)).toNat = acc.length := by rw [List.length_append, List.length_singleton]; omega
  rw [e, List.getElem?_append_right (Nat.le_refl _), Nat.sub_self]
  rfl
theorem app_last {fo fe : F Wv} {ρ : Vars} {S : List Ob} {L : List P} {y : P} (ho : fo ρ (S ++ [.lst L]) = some (.ok (.loc S.length), S ++ [.lst L])) (he : fe ρ (S ++ [.lst L]) = some (.ok (.p y), S ++ [.lst L])) (hL : L.length < 16777216) :
    fApp fo fe ρ (S ++ [.lst L]) = some (.ok (.p .non), S ++ [.lst (L ++ [y])]) := by
  unfold fApp
  rw [q_bindF, ho, kB_ok]
  unfold guardL
  simp only [lstOf_last]
  rw [q_bindF, he, kB_ok]
  simp only [lstOf_last]
  rw [if_pos (by rw [sizeLine_eq]; exact hL), set_last]
theorem forS_nx {g : FG} {f : FS} {x : P} {r : List P} {ρ ρ1 ρ2 : Vars} {S S2 : List Ob} (hg : g (.p x) ρ S = some ρ1) (hf : f ρ1 S = some (.go .nx ρ2, S2)) : forS g f (x :: r) ρ S = forS g f r ρ2 S2 := by
  simp only [forS, hg, hf]
theorem forS_ret {g : FG} {f : FS} {x : P} {r : List P} {ρ ρ1 ρ2 : Vars} {S S2 : List Ob} {w : Wv} (hg : g (.p x) ρ S = some ρ1) (hf : f ρ1 S = some (.go (.ret w) ρ2, S2)) : forS g f (x :: r) ρ S = some (.go (.ret w) ρ2, S2) := by
  simp only [forS, hg, hf]
theorem forS_exc {g : FG} {f : FS} {x : P} {r : List P} {ρ ρ1 ρ2 : Vars} {S S2 : List Ob} {c : Str} {fs : List (Str × P)} (hg : g (.p x) ρ S = some ρ1) (hf : f ρ1 S = some (.exc c fs ρ2, S2)) : forS g f (x :: r) ρ S = some (.exc c fs ρ2, S2) := by
  simp only [forS, hg, hf]
theorem lst_ix (acc : List P) (x : P) : ixP (.lst (acc ++ [x])) (.int (-1)) = some x := by
  unfold ixP
  simp only [asL]
  exact atI_last acc x
end Wr
namespace Wr.K00
open PySem PySem.Spec PyProof.Rows L2 Wr
local macro_rules
  | `(tactic| array_get_dec) => `(tactic| simp (config := { failIfUnchanged := false }) only [evSs, evS, evE, evEs, evAnd, evOr, evT, evAndT, evOrT, evI, evO, evTg, evBF, evBN, evBO, evCO, evCs, q_seqS, q_skip, q_fRet, q_fRetN, q_fIfS, q_bindS, q_bindF, q_ret, q_fVar, q_fC, q_fOne, q_fNot, q_fAnd, q_fOr, q_fIf, q_fTru, q_asB, q_fAndT, q_fOrT, q_fNotT, q_f2, q_fChain, q_fB, q_fBn, q_fCons, q_fNil, q_fTup, q_fLst, q_fSl, q_fRev, q_fPart, q_fLc, q_fLcN, q_fItems, q_fZip, q_fRng1, q_fEnum, q_fFor, q_fAsg, q_fPar, q_fRaise0, q_fRaise1, q_fSetI, q_dropS, q_fStar, q_glb, q_call,
  kB_ok, kB_exc, kB_ite, kA_bl, kO_bl, m_and, m_or, kN_bl, kO1_some, kV_p, kT_bl, m_andT, m_orT, kC2_bl, kL_p1, kNw_f, kNw_t, kSl_tup, kSl_lst, kC_f, kC_t, kS_ok, kS_exc, kS_ite, kQ_nx, kQ_ret, kQ_exc, kQ_ite, endF_ite, kR_ok, kR_exc, kR_ite, kP, allP, newL, gNm, gTupN, gNms, view_p, itemsOf_lst, itemsOf_tup, itemsOf_lsf, asL_lst, asL_lsf, asL_tup, asT_lst, asT_tup, truP_bl, vals,
  List.getElem?_cons_zero, List.getElem?_cons_succ, List.map_cons, List.map_nil, List.cons_append, List.nil_append, List.length_cons, List.length_nil, List.set_cons_zero, List.set_cons_succ, List.replicate_succ, List.replicate_zero, wipeV, Option.map_some, Option.map_none, if_true, if_false, Bool.false_eq_true, reduceCtorEq, Nat.reduceAdd, Nat.reduceSub, Nat.reduceLT, Nat.reduceLeDiff, Bool.not_true, Bool.not_false, Bool.and_true, Bool.true_and, Bool.and_false, Bool.false_and, Bool.or_true, Bool.true_or, Bool.or_false, Bool.false_or])
abbrev bRun : Ss := (.cons (.asg (.nm 5) (.call 17 (.cons (.var 0) (.cons (.ix (.var 2) (.neg (.int 1))) (.cons (.var 4) .nil)))))
  (.cons (.ifs (.cmp .is (.var 5) .non) (.cons (.rais1 2 (.var 3))
  .nil) .nil)
  (.cons (.expr (.app (.var 2) (.call 16 (.cons (.var 5) (.cons (.ix (.var 2) (.neg (.int 1))) .nil)))))
  .nil)))
section
variable {fuel k : Nat} {S : List Ob}
theorem run_for (hS : Sl S) {l : List P} {be wi : List Str} (t : Tsk l be wi) (nm : P) : ∀ (vs : List P) (i : Nat) (s : List Str) (acc : List P) (o3 o4 o5 : Option Wv), Ste l be wi s → (∀ v ∈ vs, dm v = true) → acc.length + 1 + vs.length ≤ 100000 →
    ∃ o3' o4' o5' T, forS (gTupN [3, 4]) (evSs G (Gam G ds fuel (k + 5)) fuel bRun) (vs.mapIdx fun j x => .tup [.int ((i + j : Nat) : Int), x]) [some (.p (.tup [.tup l, Tp be, Tp wi])), some (.p nm), some (.loc S.length), o3, o4, o5] (S ++ [.lst (acc ++ [Tp s])]) =
      (match runP l s vs i with
      | .error j => some (.exc "BadDeed" [("index", .int (j : Nat))] [some (.p (.tup [.tup l, Tp be, Tp wi])), some (.p nm), some (.loc S.length), o3', o4', o5'], S ++ [T])
      | .ok ss => some (.go .nx [some (.p (.tup [.tup l, Tp be, Tp wi])), some (.p nm), some (.loc S.length), o3', o4', o5'], S ++ [.lst (acc ++ [Tp s] ++ ss.map Tp)]))
  | [], i, s, acc, o3, o4, o5, hs, _, _ => ⟨o3, o4, o5, .gone, by simp only [List.mapIdx_nil, forS, runP, q_skip, List.map_nil, List.append_nil]⟩
  | v :: r, i, s, acc, o3, o4, o5, hs, hd, hl => by
    have hS' := hS.snoc (acc ++ [Tp s])
    have hlen := hs.len t
    have hdv := hd v List.mem_cons_self
    have e1 : (v :: r).mapIdx (fun j x => P.tup [.int ((i + j : Nat) : Int), x]) = .tup [.int (i : Nat), v] :: r.mapIdx (fun j x => P.tup [.int ((i + 1 + j : Nat) : Int), x]) := by
      rw [List.mapIdx_cons]
      congr 1
      congr 1
      funext j x
      rw [show i + (j + 1) = i + 1 + j by omega]
    rw [e1]
    simp only [List.length_cons] at hl
    cases hq : toDo l s v with
    | none =>
      refine ⟨some (.p (.int (i : Nat))), some (.p v), some (.p .non), .lst (acc ++ [Tp s]), ?_⟩
      have hf : evSs G (Gam G ds fuel (k + 5)) fuel bRun [some (.p (.tup [.tup l, Tp be, Tp wi])), some (.p nm), some (.loc S.length), some (.p (.int (i : Nat))), some (.p v), o5] (S ++ [.lst (acc ++ [Tp s])]) = some (.exc "BadDeed" [("index", .int (i : Nat))] [some (.p (.tup [.tup l, Tp be, Tp wi])), some (.p nm), some (.loc S.length), some (.p (.int (i : Nat))), some (.p v), some (.p .non)], S ++ [.lst (acc ++ [Tp s])]) := by
        array_get_dec
        simp only [negP]
        array_get_dec
        rw [kV_last, lst_ix]
        array_get_dec
        rw [deed_to_do_ hS' t.f.deeds (by omega) hdv, hq]
        array_get_dec
        simp only [optD, isF_none, isN, G, excs]
        array_get_dec
      rw [forS_exc rfl hf]
      simp only [runP, stepP, hq, Option.map_none]
    | some x =>
      have hx := t.deed (find_mem hq).1
      obtain ⟨o3', o4', o5', T, ih⟩ := run_for hS t nm r (i + 1) (behind x s) (acc ++ [Tp s]) (some (.p (.int (i : Nat)))) (some (.p v)) (some (.p x)) (ste_behind t hs (find_mem hq).1) (fun u hu => hd u (List.mem_cons_of_mem _ hu)) (by rw [List.length_append, List.length_singleton]; omega)
      refine ⟨o3', o4', o5', T, ?_⟩
      have hf : evSs G (Gam G ds fuel (k + 5)) fuel bRun [some (.p (.tup [.tup l, Tp be, Tp wi])), some (.p nm), some (.loc S.length), some (.p (.int (i : Nat))), some (.p v), o5] (S ++ [.lst (acc ++ [Tp s])]) = some (.go .nx [some (.p (.tup [.tup l, Tp be, Tp wi])), some (.p nm), some (.loc S.length), some (.p (.int (i : Nat))), some (.p v), some (.p x)], S ++ [.lst (acc ++ [Tp s] ++ [Tp (behind x s)])]) := by
        array_get_dec
        simp only [negP]
        array_get_dec
        rw [kV_last, lst_ix]
        array_get_dec
        rw [deed_to_do_ hS' t.f.deeds (by omega) hdv, hq]
        array_get_dec
        simp only [optD, isF_none, deed_isN hx.1]
        array_get_dec
        rw [app_last (y := Tp (behind x s)) rfl (by
          array_get_dec
          simp only [negP]
          array_get_dec
          rw [kV_last, lst_ix]
          array_get_dec
          rw [state_behind_ hS' hx.1 s (by omega)]
          array_get_dec) (by rw [List.length_append, List.length_singleton]; omega)]
        array_get_dec
      rw [forS_nx rfl hf, ih]
      simp only [runP, stepP, hq, Option.map_some]
      cases runP l (behind x s) r (i + 1) with
      | error j => rfl
      | ok ss => simp only [List.map_cons, List.append_assoc, List.cons_append, List.nil_append]
theorem Sl.last {S : List Ob} (p : P) (ρ : Vars) (T : Ob) (h : Sl S) : endF S.length (some (.go (.ret (.p p)) ρ, S ++ [T])) = some (.ok p, S) := endF_retT h p ρ
theorem asT_none {v : P} (h : ∀ vs, v ≠ .tup vs) (hv : dm v = true) : isTup v = false := by
  cases v <;> first | rfl | (exfalso; exact h _ rfl)
theorem run_ (hS : Sl S) {l : List P} {be wi : List Str} (t : Tsk l be wi) {vs : List P} (hv : ∀ v ∈ vs, dm v = true) (hl : vs.length ≤ 10000) : cl fuel (k + 6) 20 [.p (.tup [.tup l, Tp be, Tp wi]), .p (.tup vs)] S = match runP l be vs 0 with
    | .error j => some (.exc "BadDeed" [("index", .int (j : Nat))], S)
    | .ok ss => some (.ok (.tup ((be :: ss).map Tp)), S) := by
  rw [cl_def d_run rfl]
  simp only [d_run, N_run, s_run]
  array_get_dec
  rw [check_ok hS t]
  array_get_dec
  simp only [isi_tup (show dm (.tup vs) = true from dmL_all.mpr hv), isTup]
  array_get_dec
  rw [ix31]
  array_get_dec
  rw [if_pos (by omega)]
  simp only [kS_ok]
  obtain ⟨o3, o4, o5, T, h⟩ := run_for (fuel := fuel) (k := k) hS t (.tup vs) vs 0 be [] none none none (ste_begin t) hv (by simp only [List.length_nil]; omega)
  have e : enumP vs = vs.mapIdx (fun j x => P.tup [.int ((0 + j : Nat) : Int), x]) := by
    unfold enumP
    congr 1
    funext j x
    rw [Nat.zero_add]
  rw [e]
  show endF _ (kQ (forS (gTupN [3, 4]) (evSs G (Gam G ds fuel (k + 5)) fuel bRun) _ _ (S ++ [.lst ([] ++ [Tp be])])) _) = _
  rw [h]
  cases runP l be vs 0 with
  | error j =>
    array_get_dec
    exact endF_excT hS _ _ _
  | ok ss =>
    array_get_dec
    rw [kL_last]
    simp only [tupPy]
    array_get_dec
    exact endF_retT hS _ _
theorem run_not (hS : Sl S) {l : List P} {be wi : List Str} (t : Tsk l be wi) {v : P} (hv : dm v = true) (h : ∀ vs, v ≠ .tup vs) : cl fuel (k + 6) 20 [.p (.tup [.tup l, Tp be, Tp wi]), .p v] S = some (.exc "BadDeed" [("index", .non)], S) := by
  rw [cl_def d_run rfl]
  simp only [d_run, N_run, s_run]
  array_get_dec
  rw [check_ok hS t]
  array_get_dec
  simp only [isi_tup hv, asT_none h hv, G, excs]
  array_get_dec
  exact endF_exc hS _ _ _
theorem run_bad (hS : Sl S) {v : P} (hv : dm v = true) (hw : wt v ≤ 4000) {w : Str} (h : wrong v = some w) (u : Wv) : cl fuel (k + 6) 20 [.p v, u] S = some (.exc "BadTask" [("word", .str w)], S) := by
  rw [cl_def d_run rfl]
  simp only [d_run, N_run, s_run]
  array_get_dec
  rw [check_task_ hS hv hw, h]
  array_get_dec
  exact endF_exc hS _ _ _
theorem exm_DD : G.exm.lookup (("BadDeed", "BadDeed") : Str × Str) = some true := by decide +kernel
theorem exm_TD : G.exm.lookup (("BadTask", "BadDeed") : Str × Str) = some false := by decide +kernel
theorem price_bad (hS : Sl S) {v : P} (hv : dm v = true) (hw : wt v ≤ 4000) {w : Str} (h : wrong v = some w) (u : Wv) : cl fuel (k + 7) 21 [.p v, u] S = some (.exc "BadTask" [("word", .str w)], S) := by
  rw [cl_def d_price rfl]
  simp only [d_price, N_price, s_price]
  array_get_dec
  rw [run_bad hS hv hw h]
  array_get_dec
  exact endF_exc hS _ _ _
theorem is_plan_bad (hS : Sl S) {v : P} (hv : dm v = true) (hw : wt v ≤ 4000) {w : Str} (h : wrong v = some w) (u : Wv) : cl fuel (k + 7) 22 [.p v, u] S = some (.exc "BadTask" [("word", .str w)], S) := by
  rw [cl_def d_is_plan rfl]
  simp only [d_is_plan, N_is_plan, s_is_plan]
  array_get_dec
  simp only [fTry]
  array_get_dec
  rw [run_bad hS hv hw h]
  array_get_dec
  simp only [runH, exm_TD]
  array_get_dec
  exact endF_exc hS _ _ _
end
end Wr.K00
namespace Wr
open PySem PySem.Spec PyProof.Rows L2
section
variable {κ : Type} [DecidableEq κ]
theorem valP_cons (a : κ × P) (r : List (κ × P)) (j : κ) : valP (a :: r) j = if a.1 = j then some a.2 else valP r j := by
  unfold valP
  rw [List.find?_cons]
  by_cases h : a.1 = j
  · simp [h]
  · simp [h]
theorem valP_app (l : List (κ × P)) (k j : κ) (v : P) (h : (l.any fun kv => decide (kv.1 = k)) = false) : valP (l ++ [(k, v)]) j = if j = k then some v else valP l j := by
  induction l with
  | nil =>
    rw [List.nil_append, valP_cons]
    by_cases e : j = k
    · simp [e]
    · have e2 : ¬ k = j := fun q => e q.symm
      simp [e, e2]
  | cons a r ih =>
    simp only [List.any_cons, Bool.or_eq_false_iff, decide_eq_false_iff_not] at h
    rw [List.cons_append, valP_cons, valP_cons, ih h.2]
    by_cases e : a.1 = j
    · have : ¬ j = k := fun q => h.1 (e.trans q)
      simp [e, this]
    · simp [e]
theorem valP_rep (l : List (κ × P)) (k j : κ) (v : P) (h : (l.any fun kv => decide (kv.1 = k)) = true) : valP (l.map fun kv => if kv.1 = k then (kv.1, v) else kv) j = if j = k then some v else valP l j := by
  induction l with
  | nil => simp at h
  | cons a r ih =>
    rw [List.map_cons, valP_cons, valP_cons]
    by_cases ha : a.1 = k
    · rw [if_pos ha]
      by_cases e : a.1 = j
      · have : j = k := e ▸ ha
        simp [e, this]
      · have e2 : ¬ j = k := fun q => e (ha.trans q.symm)
        simp only [e, if_false, e2]
        by_cases hr : (r.any fun kv => decide (kv.1 = k)) = true
        · rw [ih hr]; simp [e2]
        · have : r.map (fun kv => if kv.1 = k then (kv.1, v) else kv) = r := by
            have hr' : (r.any fun kv => decide (kv.1 = k)) = false := (Bool.not_eq_true _).mp hr
            refine (List.map_congr_left (g := id) fun x hx => ?_).trans (List.map_id r)
            have q := List.any_eq_false.mp hr' x hx
            have q' : ¬ x.1 = k := fun e => q (decide_eq_true e)
            rw [if_neg q']
            rfl
          rw [this]
    · simp only [ha, if_false]
      simp only [List.any_cons, ha, decide_false, Bool.false_or] at h
      rw [ih h]
      by_cases e : a.1 = j
      · have : ¬ j = k := fun q => ha (e.trans q)
        simp [e, this]
      · simp [e]
theorem putP_val (l : List (κ × P)) (k j : κ) (v : P) : valP (putP l k v) j = if j = k then some v else valP l j := by
  unfold putP
  split
  · rename_i h
    exact valP_rep l k j v h
  · rename_i h
    exact valP_app l k j v ((Bool.not_eq_true _).mp h)
end
def prcP : P → P
  | .tup [_, _, _, _, _, q] => q
  | _ => .non
/-- the prices of the deeds by their names -/
def prD (acc : List (Key × P)) (l : List P) : List (Key × P) := l.foldl (fun acc x => putP acc (.inr (nameP x)) (prcP x)) acc
theorem prD_mem : ∀ (l : List P) (acc : List (Key × P)) (x : P), x ∈ l → ascB (l.map nameP) = true → valP (prD acc l) (.inr (nameP x)) = some (prcP x)
  | y :: r, acc, x, hx, h => by
    have keep : ∀ (l : List P) (acc : List (Key × P)) (n : Str), n ∉ l.map nameP → valP (prD acc l) (.inr n) = valP acc (.inr n) := by
      intro l
      induction l with
      | nil => intro acc n _; rfl
      | cons z u ih =>
        intro acc n hn
        simp only [List.map_cons, List.mem_cons, not_or] at hn
        show valP (prD (putP acc (.inr (nameP z)) (prcP z)) u) (.inr n) = _
        rw [ih _ n hn.2, putP_val, if_neg (fun e => hn.1 (Sum.inr.inj e))]
    rw [List.map_cons] at h
    show valP (prD (putP acc (.inr (nameP y)) (prcP y)) r) (.inr (nameP x)) = _
    rcases List.mem_cons.mp hx with e | e
    · subst e
      rw [keep r _ _ (List.nodup_cons.mp (asc_nodup h)).1, putP_val, if_pos rfl]
    · exact prD_mem r _ x e (asc_tail h)
def costP (l : List P) (v : P) : Int := match v with
  | .str n => (match valP (prD [] l) (.inr n) with
    | some (.int i) => i
    | _ => 0)
  | _ => 0
theorem cost_ix {l : List P} {v : P} {s : List Str} {x : P} (hl : l.all deedB = true) (hn : ascB (l.map nameP) = true) (h : toDo l s v = some x) : ixP (.dK (prD [] l)) v = some (.int (costP l v)) := by
  obtain ⟨hx, hp⟩ := find_mem h
  simp only [Bool.and_eq_true] at hp
  have h1 := hp.1
  unfold isName at h1
  split at h1
  · rename_i n
    have e : nameP x = n := by simpa using h1
    obtain ⟨m, a, b, c, d, q, D⟩ := deed_tp (List.all_eq_true.mp hl x hx)
    have hv := prD_mem l [] x hx hn
    rw [e] at hv
    have hq : prcP x = .int q := by rw [D.eq]; rfl
    rw [hq] at hv
    unfold ixP costP
    simp only [dGetP, keyP, Option.map_some, hv, Option.join]
    rfl
  · cases h1
theorem run_names {l : List P} : ∀ {vs : List P} {s : List Str} {i : Nat} {ss : List (List Str)}, runP l s vs i = .ok ss → ∀ v ∈ vs, ∃ s' x, toDo l s' v = some x
  | [], _, _, _, _, v, hv => by cases hv
  | u :: r, s, i, ss, h, v, hv => by
    simp only [runP, stepP] at h
    cases hq : toDo l s u with
    | none => simp [hq] at h
    | some x =>
      simp only [hq, Option.map_some] at h
      rcases List.mem_cons.mp hv with e | e
      · exact ⟨s, x, e ▸ hq⟩
      · cases hr : runP l (behind x s) r (i + 1) with
        | error j => simp [hr] at h
        | ok ss' => exact run_names hr v e
theorem intsP_map {α : Type} (f : α → Int) (l : List α) : intsP (l.map fun x => .int (f x)) = some (l.map f) := by
  induction l with
  | nil => rfl
  | cons x r ih => simp only [List.map_cons, intsP, ih, Option.map_some]
theorem dcP_pure {g : FG} {fk fv : F Wv} {ρ : Vars} {S : List Ob} {kf : P → Key} {vf : P → P} : ∀ (l : List P) (acc : List (Key × P)), (∀ x ∈ l, ∃ ρ1 y, g (.p x) ρ S = some ρ1 ∧ fk ρ1 S = some (.ok (.p y), S) ∧ fv ρ1 S = some (.ok (.p (vf x)), S) ∧ keyP y = some (kf x)) → dcP g (retF true) fk fv ρ l acc S = some (l.foldl (fun acc x => putP acc (kf x) (vf x)) acc, S)
  | [], acc, _ => rfl
  | x :: r, acc, h => by
    obtain ⟨ρ1, y, h1, h2, h3, h4⟩ := h x List.mem_cons_self
    simp only [dcP, h1, q_ret, h2, h3, h4]
    exact dcP_pure r _ fun z hz => h z (List.mem_cons_of_mem _ hz)
end Wr
namespace Wr.K00
open PySem PySem.Spec PyProof.Rows L2 Wr
local macro_rules
  | `(tactic| array_get_dec) => `(tactic| simp (config := { failIfUnchanged := false }) only [evSs, evS, evE, evEs, evAnd, evOr, evT, evAndT, evOrT, evI, evO, evTg, evBF, evBN, evBO, evCO, evCs, q_seqS, q_skip, q_fRet, q_fRetN, q_fIfS, q_bindS, q_bindF, q_ret, q_fVar, q_fC, q_fOne, q_fNot, q_fAnd, q_fOr, q_fIf, q_fTru, q_asB, q_fAndT, q_fOrT, q_fNotT, q_f2, q_fChain, q_fB, q_fBn, q_fCons, q_fNil, q_fTup, q_fLst, q_fSl, q_fRev, q_fPart, q_fLc, q_fLcN, q_fItems, q_fZip, q_fRng1, q_fEnum, q_fFor, q_fAsg, q_fPar, q_fRaise0, q_fRaise1, q_fSetI, q_dropS, q_fStar, q_glb, q_call,
  kB_ok, kB_exc, kB_ite, kA_bl, kO_bl, m_and, m_or, kN_bl, kO1_some, kV_p, kT_bl, m_andT, m_orT, kC2_bl, kL_p1, kNw_f, kNw_t, kSl_tup, kSl_lst, kC_f, kC_t, kS_ok, kS_exc, kS_ite, kQ_nx, kQ_ret, kQ_exc, kQ_ite, endF_ite, kR_ok, kR_exc, kR_ite, kP, allP, newL, gNm, gTupN, gNms, view_p, itemsOf_lst, itemsOf_tup, itemsOf_lsf, asL_lst, asL_lsf, asL_tup, asT_lst, asT_tup, truP_bl, vals,
  List.getElem?_cons_zero, List.getElem?_cons_succ, List.map_cons, List.map_nil, List.cons_append, List.nil_append, List.length_cons, List.length_nil, List.set_cons_zero, List.set_cons_succ, List.replicate_succ, List.replicate_zero, wipeV, Option.map_some, Option.map_none, if_true, if_false, Bool.false_eq_true, reduceCtorEq, Nat.reduceAdd, Nat.reduceSub, Nat.reduceLT, Nat.reduceLeDiff, Bool.not_true, Bool.not_false, Bool.and_true, Bool.true_and, Bool.and_false, Bool.false_and, Bool.or_true, Bool.true_or, Bool.or_false, Bool.false_or])
section
variable {fuel k : Nat} {S : List Ob}
theorem q_fDc (vs : List Nat) (fi : F (List P)) (g : FG) (ft : F Bool) (fk fv : F Wv) (ρ : Vars) (S : List Ob) : fDc vs fi g ft fk fv ρ S = kB (fi ρ S) fun l S1 => match dcP g ft fk fv (wipeV ρ vs) l [] S1 with
  | some (l', S') => some (.ok (.p (.dK l')), S')
  | none => none := rfl
theorem price_ (hS : Sl S) {l : List P} {be wi : List Str} (t : Tsk l be wi) {vs : List P} (hv : ∀ v ∈ vs, dm v = true) (hl : vs.length ≤ 10000) {ss : List (List Str)} (hr : runP l be vs 0 = .ok ss) : cl fuel (k + 7) 21 [.p (.tup [.tup l, Tp be, Tp wi]), .p (.tup vs)] S = some (.ok (.int (vs.map (costP l)).sum), S) := by
  rw [cl_def d_price rfl]
  simp only [d_price, N_price, s_price]
  array_get_dec
  rw [run_ hS t hv hl, hr]
  array_get_dec
  rw [q_fDc]
  array_get_dec
  rw [ix30]
  array_get_dec
  rw [dcP_pure (kf := fun x => .inr (nameP x)) (vf := prcP) l [] (fun x hx => by
    obtain ⟨m, a, b, c, d, q, D⟩ := deed_tp (t.deed hx).1
    refine ⟨_, .str m, rfl, ?_, ?_, by rw [D.name]; rfl⟩
    · array_get_dec
      rw [D.eq, ix60]
      array_get_dec
    · array_get_dec
      rw [D.eq, ix65]
      array_get_dec
      rfl)]
  array_get_dec
  rw [compP_all' (e := fun v => .int (costP l v)) vs (fun v hv' => ⟨_, rfl, by
    obtain ⟨s', x, hx⟩ := run_names hr v hv'
    array_get_dec
    have := cost_ix t.f.deeds t.f.names hx
    unfold prD at this
    rw [this]
    array_get_dec⟩)]
  array_get_dec
  simp only [sumPy, asL, intsP_map, Option.map_some]
  array_get_dec
  exact endF_ret hS _ _
/-- the last of the states -/
def lastS (be : List Str) (ss : List (List Str)) : List Str := (be :: ss).getLast (by simp)
theorem is_plan_ (hS : Sl S) {l : List P} {be wi : List Str} (t : Tsk l be wi) {vs : List P} (hv : ∀ v ∈ vs, dm v = true) (hl : vs.length ≤ 10000) : cl fuel (k + 7) 22 [.p (.tup [.tup l, Tp be, Tp wi]), .p (.tup vs)] S = some (.ok (.bl (match runP l be vs 0 with
    | .error j => false
    | .ok ss => wi.all fun z => decide (z ∈ lastS be ss))), S) := by
  rw [cl_def d_is_plan rfl]
  simp only [d_is_plan, N_is_plan, s_is_plan]
  array_get_dec
  simp only [fTry]
  array_get_dec
  rw [run_ hS t hv hl]
  cases runP l be vs 0 with
  | error j =>
    array_get_dec
    simp only [runH, exm_DD, slotOk, evH, conP]
    array_get_dec
    exact endF_ret hS _ _
  | ok ss =>
    array_get_dec
    rw [ix32]
    array_get_dec
    simp only [negP]
    array_get_dec
    have e : ixP (.tup ((be :: ss).map Tp)) (.int (-1)) = some (Tp (lastS be ss)) := by
      unfold ixP lastS
      simp only [asL, asT]
      have : (be :: ss).map Tp = ((be :: ss).dropLast.map Tp) ++ [Tp ((be :: ss).getLast (by simp))] := by
        rw [← List.map_singleton, ← List.map_append, List.dropLast_concat_getLast]
      rw [this]
      exact atI_last _ _
    rw [List.map_cons] at e
    rw [e]
    array_get_dec
    rw [all_stand_ hS wi (lastS be ss) (Tp wi) (Tp (lastS be ss)) (.inr rfl) (.inr rfl)]
    array_get_dec
    exact endF_ret hS _ _
theorem is_plan_not (hS : Sl S) {l : List P} {be wi : List Str} (t : Tsk l be wi) {v : P} (hv : dm v = true) (h : ∀ vs, v ≠ .tup vs) : cl fuel (k + 7) 22 [.p (.tup [.tup l, Tp be, Tp wi]), .p v] S = some (.ok (.bl false), S) := by
  rw [cl_def d_is_plan rfl]
  simp only [d_is_plan, N_is_plan, s_is_plan]
  array_get_dec
  simp only [fTry]
  array_get_dec
  rw [run_not hS t hv h]
  array_get_dec
  simp only [runH, exm_DD, slotOk, evH, conP]
  array_get_dec
  exact endF_ret hS _ _
end
end Wr.K00

set_option maxHeartbeats 4000000
namespace Wr
open PySem PySem.Spec PyProof.Rows L2
abbrev RowL (ns : List Int) (a b c : Int) : List P := [.lsf (ns.map .int), .int a, .int b, .int c]
abbrev Row (ns : List Int) (a b c : Int) : Ob := .lst (RowL ns a b c)
theorem Sl.cons {l : List P} {T : List Ob} (h : Sl T) : Sl (.lst l :: T) := fun o ho => by
  rcases List.mem_cons.mp ho with e | e
  · exact ⟨l, e⟩
  · exact h o e
theorem kV_0 {β : Type} (L : List P) (T : List Ob) (k : P → Option (Rs β × List Ob)) : kV (.loc 0) (.lst L :: T) k = k (.lst L) := rfl
section
variable (a b c d x : P) (T : List Ob)
theorem ix40 : ixP (.lst [a, b, c, d]) (.int 0) = some a := rfl
theorem ix41 : ixP (.lst [a, b, c, d]) (.int 1) = some b := rfl
theorem ix42 : ixP (.lst [a, b, c, d]) (.int 2) = some c := rfl
theorem ix43 : ixP (.lst [a, b, c, d]) (.int 3) = some d := rfl
theorem st41 : setAt (.loc 0) (.p (.int 1)) (.p x) (.lst [a, b, c, d] :: T) = some (.lst [a, x, c, d] :: T) := rfl
theorem st42 : setAt (.loc 0) (.p (.int 2)) (.p x) (.lst [a, b, c, d] :: T) = some (.lst [a, b, x, d] :: T) := rfl
theorem st43 : setAt (.loc 0) (.p (.int 3)) (.p x) (.lst [a, b, c, d] :: T) = some (.lst [a, b, c, x] :: T) := rfl
end
theorem add_int (i j : Int) : addP (.int i) (.int j) = some (.int (i + j)) := rfl
theorem sub_int (i j : Int) : intOp (fun i j => some (i - j)) (.int i) (.int j) = some (.int (i - j)) := rfl
theorem mul_int (i : Int) : mulP (.int i) (.int 48271) = some (.int (i * 48271)) := by
  simp [mulP, intOp, mulI]
theorem mod_int {i m : Int} (h : 0 < m) : intOp modI (.int i) (.int m) = some (.int (i % m)) := by
  simp only [intOp, modI, h, if_true, Option.map_some]
theorem div_int {i m : Int} (h : 0 < m) (h2 : m < 1073741824) : intOp divI (.int i) (.int m) = some (.int (i / m)) := by
  simp only [intOp, divI, h, h2, and_self, if_true, Option.map_some]
theorem pow_18 : intOp powI (.int 10) (.int 18) = some (.int 1000000000000000000) := by
  simp [intOp, powI]
theorem int_int (i : Int) : intPy [.int i] = some (.int i) := rfl
theorem mod_g (i : Int) : intOp modI (.int i) (.int 2147483647) = some (.int (i % 2147483647)) := mod_int (by decide)
theorem div_7 (i : Int) : intOp divI (.int i) (.int 7) = some (.int (i / 7)) := div_int (by decide) (by decide)
theorem at_nat {α : Type} {l : List α} {r : Int} (h0 : 0 ≤ r) (h1 : r < l.length) : ∃ x, x ∈ l ∧ L2.atI l r = some x := by
  have hr : r.toNat < l.length := by omega
  refine ⟨l[r.toNat], List.getElem_mem _, ?_⟩
  unfold L2.atI L2.ixN
  rw [if_pos h0, if_pos h1]
  simp only [Option.bind_some, List.getElem?_eq_getElem hr]
theorem cut_to (l : List P) (n : Nat) : cutP l none (some (n : Int)) = l.take n := by
  unfold cutP
  rw [HT.sIx_none, HT.sIx_nat, List.drop_zero, Nat.sub_zero]
  by_cases h : n ≤ l.length
  · rw [Nat.min_eq_left h]
  · rw [Nat.min_eq_right (by omega), List.take_of_length_le (Nat.le_refl _), List.take_of_length_le (by omega)]
theorem cut_to' (l : List P) {n : Int} (h : 0 ≤ n) : cutP l none (some n) = l.take n.toNat := by
  have := cut_to l n.toNat
  rwa [Int.toNat_of_nonneg h] at this
theorem cut_from (l : List P) (n : Nat) : cutP l (some (n : Int)) none = l.drop n := by
  unfold cutP
  rw [HT.sIx_none, HT.sIx_nat]
  by_cases h : n ≤ l.length
  · rw [Nat.min_eq_left h]
    exact List.take_of_length_le (by rw [List.length_drop]; omega)
  · rw [Nat.min_eq_right (by omega), Nat.sub_self, List.take_zero, List.drop_eq_nil_of_le (by omega)]
theorem cut_from' (l : List P) {n : Int} (h : 0 ≤ n) : cutP l (some n) none = l.drop n.toNat := by
  have := cut_from l n.toNat
  rwa [Int.toNat_of_nonneg h] at this
def kRng (ws : List Wv) (S1 : List Ob) : Option (Rs (List P) × List Ob) := match ws with
  | [.p (.int j)] => (if -1000000 ≤ j ∧ j ≤ 1000000 then some (.ok (rngP 0 j.toNat), S1) else none)
  | _ => none
theorem q_rng (fs : F (List Wv)) (ρ : Vars) (S : List Ob) : fRng1 fs ρ S = kB (fs ρ S) kRng := q_fRng1 fs ρ S
theorem kRng_ok {j : Int} (h : 0 ≤ j) (h2 : j ≤ 1000000) (S : List Ob) : kRng [.p (.int j)] S = some (.ok (rngP 0 j.toNat), S) := by
  unfold kRng
  simp only
  rw [if_pos ⟨by omega, h2⟩]
theorem len_lst (l : List P) : lenP [.lst l] = some (.int l.length) := rfl
theorem len_tup (l : List P) : lenP [.tup l] = some (.int l.length) := rfl
theorem list_tup (l : List P) : (listPy [.tup l]).or (listS [.tup l]) = some l := rfl
theorem list_lst (l : List P) : (listPy [.lst l]).or (listS [.lst l]) = some l := rfl
theorem tup_lst (l : List P) : tupPy [.lst l] = some (.tup l) := rfl
theorem srt_len (ys : List Str) : (srt ys).length ≤ ys.length := asc_len (srt_nodup ys) fun z hz => mem_srt.mp hz
end Wr
namespace Wr.K00
open PySem PySem.Spec PyProof.Rows L2 Wr
local macro_rules
  | `(tactic| sizeOf_list_dec) => `(tactic| simp (config := { failIfUnchanged := false, implicitDefEqProofs := false }) only [evSs, q_seqS, q_skip, kQ_nx, kQ_ret, kQ_exc])
local macro_rules
  | `(tactic| array_mem_dec) => `(tactic| simp (config := { failIfUnchanged := false, implicitDefEqProofs := false }) only [evSs, evS, evE, evEs, evAnd, evOr, evT, evAndT, evOrT, evI, evO, evTg, evBF, evBN, evBO, evCO, evCs, q_seqS, q_skip, q_fRet, q_fRetN, q_fIfS, q_bindS, q_bindF, q_ret, q_fVar, q_fC, q_fOne, q_fNot, q_fAnd, q_fOr, q_fIf, q_fTru, q_asB, q_fAndT, q_fOrT, q_fNotT, q_f2, q_fChain, q_fB, q_fBn, q_fCons, q_fNil, q_fTup, q_fLst, q_fSl, q_fRev, q_fPart, q_fLc, q_fLcN, q_fItems, q_fZip, q_rng, q_fEnum, q_fFor, q_fAsg, q_fPar, q_fRaise0, q_fRaise1, q_fSetI, q_dropS, q_fStar, q_glb, q_call,
  kB_ok, kB_exc, kB_ite, kA_bl, kO_bl, m_and, m_or, kN_bl, kO1_some, kV_p, kT_bl, m_andT, m_orT, kC2_bl, kL_p1, kNw_f, kNw_t, kSl_tup, kSl_lst, kC_f, kC_t, kS_ok, kS_exc, kS_ite, kQ_nx, kQ_ret, kQ_exc, kQ_ite, endF_ite, kR_ok, kR_exc, kR_ite, kP, allP, newL, gNm, gTupN, gNms, view_p, itemsOf_lst, itemsOf_tup, itemsOf_lsf, asL_lst, asL_lsf, asL_tup, asT_lst, asT_tup, truP_bl, vals,
  List.getElem?_cons_zero, List.getElem?_cons_succ, List.map_cons, List.map_nil, List.cons_append, List.nil_append, List.length_cons, List.length_nil, List.set_cons_zero, List.set_cons_succ, List.replicate_succ, List.replicate_zero, wipeV, Option.map_some, Option.map_none, if_true, if_false, Bool.false_eq_true, reduceCtorEq, Nat.reduceAdd, Nat.reduceSub, Nat.reduceLT, Nat.reduceLeDiff, Bool.not_true, Bool.not_false, Bool.and_true, Bool.true_and, Bool.and_false, Bool.false_and, Bool.or_true, Bool.true_or, Bool.or_false, Bool.false_or,
  kV_0, ix40, ix41, ix42, ix43, st41, st42, st43, add_int, sub_int, mul_int, mod_g, div_7, pow_18, int_int, cmpI, len_lst, len_tup, list_tup, list_lst, tup_lst, ix30, ix31, ix32, ix60, ix61, ix62, ix63, ix64, ix65])
section
variable {fuel k : Nat} {S : List Ob}
theorem taken_ {T : List Ob} (hT : Sl T) {ns : List Int} (hn : ns.length ≤ 63) {a b c m : Int} (ha : 0 ≤ a) (hm : 0 < m) (hm2 : m < 1073741824) : ∃ r a' b' c', 0 ≤ r ∧ r < m ∧ 0 ≤ a' ∧ cl fuel (k + 1) 23 [.loc 0, .p (.int m)] (Row ns a b c :: T) = some (.ok (.int r), Row ns a' b' c' :: T) := by
  have hS : ∀ x y z, Sl (Row ns x y z :: T) := fun x y z => hT.cons
  rw [cl_def d__law_taken rfl]
  simp only [d__law_taken, N__law_taken, s__law_taken]
  array_mem_dec
  cases hc : decide (0 < c) with
  | true =>
    array_mem_dec
    rw [mod_int hm]
    array_mem_dec
    rw [div_int hm hm2]
    array_mem_dec
    exact ⟨c % m, a, b, c / m, Int.emod_nonneg _ (by omega), Int.emod_lt_of_pos _ hm, ha, endF_ret (hS _ _ _) _ _⟩
  | false =>
    array_mem_dec
    simp only [lenP]
    array_mem_dec
    cases ho : decide (((ns.map P.int).length : Int) < a + 1) with
    | true =>
      array_mem_dec
      rw [mod_int hm]
      array_mem_dec
      exact ⟨_, a + 1, _, c, Int.emod_nonneg _ (by omega), Int.emod_lt_of_pos _ hm, by omega, endF_ret (hS _ _ _) _ _⟩
    | false =>
      have h1 : a + 1 - 1 < ((ns.map P.int).length : Int) := by
        have := of_decide_eq_false ho
        omega
      obtain ⟨x, hx, ex⟩ := at_nat (l := ns.map P.int) (r := a + 1 - 1) (by omega) h1
      obtain ⟨z, _, rfl⟩ := List.mem_map.mp hx
      have ex' : ixP (.lsf (ns.map P.int)) (.int (a + 1 - 1)) = some (.int z) := ex
      array_mem_dec
      rw [ex']
      array_mem_dec
      cases hz : decide ((1000000000000000000 : Int) ≤ z) with
      | true =>
        array_mem_dec
        rw [div_int hm hm2]
        array_mem_dec
        rw [mod_int hm]
        array_mem_dec
        exact ⟨_, a + 1, _, _, Int.emod_nonneg _ (by omega), Int.emod_lt_of_pos _ hm, by omega, endF_ret (hS _ _ _) _ _⟩
      | false =>
        array_mem_dec
        rw [mod_int hm]
        array_mem_dec
        exact ⟨_, a + 1, _, _, Int.emod_nonneg _ (by omega), Int.emod_lt_of_pos _ hm, by omega, endF_ret (hS _ _ _) _ _⟩
theorem pick_ {T : List Ob} (hT : Sl T) {ns : List Int} (hn : ns.length ≤ 63) {a b c : Int} (ha : 0 ≤ a) {l : List P} {w : P} (hw : w = .lst l ∨ w = .tup l) (h0 : 0 < l.length) (h1 : l.length < 1073741824) : ∃ x a' b' c', x ∈ l ∧ 0 ≤ a' ∧ cl fuel (k + 2) 24 [.loc 0, .p w] (Row ns a b c :: T) = some (.ok x, Row ns a' b' c' :: T) := by
  have hS : ∀ x y z, Sl (Row ns x y z :: T) := fun x y z => hT.cons
  obtain ⟨r, a', b', c', r0, r1, ha', h⟩ := taken_ (fuel := fuel) (k := k) hT hn (b := b) (c := c) ha (m := (l.length : Int)) (by omega) (by omega)
  obtain ⟨x, hx, ex⟩ := at_nat r0 r1
  refine ⟨x, a', b', c', hx, ha', ?_⟩
  rw [cl_def d__law_pick rfl]
  simp only [d__law_pick, N__law_pick, s__law_pick]
  rcases hw with rfl | rfl
  · array_mem_dec
    array_mem_dec
    rw [h]
    array_mem_dec
    have e : ixP (.lst l) (.int r) = some x := ex
    rw [e]
    array_mem_dec
    exact endF_ret (hS _ _ _) _ _
  · array_mem_dec
    array_mem_dec
    rw [h]
    array_mem_dec
    have e : ixP (.tup l) (.int r) = some x := ex
    rw [e]
    array_mem_dec
    exact endF_ret (hS _ _ _) _ _
theorem pick_row {T : List Ob} (hT : Sl T) {ns : List Int} (hn : ns.length ≤ 63) {l : List P} (h0 : 0 < l.length) (h1 : l.length < 1073741824) {w2 : P} : ∀ (js acc : List P) (a b c : Int), 0 ≤ a → ∃ xs a' b' c', (∀ x ∈ xs, x ∈ l) ∧ xs.length = js.length ∧ 0 ≤ a' ∧
    compP (gNm 3) (retF true) (callF (Gam G ds fuel (k + 2)) 24 (fCons (fVar 0) (fCons (fVar 1) fNil))) [some (.loc 0), some (.p (.lst l)), some (.p w2), none] js acc (Row ns a b c :: T) = some (acc ++ xs, Row ns a' b' c' :: T)
  | [], acc, a, b, c, ha => ⟨[], a, b, c, (fun x hx => by cases hx), rfl, ha, by simp [compP]⟩
  | j :: r, acc, a, b, c, ha => by
    obtain ⟨x, a1, b1, c1, hx, ha1, h⟩ := pick_ (fuel := fuel) (k := k) hT hn (b := b) (c := c) ha (w := .lst l) (.inl rfl) h0 h1
    obtain ⟨xs, a2, b2, c2, hxs, hl, ha2, h2⟩ := pick_row hT hn h0 h1 (w2 := w2) r (acc ++ [x]) a1 b1 c1 ha1
    refine ⟨x :: xs, a2, b2, c2, fun y hy => ?_, by simp [hl], ha2, ?_⟩
    · rcases List.mem_cons.mp hy with e | e
      · exact e ▸ hx
      · exact hxs y e
    · simp only [compP, gNm]
      array_mem_dec
      rw [h]
      array_mem_dec
      rw [h2, List.append_assoc]
      rfl
theorem some_ {T : List Ob} (hT : Sl T) {ns : List Int} (hn : ns.length ≤ 63) {a b c : Int} (ha : 0 ≤ a) {es : List Str} (h0 : 0 < es.length) (h1 : es.length < 100) {m : Int} (hm : 0 ≤ m) (hm2 : m ≤ 100) : ∃ ss a' b' c', (∀ z ∈ ss, z ∈ es) ∧ ascB ss = true ∧ (ss.length : Int) ≤ m ∧ 0 ≤ a' ∧ cl fuel (k + 3) 26 [.loc 0, .p (.lst (es.map .str)), .p (.int m)] (Row ns a b c :: T) = some (.ok (Tp ss), Row ns a' b' c' :: T) := by
  have hS : ∀ x y z, Sl (Row ns x y z :: T) := fun x y z => hT.cons
  obtain ⟨r, a1, b1, c1, r0, r1, ha1, h⟩ := taken_ (fuel := fuel) (k := k + 1) hT hn (b := b) (c := c) ha (m := m + 1) (by omega) (by omega)
  obtain ⟨xs, a2, b2, c2, hxs, hl, ha2, h2⟩ := pick_row (fuel := fuel) (k := k) hT hn (l := es.map .str) (by simpa using h0) (by rw [List.length_map]; omega) (w2 := .int m) (rngP 0 r.toNat) [] a1 b1 c1 ha1
  have hys : ∃ ys : List Str, xs = ys.map .str ∧ ∀ z ∈ ys, z ∈ es := by
    clear h2 hl
    induction xs with
    | nil => exact ⟨[], rfl, fun z hz => by cases hz⟩
    | cons x r ih =>
      obtain ⟨ys, e1, e2⟩ := ih fun y hy => hxs y (List.mem_cons_of_mem _ hy)
      obtain ⟨z, hz, e3⟩ := List.mem_map.mp (hxs x List.mem_cons_self)
      refine ⟨z :: ys, by rw [e1, ← e3]; rfl, fun u hu => ?_⟩
      rcases List.mem_cons.mp hu with e | e
      · exact e ▸ hz
      · exact e2 u e
  obtain ⟨ys, rfl, hy⟩ := hys
  have hyl : ys.length = r.toNat := by
    rw [List.length_map] at hl
    rw [hl]
    unfold rngP
    simp
  refine ⟨srt ys, a2, b2, c2, fun z hz => hy z (mem_srt.mp hz), srt_asc _, ?_, ha2, ?_⟩
  · have := srt_len ys
    omega
  rw [cl_def d__law_some rfl]
  simp only [d__law_some, N__law_some, s__law_some]
  array_mem_dec
  rw [h]
  array_mem_dec
  rw [kRng_ok (by omega) (by omega)]
  array_mem_dec
  rw [h2]
  array_mem_dec
  rw [setPy_strs _ _ (.inl rfl) (by omega)]
  array_mem_dec
  rw [sortedPy_set _ (by omega)]
  array_mem_dec
  exact endF_ret (hS _ _ _) _ _
end
end Wr.K00

set_option maxHeartbeats 4000000
namespace Wr
open PySem PySem.Spec PyProof.Rows L2
mutual
theorem dat_dm : ∀ {v : P}, dm v = true → dat v = true
  | .non, _ => rfl
  | .bl _, _ => rfl
  | .int _, _ => rfl
  | .str _, _ => rfl
  | .lst l, h => datL_dm (l := l) (by simpa [dm] using h)
  | .tup l, h => datL_dm (l := l) (by simpa [dm] using h)
  | .lsf _, h => by simp [dm] at h
  | .tpk _, h => by simp [dm] at h
  | .dK _, h => by simp [dm] at h
  | .dT _, h => by simp [dm] at h
  | .ins _ _, h => by simp [dm] at h
  | .fn _, h => by simp [dm] at h
  | .set _, h => by simp [dm] at h
theorem datL_dm : ∀ {l : List P}, dmL l = true → datL l = true
  | [], _ => rfl
  | x :: r, h => by
    simp only [dmL, Bool.and_eq_true] at h
    simp only [datL, dat_dm h.1, datL_dm h.2, Bool.and_self]
end
theorem datL_all : ∀ {l : List P}, datL l = true ↔ ∀ x ∈ l, dat x = true
  | [] => by simp [datL]
  | x :: r => by simp [datL, datL_all (l := r)]
theorem datL_of {l : List P} (h : ∀ x ∈ l, dm x = true) : datL l = true := datL_all.mpr fun x hx => dat_dm (h x hx)
theorem datL_strs (ss : List Str) : datL (ss.map .str) = true := datL_all.mpr fun x hx => by
  obtain ⟨z, _, rfl⟩ := List.mem_map.mp hx
  rfl
theorem depL_strs : ∀ ss : List Str, depL (ss.map .str) = 0
  | [] => rfl
  | x :: r => by simp [depL, dep, depL_strs r]
theorem eq_ok (l : List P) (h : datL l = true) : (dat (.lst l) && dat (.lst []) && decide (min (dep (.lst l)) (dep (.lst [])) ≤ 64)) = true := by
  have h1 : dat (.lst l) = true := h
  have h2 : dat (.lst []) = true := rfl
  have h3 : dep (.lst []) = 1 := rfl
  rw [h1, h2, h3, Bool.and_self, Bool.true_and]
  exact decide_eq_true (by omega)
theorem eqL_nil (l : List P) : eqP (.lst l) (.lst []) = l.isEmpty := by
  cases l <;> simp [eqP, eqL]
theorem eqF_nil {l : List P} (h : datL l = true) : eqF (.lst l) (.lst []) = some (.bl l.isEmpty) := by
  unfold eqF
  rw [eq_ok l h, if_pos rfl, eqL_nil]
theorem neF_nil {l : List P} (h : datL l = true) : neF (.lst l) (.lst []) = some (.bl (!l.isEmpty)) := by
  unfold neF
  rw [eq_ok l h, if_pos rfl, eqL_nil]
theorem eqL_strs : ∀ a b : List Str, eqL (a.map .str) (b.map .str) = decide (a = b)
  | [], [] => by simp [eqL]
  | [], _ :: _ => by simp [eqL]
  | _ :: _, [] => by simp [eqL]
  | x :: r, y :: t => by
    simp only [List.map_cons, eqL, eqL_strs r t, eqP]
    by_cases h : x = y <;> by_cases h2 : r = t <;> simp [h, h2]
theorem strs_ok (a b : List Str) : (dat (.lst (a.map .str)) && dat (.lst (b.map .str)) && decide (min (dep (.lst (a.map .str))) (dep (.lst (b.map .str))) ≤ 64)) = true := by
  have h1 : dat (.lst (a.map .str)) = true := datL_strs a
  have h2 : dat (.lst (b.map .str)) = true := datL_strs b
  have h3 : dep (.lst (a.map .str)) = 1 := by simp [dep, depL_strs]
  rw [h1, h2, h3, Bool.and_self, Bool.true_and]
  exact decide_eq_true (by omega)
theorem eqF_strs (a b : List Str) : eqF (.lst (a.map .str)) (.lst (b.map .str)) = some (.bl (decide (a = b))) := by
  unfold eqF
  rw [strs_ok, if_pos rfl]
  simp only [eqP, eqL_strs]
theorem neF_strs (a b : List Str) : neF (.lst (a.map .str)) (.lst (b.map .str)) = some (.bl (!decide (a = b))) := by
  unfold neF
  rw [strs_ok, if_pos rfl]
  simp only [eqP, eqL_strs]
theorem asc_dec (a : List Str) : decide (a = srt a) = ascB a := by
  cases h : ascB a with
  | true => exact decide_eq_true (srt_self h).symm
  | false =>
    rw [decide_eq_false_iff_not]
    intro e
    rw [e, srt_asc] at h
    cases h
theorem isi2_tl {v : P} (h : dm v = true) : isi2P Ty.tuple.nm Ty.list.nm v = some (.bl (isTup v || isLst v)) := by
  cases v <;> first | rfl | (exfalso; simp [dm] at h)
mutual
theorem eqP_self : ∀ {v : P}, dm v = true → eqP v v = true
  | .non, _ => rfl
  | .bl _, _ => by simp [eqP]
  | .int _, _ => by simp [eqP]
  | .str _, _ => by simp [eqP]
  | .lst l, h => by simp only [eqP]; exact eqL_self (l := l) (by simpa [dm] using h)
  | .tup l, h => by simp only [eqP]; exact eqL_self (l := l) (by simpa [dm] using h)
  | .lsf _, h => by simp [dm] at h
  | .tpk _, h => by simp [dm] at h
  | .dK _, h => by simp [dm] at h
  | .dT _, h => by simp [dm] at h
  | .ins _ _, h => by simp [dm] at h
  | .fn _, h => by simp [dm] at h
  | .set _, h => by simp [dm] at h
theorem eqL_self : ∀ {l : List P}, dmL l = true → eqL l l = true
  | [], _ => rfl
  | x :: r, h => by
    simp only [dmL, Bool.and_eq_true] at h
    simp only [eqL, eqP_self h.1, eqL_self h.2, Bool.and_self]
end
theorem eqF_self {v : P} (h : dm v = true) (hd : dep v ≤ 64) : eqF v v = some (.bl true) := by
  unfold eqF
  rw [dat_dm h, eqP_self h, Bool.and_self, Bool.true_and, Nat.min_self, if_pos (decide_eq_true hd)]
theorem neF_self {v : P} (h : dm v = true) (hd : dep v ≤ 64) : neF v v = some (.bl false) := by
  unfold neF
  rw [dat_dm h, eqP_self h, Bool.and_self, Bool.true_and, Nat.min_self, if_pos (decide_eq_true hd)]
  rfl
theorem eqF_bl (b : Bool) : eqF (.bl b) (.bl b) = some (.bl true) := eqF_self rfl (Nat.zero_le _)
theorem neF_bl (b : Bool) : neF (.bl b) (.bl b) = some (.bl false) := neF_self rfl (Nat.zero_le _)
theorem depL_mem : ∀ {l : List P} {x : P}, x ∈ l → dep x ≤ depL l
  | y :: r, x, h => by
    simp only [depL]
    rcases List.mem_cons.mp h with e | e
    · rw [e]; omega
    · have := depL_mem e; omega
theorem add_tp (a b : List Str) (h : a.length + b.length ≤ 16777216) : addP (Tp a) (Tp b) = some (Tp (a ++ b)) := by
  have : (a.map P.str).length + (b.map P.str).length ≤ sizeLine := by rw [sizeLine_eq, List.length_map, List.length_map]; exact h
  show ((none : Option P).or ((none : Option P).or ((none : Option P).or (catTup (Tp a) (Tp b))))) = _
  simp only [Option.none_or, catTup, this, if_true]
  rw [show Tp (a ++ b) = P.tup ((a ++ b).map P.str) from rfl, List.map_append]
theorem add_tup (a b : List P) (h : a.length + b.length ≤ 16777216) : addP (.tup a) (.tup b) = some (.tup (a ++ b)) := by
  have : a.length + b.length ≤ sizeLine := by rw [sizeLine_eq]; exact h
  show ((none : Option P).or ((none : Option P).or ((none : Option P).or (catTup (.tup a) (.tup b))))) = _
  simp only [Option.none_or, catTup, this, if_true]
theorem add_lst (a b : List P) (h : a.length + b.length ≤ 16777216) : addP (.lst a) (.lst b) = some (.lst (a ++ b)) := by
  have : a.length + b.length ≤ sizeLine := by rw [sizeLine_eq]; exact h
  show ((none : Option P).or ((none : Option P).or ((catLst (.lst a) (.lst b)).or (none : Option P)))) = _
  simp only [Option.none_or, catLst, this, if_true, Option.some_or]
theorem add_ls (a b : List Str) (h : a.length + b.length ≤ 16777216) : addP (.lst (a.map .str)) (.lst (b.map .str)) = some (.lst ((a ++ b).map .str)) := by
  rw [add_lst _ _ (by simpa using h), List.map_append]
theorem fil_emp {α β : Type} (p : α → Bool) (f : α → β) (l : List α) : ((l.filter p).map f).isEmpty = l.all fun z => !p z := by
  induction l with
  | nil => rfl
  | cons x r ih =>
    rw [List.filter_cons, List.all_cons, ← ih]
    cases p x <;> simp
def optT : Option (List Str) → P
  | none => .non
  | some s => Tp s
def goP (x : P) (s : List Str) : Option (List Str) := if canB x s = true then some (behind x s) else none
def walk1 (l : List P) (o : Option (List Str)) (v : P) : Option (List Str) := match o, l.find? (isName · v) with
  | some s, some x => goP x s
  | _, _ => none
def strEq (m : Str) : P → Bool
  | .str n => m == n
  | _ => false
theorem eqF_strany {m : Str} {v : P} (h : dm v = true) : eqF (.str m) v = some (.bl (strEq m v)) := by
  unfold eqF
  rw [dat_dm h]
  have h1 : dat (.str m) = true := rfl
  have h2 : dep (.str m) = 0 := rfl
  rw [h1, h2, Bool.and_self, Bool.true_and, Nat.zero_min, if_pos (by decide)]
  cases v <;> first | rfl | (exfalso; simp [dm] at h)
end Wr
namespace Wr.K00
open PySem PySem.Spec PyProof.Rows L2 Wr
local macro_rules
  | `(tactic| array_mem_dec) => `(tactic| simp (config := { failIfUnchanged := false, implicitDefEqProofs := false }) only [evSs, evS, evE, evEs, evAnd, evOr, evT, evAndT, evOrT, evI, evO, evTg, evBF, evBN, evBO, evCO, evCs, q_seqS, q_skip, q_fRet, q_fRetN, q_fIfS, q_bindS, q_bindF, q_ret, q_fVar, q_fC, q_fOne, q_fNot, q_fAnd, q_fOr, q_fIf, q_fTru, q_asB, q_fAndT, q_fOrT, q_fNotT, q_f2, q_fChain, q_fB, q_fBn, q_fCons, q_fNil, q_fTup, q_fLst, q_fSl, q_fRev, q_fPart, q_fLc, q_fLcN, q_fItems, q_fZip, q_rng, q_fEnum, q_fFor, q_fAsg, q_fPar, q_fRaise0, q_fRaise1, q_fSetI, q_dropS, q_fStar, q_glb, q_call,
  kB_ok, kB_exc, kB_ite, kA_bl, kO_bl, m_and, m_or, kN_bl, kO1_some, kV_p, kT_bl, m_andT, m_orT, kC2_bl, kL_p1, kNw_f, kNw_t, kSl_tup, kSl_lst, kC_f, kC_t, kS_ok, kS_exc, kS_ite, kQ_nx, kQ_ret, kQ_exc, kQ_ite, endF_ite, kR_ok, kR_exc, kR_ite, kP, allP, newL, gNm, gTupN, gNms, view_p, itemsOf_lst, itemsOf_tup, itemsOf_lsf, asL_lst, asL_lsf, asL_tup, asT_lst, asT_tup, truP_bl, vals,
  List.getElem?_cons_zero, List.getElem?_cons_succ, List.map_cons, List.map_nil, List.cons_append, List.nil_append, List.length_cons, List.length_nil, List.set_cons_zero, List.set_cons_succ, List.replicate_succ, List.replicate_zero, wipeV, Option.map_some, Option.map_none, if_true, if_false, Bool.false_eq_true, reduceCtorEq, Nat.reduceAdd, Nat.reduceSub, Nat.reduceLT, Nat.reduceLeDiff, Bool.not_true, Bool.not_false, Bool.and_true, Bool.true_and, Bool.and_false, Bool.false_and, Bool.or_true, Bool.true_or, Bool.or_false, Bool.false_or,
  kV_0, ix40, ix41, ix42, ix43, st41, st42, st43, add_int, sub_int, mul_int, mod_g, div_7, pow_18, int_int, cmpI, len_lst, len_tup, list_tup, list_lst, tup_lst, ix30, ix31, ix32, ix60, ix61, ix62, ix63, ix64, ix65])
section
variable {fuel k : Nat} {S : List Ob}
theorem alike_flat (hS : Sl S) {v : P} (hv : dm v = true) (hf : dep v = 0) : cl fuel (k + 1) 25 [.p v, .p v] S = some (.ok (.bl true), S) := by
  rw [cl_def d__law_alike rfl]
  simp only [d__law_alike, N__law_alike, s__law_alike]
  have hd : dep v ≤ 64 := by omega
  array_mem_dec
  rw [isi2_tl hv]
  cases v <;> first | (exfalso; simp [dm] at hv; done) | (exfalso; simp [dep] at hf; done) | skip
  all_goals
    simp only [isTup, isLst]
    array_mem_dec
    simp only [isF_none, isN, isi_str hv, isi_int hv, isi_bool hv, isStr, isInt, isBl, eqF_self hv hd, eqF_bl]
    array_mem_dec
    try simp only [isF_none, isN, isi_str hv, isi_int hv, isi_bool hv, isStr, isInt, isBl, eqF_self hv hd, eqF_bl]
    array_mem_dec
    exact endF_ret hS _ _
theorem alike_ (hS : Sl S) : ∀ (n k : Nat) (v : P), dm v = true → dep v ≤ n → wt v ≤ 1000000 → cl fuel (k + n + 1) 25 [.p v, .p v] S = some (.ok (.bl true), S) := by
  intro n
  induction n with
  | zero => intro k v hv hd hw; exact alike_flat hS hv (by omega)
  | succ n ih =>
    intro k v hv hd hw
    by_cases h0 : dep v = 0
    · exact alike_flat hS hv h0
    have e : k + (n + 1) + 1 = (k + n + 1) + 1 := by omega
    rw [e, cl_def d__law_alike rfl]
    simp only [d__law_alike, N__law_alike, s__law_alike]
    array_mem_dec
    rw [isi2_tl hv]
    cases v <;> first | (exfalso; simp [dm] at hv; done) | (exfalso; simp [dep] at h0; done) | skip
    all_goals
      rename_i l
      have hdl : ∀ x ∈ l, dm x = true := dmL_all.mp (by simpa [dm] using hv)
      have hln : l.length ≤ 1000000 := by
        have := wtL_len l
        simp only [wt] at hw
        omega
      simp only [isTup, isLst]
      array_mem_dec
      rw [isi_lst hv]
      simp only [isTup, isLst]
      array_mem_dec
      rw [neF_bl]
      array_mem_dec
      rw [neF_int]
      simp only [decide_true]
      array_mem_dec
      rw [kRng_ok (by omega) (by omega)]
      array_mem_dec
      unfold rngP
      rw [compP_map (t := fun _ => false) (e := fun _ => .non) (List.range (l.length : Int).toNat) [] (fun j hj => ⟨_, rfl, by
        have hj' : j < l.length := by simpa using hj
        obtain ⟨x, hx, ex⟩ := at_nat (l := l) (r := 0 + (j : Int)) (by omega) (by omega)
        have hxw : wt x ≤ 1000000 := by
          have := wtL_mem hx
          simp only [wt] at hw
          omega
        have hxd : dep x ≤ n := by
          have := depL_mem hx
          simp only [dep] at hd
          omega
        have e1 : ixP (.lst l) (.int (0 + (j : Int))) = some x := ex
        have e2 : ixP (.tup l) (.int (0 + (j : Int))) = some x := ex
        array_mem_dec
        first | rw [e1] | rw [e2]
        array_mem_dec
        rw [ih k x (hdl x hx) hxd hxw]
        array_mem_dec, fun z => nomatch z⟩)]
      have ef : (List.range (l.length : Int).toNat).filter (fun _ => false) = [] := List.filter_eq_nil_iff.mpr fun _ _ => by simp
      rw [ef]
      array_mem_dec
      rw [eqF_nil rfl]
      exact endF_ret hS _ _
abbrev bLF : Ss := (.cons (.asg (.nm 1) (.bin .add (.var 1) (.bn false .list (.cons (.bin .add (.bin .add (.bin .add (.ix (.var 2) (.int 1)) (.ix (.var 2) (.int 2))) (.ix (.var 2) (.int 3))) (.ix (.var 2) (.int 4))) .nil)))) .nil)
theorem lf_for (hS : Sl S) (v : P) : ∀ (l : List P) (acc : List Str) (o : Option Wv), l.all deedB = true → acc.length + (toldP l).length ≤ 4000 → ∃ o', forS (gNm 2) (evSs G (Gam G ds fuel k) fuel bLF) l [some (.p v), some (.p (.lst (acc.map .str))), o] S = some (.go .nx [some (.p v), some (.p (.lst ((acc ++ toldP l).map .str))), o'], S)
  | [], acc, o, _, _ => ⟨o, by simp [forS, toldP, q_skip]⟩
  | x :: r, acc, o, h, hl => by
    simp only [List.all_cons, Bool.and_eq_true] at h
    obtain ⟨n, a, b, c, d, q, D⟩ := deed_tp h.1
    have et : toldP (x :: r) = toldD x ++ toldP r := rfl
    rw [et, List.length_append, D.told, List.length_append, List.length_append, List.length_append] at hl
    obtain ⟨o', ih⟩ := lf_for hS v r (acc ++ toldD x) (some (.p x)) h.2 (by rw [List.length_append, D.told, List.length_append, List.length_append, List.length_append]; omega)
    refine ⟨o', ?_⟩
    have hf : evSs G (Gam G ds fuel k) fuel bLF [some (.p v), some (.p (.lst (acc.map .str))), some (.p x)] S = some (.go .nx [some (.p v), some (.p (.lst ((acc ++ toldD x).map .str))), some (.p x)], S) := by
      rw [D.told, D.eq]
      array_mem_dec
      rw [add_tp _ _ (by omega)]
      array_mem_dec
      rw [add_tp _ _ (by rw [List.length_append]; omega)]
      array_mem_dec
      rw [add_tp _ _ (by rw [List.length_append, List.length_append]; omega)]
      array_mem_dec
      rw [add_ls _ _ (by rw [List.length_append, List.length_append, List.length_append]; omega)]
      array_mem_dec
      simp only [List.append_assoc]
    rw [forS_nx rfl hf, ih, et, List.append_assoc]
theorem law_facts_ (hS : Sl S) {l : List P} {b w : P} (hl : l.all deedB = true) (hb : factsB b = true) (hw : factsB w = true) (hz : wtL l + wt b + wt w ≤ 4000) : cl fuel (k + 1) 28 [.p (.tup [.tup l, b, w])] S = some (.ok (.lst ((factsP l b w).map .str)), S) := by
  obtain ⟨be, rfl⟩ : ∃ be, b = Tp be := ⟨_, (facts_tp hb).1⟩
  obtain ⟨wi, rfl⟩ : ∃ wi, w = Tp wi := ⟨_, (facts_tp hw).1⟩
  have hlen := toldP_wt hl
  have lb := strT_wt (Tp be)
  have lw := strT_wt (Tp wi)
  rw [strL_map'] at lb lw
  rw [cl_def d__law_facts rfl]
  simp only [d__law_facts, N__law_facts, s__law_facts]
  array_mem_dec
  rw [add_tp _ _ (by omega)]
  array_mem_dec
  obtain ⟨o', h⟩ := lf_for (fuel := fuel) (k := k) hS (.tup [.tup l, Tp be, Tp wi]) l (be ++ wi) none hl (by rw [List.length_append]; omega)
  show endF S.length (kQ (forS (gNm 2) (evSs G (Gam G ds fuel k) fuel bLF) l _ S) _) = _
  rw [h]
  array_mem_dec
  rw [setPy_strs _ _ (.inl rfl) (by simp only [List.length_append]; omega)]
  array_mem_dec
  rw [sortedPy_set _ (by simp only [List.length_append]; omega)]
  array_mem_dec
  have ef : factsP l (Tp be) (Tp wi) = srt (be ++ wi ++ toldP l) := by
    unfold factsP
    rw [strL_map', strL_map']
    exact srt_congr fun z => by simp only [List.mem_append]; constructor <;> rintro (h | h) <;> simp [h]
  rw [ef]
  exact endF_ret hS _ _
theorem holds_ (hS : Sl S) (ts ws : List Str) : cl fuel (k + 1) 29 [.p (Tp ts), .p (Tp ws)] S = some (.ok (.bl (ws.all fun z => decide (z ∈ ts))), S) := by
  rw [cl_def d__law_holds rfl]
  simp only [d__law_holds, N__law_holds, s__law_holds]
  array_mem_dec
  rw [compP_map (i := P.str) (t := fun z => !decide (z ∈ ts)) (e := P.str) ws [] (fun z hz => ⟨_, rfl, by
    array_mem_dec
    rw [inF_strs true z ts (Tp ts) (.inr rfl)]
    simp only [Option.some_or, if_true]
    array_mem_dec, fun _ => rfl⟩)]
  array_mem_dec
  rw [eqF_nil (datL_strs _), fil_emp]
  simp only [Bool.not_not]
  exact endF_ret hS _ _
theorem go_ (hS : Sl S) {x : P} (hx : deedB x = true) (s : List Str) (hs : s.length + wt x ≤ 4000) : cl fuel (k + 2) 30 [.p (Tp s), .p x] S = some (.ok (optT (goP x s)), S) := by
  obtain ⟨n, a, b, c, d, q, D⟩ := deed_tp hx
  have hc : c.length ≤ wt x := by
    rw [D.eq]
    have := strT_wt (Tp c)
    rw [strL_map'] at this
    simp only [wt, wtL] at this ⊢
    omega
  unfold goP canB behind
  rw [D.f1, D.f2, D.f3, D.f4, D.eq]
  rw [cl_def d__law_go rfl]
  simp only [d__law_go, N__law_go, s__law_go]
  array_mem_dec
  rw [holds_ hS]
  array_mem_dec
  cases h1 : (a.all fun z => decide (z ∈ s)) with
  | false =>
    array_mem_dec
    exact endF_ret hS _ _
  | true =>
    array_mem_dec
    rw [compP_map (i := P.str) (t := fun z => decide (z ∈ s)) (e := P.str) b [] (fun z hz => ⟨_, rfl, by
      array_mem_dec
      rw [inF_strs false z s (Tp s) (.inr rfl)]
      simp only [Option.some_or]
      array_mem_dec, fun _ => rfl⟩)]
    array_mem_dec
    rw [neF_nil (datL_strs _), fil_emp]
    have em : (!b.all fun z => !decide (z ∈ s)) = meet b s := by
      unfold meet
      rw [List.not_all_eq_any_not]
      simp only [Bool.not_not]
    rw [em]
    cases h2 : meet b s with
    | true =>
      array_mem_dec
      exact endF_ret hS _ _
    | false =>
      array_mem_dec
      rw [compP_map (i := P.str) (t := fun z => !decide (z ∈ d)) (e := P.str) s [] (fun z hz => ⟨_, rfl, by
        array_mem_dec
        rw [inF_strs true z d (Tp d) (.inr rfl)]
        simp only [Option.some_or, if_true]
        array_mem_dec, fun _ => rfl⟩)]
      array_mem_dec
      have e3 : (s.filter (fun z => !decide (z ∈ d))).length + c.length ≤ 4000 := by
        have := List.length_filter_le (fun z => !decide (z ∈ d)) s
        omega
      rw [add_ls _ _ (by omega)]
      array_mem_dec
      rw [setPy_strs _ _ (.inl rfl) (by rw [List.length_append]; omega)]
      array_mem_dec
      rw [sortedPy_set _ (by rw [List.length_append]; omega)]
      array_mem_dec
      exact endF_ret hS _ _
end
end Wr.K00

set_option maxHeartbeats 4000000
namespace Wr
open PySem PySem.Spec PyProof.Rows L2
theorem fil_all {l : List P} (p : P → Bool) : (l.filter fun x => !p x).isEmpty = l.all p := by
  have := fil_emp (fun x => !p x) (fun x : P => x) l
  simpa using this
theorem dm_strT {v : P} (h : factsB v = true) (hw : wt v ≤ 4000) : (strT v).length ≤ 4000 := Nat.le_trans (strT_wt v) hw
theorem at_zero (x : P) (r : List P) : ixP (.lst (x :: r)) (.int 0) = some x := by
  unfold ixP
  simp only [asL]
  unfold L2.atI L2.ixN
  rw [if_pos (by decide), if_pos (by simp only [List.length_cons]; omega)]
  rfl
end Wr
namespace Wr.K00
open PySem PySem.Spec PyProof.Rows L2 Wr
local macro_rules
  | `(tactic| array_mem_dec) => `(tactic| simp (config := { failIfUnchanged := false, implicitDefEqProofs := false }) only [evSs, evS, evE, evEs, evAnd, evOr, evT, evAndT, evOrT, evI, evO, evTg, evBF, evBN, evBO, evCO, evCs, q_seqS, q_skip, q_fRet, q_fRetN, q_fIfS, q_bindS, q_bindF, q_ret, q_fVar, q_fC, q_fOne, q_fNot, q_fAnd, q_fOr, q_fIf, q_fTru, q_asB, q_fAndT, q_fOrT, q_fNotT, q_f2, q_fChain, q_fB, q_fBn, q_fCons, q_fNil, q_fTup, q_fLst, q_fSl, q_fRev, q_fPart, q_fLc, q_fLcN, q_fItems, q_fZip, q_rng, q_fEnum, q_fFor, q_fAsg, q_fPar, q_fRaise0, q_fRaise1, q_fSetI, q_dropS, q_fStar, q_glb, q_call,
  kB_ok, kB_exc, kB_ite, kA_bl, kO_bl, m_and, m_or, kN_bl, kO1_some, kV_p, kT_bl, m_andT, m_orT, kC2_bl, kL_p1, kNw_f, kNw_t, kSl_tup, kSl_lst, kC_f, kC_t, kS_ok, kS_exc, kS_ite, kQ_nx, kQ_ret, kQ_exc, kQ_ite, endF_ite, kR_ok, kR_exc, kR_ite, kP, allP, newL, gNm, gTupN, gNms, view_p, itemsOf_lst, itemsOf_tup, itemsOf_lsf, asL_lst, asL_lsf, asL_tup, asT_lst, asT_tup, truP_bl, vals,
  List.getElem?_cons_zero, List.getElem?_cons_succ, List.map_cons, List.map_nil, List.cons_append, List.nil_append, List.length_cons, List.length_nil, List.set_cons_zero, List.set_cons_succ, List.replicate_succ, List.replicate_zero, wipeV, Option.map_some, Option.map_none, if_true, if_false, Bool.false_eq_true, reduceCtorEq, Nat.reduceAdd, Nat.reduceSub, Nat.reduceLT, Nat.reduceLeDiff, Bool.not_true, Bool.not_false, Bool.and_true, Bool.true_and, Bool.and_false, Bool.false_and, Bool.or_true, Bool.true_or, Bool.or_false, Bool.false_or,
  kV_0, ix40, ix41, ix42, ix43, st41, st42, st43, add_int, sub_int, mul_int, mod_g, div_7, pow_18, int_int, cmpI, len_lst, len_tup, list_tup, list_lst, tup_lst, ix30, ix31, ix32, ix60, ix61, ix62, ix63, ix64, ix65])
section
variable {fuel k : Nat} {S : List Ob}
theorem find_fil {α : Type} (p : α → Bool) : ∀ l : List α, l.find? p = (l.filter p).head?
  | [] => rfl
  | x :: r => by
    rw [List.find?_cons, List.filter_cons]
    cases p x with
    | true => rfl
    | false => simpa using find_fil p r
abbrev bWalk : Ss := (.cons (.asg (.nm 4) (.lc false [("deed", 5)] (.nm 5) (.seq (.ix (.var 0) (.int 0))) (.cmp .eq (.ix (.var 5) (.int 0)) (.var 3)) (.var 5)))
  (.cons (.asg (.nm 1) (.ite (.and (.cons (.cmp .ne (.var 4) (.lst false .nil)) (.cons (.cmp .isnot (.var 1) .non) .nil))) (.call 30 (.cons (.var 1) (.cons (.ix (.var 4) (.int 0)) .nil))) .non))
  .nil))
/-- states short enough -/
def Sm (o : Option (List Str)) : Prop := ∀ s, o = some s → s.length ≤ 10
theorem walk_for (hS : Sl S) {l : List P} {be wi : List Str} (t : Tsk l be wi) (nm : P) : ∀ (vs : List P) (o : Option (List Str)) (o3 o4 o5 : Option Wv), (∀ v ∈ vs, dm v = true) → (∀ s, o = some s → Ste l be wi s) → ∃ o3' o4' o5',
    forS (gNm 3) (evSs G (Gam G ds fuel (k + 2)) fuel bWalk) vs [some (.p (.tup [.tup l, Tp be, Tp wi])), some (.p (optT o)), some (.p nm), o3, o4, o5] S = some (.go .nx [some (.p (.tup [.tup l, Tp be, Tp wi])), some (.p (optT (vs.foldl (walk1 l) o))), some (.p nm), o3', o4', o5'], S) ∧ (∀ s, vs.foldl (walk1 l) o = some s → Ste l be wi s)
  | [], o, o3, o4, o5, _, hs => ⟨o3, o4, o5, rfl, hs⟩
  | v :: r, o, o3, o4, o5, hd, hs => by
    have hdv := hd v List.mem_cons_self
    have hwt : ∀ x ∈ l, wt x ≤ 2000 := fun x hx => (t.deed hx).2
    have hst : ∀ s, walk1 l o v = some s → Ste l be wi s := by
      intro s h
      unfold walk1 at h
      split at h
      · rename_i s0 x hx
        unfold goP at h
        split at h
        · cases h
          exact ste_behind t (hs s0 rfl) (find_mem hx).1
        · cases h
      · cases h
    obtain ⟨o3', o4', o5', ih, ih2⟩ := walk_for hS t nm r (walk1 l o v) (some (.p v)) (some (.p (.lst (l.filter (isName · v))))) o5 (fun u hu => hd u (List.mem_cons_of_mem _ hu)) hst
    refine ⟨o3', o4', o5', ?_, ih2⟩
    have hf : evSs G (Gam G ds fuel (k + 2)) fuel bWalk [some (.p (.tup [.tup l, Tp be, Tp wi])), some (.p (optT o)), some (.p nm), some (.p v), o4, o5] S = some (.go .nx [some (.p (.tup [.tup l, Tp be, Tp wi])), some (.p (optT (walk1 l o v))), some (.p nm), some (.p v), some (.p (.lst (l.filter (isName · v)))), o5], S) := by
      array_mem_dec
      rw [compP_pure (t := fun x => isName x v) (e := fun x => x) l [] (fun x hx => ⟨_, rfl, by
        obtain ⟨n, a, b, c, d, q, D⟩ := deed_tp (t.deed hx).1
        have hn : isName x v = strEq n v := by
          unfold isName strEq
          rw [D.name]
          all_goals cases v <;> rfl
        rw [hn]
        array_mem_dec
        rw [D.eq, ix60]
        array_mem_dec
        rw [eqF_strany hdv]
        array_mem_dec, fun _ => rfl⟩)]
      array_mem_dec
      have hdf : datL ((l.filter fun x => isName x v).map fun x => x) = true := by
        rw [List.map_id']
        refine datL_of fun x hx => ?_
        have := dm_of (l := [.tup l, Tp be, Tp wi]) t.dm (.tup l) (by simp)
        exact dm_of this x (List.mem_filter.mp hx).1
      rw [neF_nil hdf, List.map_id']
      array_mem_dec
      have hff : l.find? (fun x => isName x v) = (l.filter fun x => isName x v).head? := find_fil _ l
      cases hq : l.filter (fun x => isName x v) with
      | nil =>
        have hw : walk1 l o v = none := by
          unfold walk1
          rw [hff, hq]
          cases o <;> rfl
        rw [hw]
        simp only [List.isEmpty_nil]
        array_mem_dec
        rfl
      | cons x r' =>
        simp only [List.isEmpty_cons]
        array_mem_dec
        have hx : x ∈ l := by
          have : x ∈ l.filter (fun x => isName x v) := by rw [hq]; exact List.mem_cons_self
          exact (List.mem_filter.mp this).1
        cases o with
        | none =>
          simp only [optT, isF_not, isN]
          array_mem_dec
          rfl
        | some s =>
          have hl := (hs s rfl).len t
          simp only [optT, isF_not, isN]
          array_mem_dec
          rw [at_zero]
          array_mem_dec
          rw [go_ hS (t.deed hx).1 s (by have := hwt x hx; omega)]
          array_mem_dec
          have hw : walk1 l (some s) v = goP x s := by
            unfold walk1
            rw [hff, hq]
            rfl
          rw [hw]
          rfl
    have ef : (v :: r).foldl (walk1 l) o = r.foldl (walk1 l) (walk1 l o v) := rfl
    rw [ef, forS_nx rfl hf, ih]
theorem walk_ (hS : Sl S) {l : List P} {be wi : List Str} (t : Tsk l be wi) {vs : List P} (hv : ∀ v ∈ vs, dm v = true) {s : List Str} (hs : Ste l be wi s) : cl fuel (k + 3) 32 [.p (.tup [.tup l, Tp be, Tp wi]), .p (Tp s), .p (.tup vs)] S = some (.ok (optT (vs.foldl (walk1 l) (some s))), S) := by
  rw [cl_def d__law_walk rfl]
  simp only [d__law_walk, N__law_walk, s__law_walk]
  array_mem_dec
  obtain ⟨o3, o4, o5, h, _⟩ := walk_for (fuel := fuel) (k := k) hS t (.tup vs) vs (some s) none none none hv (fun s' e => by cases e; exact hs)
  show endF S.length (kQ (forS (gNm 3) (evSs G (Gam G ds fuel (k + 2)) fuel bWalk) vs [_, some (.p (optT (some s))), _, _, _, _] S) _) = _
  rw [h]
  array_mem_dec
  exact endF_ret hS _ _
theorem is_part_ (hS : Sl S) {v : P} (hv : dm v = true) (hw : wt v ≤ 4000) : cl fuel (k + 1) 34 [.p v] S = some (.ok (.bl (factsB v)), S) := by
  rw [cl_def d__law_is_part rfl]
  simp only [d__law_is_part, N__law_is_part, s__law_is_part]
  array_mem_dec
  simp only [isi_tup hv]
  array_mem_dec
  cases v <;> first | (exfalso; simp [dm] at hv; done) | (simp only [isTup, factsB]; array_mem_dec; first | exact endF_ret hS _ _ | skip)
  rename_i l
  rw [compP_pure (t := fun x => !signB x) (e := fun x => x) l [] (fun x hx => ⟨_, rfl, by
    have hx' := dm_of hv x hx
    array_mem_dec
    rw [isi_str hx']
    cases x <;> first | (exfalso; simp [dm] at hx'; done) | (simp only [isStr, signB]; array_mem_dec; done) | skip
    rename_i z
    have hz : z.length ≤ sizeLine := by rw [sizeLine_eq]; simpa [dm] using hx'
    have e1 : decide ((1 : Int) ≤ ((z.length : Nat) : Int)) = decide (1 ≤ z.length) := by
      apply decide_eq_decide.mpr; omega
    have e2 : decide (((z.length : Nat) : Int) ≤ 40) = decide (z.length ≤ 40) := by
      apply decide_eq_decide.mpr; omega
    simp only [isStr, signB]
    array_mem_dec
    simp only [lenP, hz, if_true]
    array_mem_dec
    rw [e1, e2], fun _ => by array_mem_dec⟩)]
  array_mem_dec
  rw [List.map_id', neF_nil (datL_of fun x hx => dm_of hv x (List.mem_filter.mp hx).1), fil_all]
  cases hl : l.all signB with
  | false =>
    array_mem_dec
    exact endF_ret hS _ _
  | true =>
    array_mem_dec
    have hle : l.length ≤ 4000 := by
      have := wtL_len l
      simp only [wt] at hw
      omega
    have hsl := strL_len l
    array_mem_dec
    rw [setPy_strs (strL l) (.tup l) (.inr (congrArg P.tup (signs_str hl))) (by omega)]
    array_mem_dec
    rw [sortedPy_set _ (by omega)]
    array_mem_dec
    have e : eqF (.lst l) (.lst ((srt (strL l)).map .str)) = some (.bl (ascB (strL l))) := by
      rw [signs_str hl, strL_map, eqF_strs, asc_dec]
    rw [e]
    array_mem_dec
    exact endF_ret hS _ _
end
end Wr.K00

set_option maxHeartbeats 4000000
namespace Wr
open PySem PySem.Spec PyProof.Rows L2
def kTd (h : HF) (x : Rw1) : Rw1 := match x with
  | none => none
  | some (.ok a, S1) => some (.ok a, S1)
  | some (.exc c fs, S1) => (h c fs S1).map fun q => (.ok q.1, q.2)
theorem q_fTold (h : HF) (f : F Wv) (ρ : Vars) (S : List Ob) : fTold h f ρ S = kTd h (f ρ S) := by
  unfold fTold kTd
  cases f ρ S with
  | none => rfl
  | some q =>
    obtain ⟨r, S1⟩ := q
    cases r <;> rfl
theorem kTd_ok (h : HF) (a : Wv) (S : List Ob) : kTd h (some (.ok a, S)) = some (.ok a, S) := rfl
theorem kTd_exc (h : HF) (c : Str) (fs : List (Str × P)) (S : List Ob) : kTd h (some (.exc c fs, S)) = (h c fs S).map fun q => (.ok q.1, q.2) := rfl
abbrev badP (x : Str) : P := .tup [.str "bad", .str x]
end Wr
namespace Wr.K00
open PySem PySem.Spec PyProof.Rows L2 Wr
local macro_rules
  | `(tactic| array_mem_dec) => `(tactic| simp (config := { failIfUnchanged := false, implicitDefEqProofs := false }) only [evSs, evS, evE, evEs, evAnd, evOr, evT, evAndT, evOrT, evI, evO, evTg, evBF, evBN, evBO, evCO, evCs, q_seqS, q_skip, q_fRet, q_fRetN, q_fIfS, q_bindS, q_bindF, q_ret, q_fVar, q_fC, q_fOne, q_fNot, q_fAnd, q_fOr, q_fIf, q_fTru, q_asB, q_fAndT, q_fOrT, q_fNotT, q_f2, q_fChain, q_fB, q_fBn, q_fCons, q_fNil, q_fTup, q_fLst, q_fSl, q_fRev, q_fPart, q_fLc, q_fLcN, q_fItems, q_fZip, q_rng, q_fEnum, q_fFor, q_fAsg, q_fPar, q_fRaise0, q_fRaise1, q_fSetI, q_dropS, q_fStar, q_glb, q_call,
  kB_ok, kB_exc, kB_ite, kA_bl, kO_bl, m_and, m_or, kN_bl, kO1_some, kV_p, kT_bl, m_andT, m_orT, kC2_bl, kL_p1, kNw_f, kNw_t, kSl_tup, kSl_lst, kC_f, kC_t, kS_ok, kS_exc, kS_ite, kQ_nx, kQ_ret, kQ_exc, kQ_ite, endF_ite, kR_ok, kR_exc, kR_ite, kP, allP, newL, gNm, gTupN, gNms, view_p, itemsOf_lst, itemsOf_tup, itemsOf_lsf, asL_lst, asL_lsf, asL_tup, asT_lst, asT_tup, truP_bl, vals,
  List.getElem?_cons_zero, List.getElem?_cons_succ, List.map_cons, List.map_nil, List.cons_append, List.nil_append, List.length_cons, List.length_nil, List.set_cons_zero, List.set_cons_succ, List.replicate_succ, List.replicate_zero, wipeV, Option.map_some, Option.map_none, if_true, if_false, Bool.false_eq_true, reduceCtorEq, Nat.reduceAdd, Nat.reduceSub, Nat.reduceLT, Nat.reduceLeDiff, Bool.not_true, Bool.not_false, Bool.and_true, Bool.true_and, Bool.and_false, Bool.false_and, Bool.or_true, Bool.true_or, Bool.or_false, Bool.false_or,
  kV_0, ix40, ix41, ix42, ix43, st41, st42, st43, add_int, sub_int, mul_int, mod_g, div_7, pow_18, int_int, cmpI, len_lst, len_tup, list_tup, list_lst, tup_lst, ix30, ix31, ix32, ix60, ix61, ix62, ix63, ix64, ix65])
section
variable {fuel k : Nat} {S : List Ob}
theorem G_told0 : G.tolds[0]? = some (("_law_told" : Str), 2, th__law_told) := rfl
theorem hf_task (w : Str) (S : List Ob) : hfOf G.exm 2 th__law_told "BadTask" [("word", .str w)] S = some (.p (badP w), S) := by
  have e1 : G.exm.lookup (("BadTask", "BadTask") : Str × Str) = some true := by decide +kernel
  have e2 : PySem.PyData.strOk ("bad" : Str) = true := by decide +kernel
  have e3 : (("BadTask" : Str) == "BadTask") = true := by decide +kernel
  have e4 : List.lookup ("word" : Str) [(("word" : Str), P.str w)] = some (.str w) := by simp [List.lookup]
  simp only [hfOf, th__law_told, runH, e1, slotOk, List.replicate_succ, List.replicate_zero, List.length_cons, List.length_nil, Nat.zero_add, Nat.reduceAdd, Nat.reduceLT, decide_true, if_true, evH, conP, e2, e3, e4, Option.map_some]
theorem hf_state (S : List Ob) : hfOf G.exm 2 th__law_told "BadState" [] S = some (.p (badP "state"), S) := by
  have e1 : G.exm.lookup (("BadState", "BadTask") : Str × Str) = some false := by decide +kernel
  have e5 : G.exm.lookup (("BadState", "BadDeed") : Str × Str) = some false := by decide +kernel
  have e6 : G.exm.lookup (("BadState", "BadState") : Str × Str) = some true := by decide +kernel
  have e2 : PySem.PyData.strOk ("bad" : Str) = true := by decide +kernel
  have e3 : PySem.PyData.strOk ("state" : Str) = true := by decide +kernel
  simp only [hfOf, th__law_told, runH, e1, e5, e6, slotOk, List.replicate_succ, List.replicate_zero, List.length_cons, List.length_nil, Nat.zero_add, Nat.reduceAdd, Nat.reduceLT, decide_true, if_true, evH, conP, e2, e3, Option.map_some]
/-- what a wrong deed is told with -/
def ixT (p : P) : Option P := match (strP1 p).bind lowP with
  | some x => catStr (.str "deed") x
  | none => none
theorem hf_deed (p z : P) (h : ixT p = some z) (S : List Ob) : hfOf G.exm 2 th__law_told "BadDeed" [("index", p)] S = some (.p (.tup [.str "bad", z]), S) := by
  have e1 : G.exm.lookup (("BadDeed", "BadTask") : Str × Str) = some false := by decide +kernel
  have e5 : G.exm.lookup (("BadDeed", "BadDeed") : Str × Str) = some true := by decide +kernel
  have e2 : PySem.PyData.strOk ("bad" : Str) = true := by decide +kernel
  have e6 : PySem.PyData.strOk ("deed" : Str) = true := by decide +kernel
  have e3 : (("BadDeed" : Str) == "BadDeed") = true := by decide +kernel
  have e4 : List.lookup ("index" : Str) [(("index" : Str), p)] = some p := by simp [List.lookup]
  have e7 : ∃ x, (strP1 p).bind lowP = some x ∧ catStr (.str "deed") x = some z := by
    unfold ixT at h
    split at h
    · rename_i x hx
      exact ⟨x, hx, h⟩
    · cases h
  obtain ⟨x, e8, e9⟩ := e7
  simp only [hfOf, th__law_told, runH, e1, e5, slotOk, List.replicate_succ, List.replicate_zero, List.length_cons, List.length_nil, Nat.zero_add, Nat.reduceAdd, Nat.reduceLT, decide_true, if_true, evH, conP, e2, e6, e3, e4, e8, e9, Option.map_some]
def isT (o : Option P) (x : Str) : Bool := match o with
  | some (.str y) => y == x
  | _ => false
theorem isT_eq {o : Option P} {x : Str} (h : isT o x = true) : o = some (.str x) := by
  unfold isT at h
  split at h
  · rw [eq_of_beq h]
  · cases h
theorem ixT_non : ixT .non = some (.str "deednone") := isT_eq (by decide +kernel)
def ixOk (j : Nat) : Bool := match strP1 (.int j) with
  | some (.str x) => isT (addP (.str "deed") (.str x)) ("deed" ++ x) && isT (ixT (.int j)) ("deed" ++ x) && decide (("deed" ++ x : Str).length ≤ 20)
  | _ => false
theorem ixOks : (List.range 20).all ixOk = true := by decide +kernel
theorem ixT_int (j : Nat) (hj : j < 20) : ∃ x : Str, strP1 (.int j) = some (.str x) ∧ addP (.str "deed") (.str x) = some (.str ("deed" ++ x)) ∧ ixT (.int j) = some (.str ("deed" ++ x)) ∧ ("deed" ++ x : Str).length ≤ 20 := by
  have h := List.all_eq_true.mp ixOks j (List.mem_range.mpr hj)
  unfold ixOk at h
  split at h
  · rename_i x hx
    simp only [Bool.and_eq_true, decide_eq_true_eq] at h
    exact ⟨x, hx, isT_eq h.1.1, isT_eq h.1.2, h.2⟩
  · cases h
theorem q_callv {i j n : Nat} {y : Str} {fs : F (List Wv)} {ρ : Vars} {S : List Ob} (hρ : ρ[i]? = some (some (.p (.fn y)))) (hy : ∀ Γ : List Fm, fnBy G Γ n y = Γ[j]?) (hj : j < 39) : fCallV (fnBy G (Gam G ds fuel (k + 1)) n) i fs ρ S = kB (fs ρ S) fun ws S1 => kR (cl fuel (k + 1) j ws S1) := by
  have h := q_call (fuel := fuel) (k := k) hj fs ρ S
  rw [← h]
  unfold fCallV callF
  rw [hρ]
  simp only [hy]
  cases (Gam G ds fuel (k + 1))[j]? <;> rfl
theorem fn_open (Γ : List Fm) : fnBy G Γ 2 "open_deeds" = Γ[18]? := rfl
theorem fn_run (Γ : List Fm) : fnBy G Γ 2 "run" = Γ[20]? := rfl
theorem fn_price (Γ : List Fm) : fnBy G Γ 2 "price" = Γ[21]? := rfl
theorem fn_is_plan (Γ : List Fm) : fnBy G Γ 2 "is_plan" = Γ[22]? := rfl
theorem law_deed_ (hS : Sl S) {v : P} (hv : dm v = true) (hw : wt v ≤ 4000) : cl fuel (k + 2) 35 [.p v] S = some (.ok (.bl (deedB v)), S) := by
  rw [cl_def d__law_is_deed rfl]
  simp only [d__law_is_deed, N__law_is_deed, s__law_is_deed]
  array_mem_dec
  simp only [isi_tup hv]
  array_mem_dec
  have no6 : ∀ l : List P, v = .tup l → l.length ≠ 6 → deedB v = false := by
    rintro l rfl h
    unfold deedB
    split
    · rename_i e
      cases e
      exact absurd rfl h
    · rfl
  cases v <;> first | (exfalso; simp [dm] at hv; done) | (simp only [isTup]; array_mem_dec; first | exact endF_ret hS _ _ | skip)
  rename_i l
  array_mem_dec
  rw [neF_int]
  array_mem_dec
  by_cases h6 : l.length = 6
  · match l, h6 with
    | [n, a, b, c, d, q], h6' =>
      have hd := dm_of hv
      simp only [List.mem_cons, List.not_mem_nil, or_false, forall_eq_or_imp, forall_eq] at hd
      obtain ⟨d1, d2, d3, d4, d5, d6⟩ := hd
      simp only [wt, wtL] at hw
      have e : (!decide (((([n, a, b, c, d, q] : List P).length : Nat) : Int) = 6)) = false := rfl
      rw [e]
      array_mem_dec
      rw [isi_str d1]
      array_mem_dec
      have step : ∀ (X : Option (SR × List Ob)), endF S.length X = endF S.length X := fun _ => rfl
      cases n <;> first | (exfalso; simp [dm] at d1; done) | (simp only [isStr]; array_mem_dec; first | (simp only [deedB, signB, Bool.false_and]; exact endF_ret hS _ _) | skip)
      rename_i z
      have hz : z.length ≤ sizeLine := by rw [sizeLine_eq]; simpa [dm] using d1
      have e1 : decide ((1 : Int) ≤ ((z.length : Nat) : Int)) = decide (1 ≤ z.length) := by
        apply decide_eq_decide.mpr; omega
      have e2 : decide (((z.length : Nat) : Int) ≤ 40) = decide (z.length ≤ 40) := by
        apply decide_eq_decide.mpr; omega
      array_mem_dec
      simp only [lenP, hz, if_true]
      array_mem_dec
      rw [e1]
      have hsg : signB (.str z) = (decide (1 ≤ z.length) && decide (z.length ≤ 40)) := rfl
      cases hz1 : decide (1 ≤ z.length) with
      | false =>
        array_mem_dec
        simp only [deedB, hsg, hz1, Bool.false_and]
        exact endF_ret hS _ _
      | true =>
        array_mem_dec
        rw [e2]
        cases hz2 : decide (z.length ≤ 40) with
        | false =>
          array_mem_dec
          simp only [deedB, hsg, hz1, hz2, Bool.and_false, Bool.false_and]
          exact endF_ret hS _ _
        | true =>
          array_mem_dec
          rw [hz1, hz2] at hsg
          rw [cut_1_5]
          rw [compP_pure (t := fun x => !factsB x) (e := fun x => x) [a, b, c, d] [] (fun x hx => ⟨_, rfl, by
            have hx' : dm x = true ∧ wt x ≤ 4000 := by
              simp only [List.mem_cons, List.not_mem_nil, or_false] at hx
              rcases hx with rfl | rfl | rfl | rfl <;> exact ⟨by assumption, by omega⟩
            array_mem_dec
            rw [is_part_ hS hx'.1 hx'.2]
            array_mem_dec, fun _ => by array_mem_dec⟩)]
          array_mem_dec
          rw [List.map_id', neF_nil (datL_of fun x hx => by
            have hx := (List.mem_filter.mp hx).1
            simp only [List.mem_cons, List.not_mem_nil, or_false] at hx
            rcases hx with rfl | rfl | rfl | rfl <;> assumption), fil_all, and4]
          cases hf : (factsB a && (factsB b && (factsB c && factsB d))) with
          | false =>
            array_mem_dec
            simp only [deedB, hsg, hf, Bool.and_false, Bool.false_and]
            exact endF_ret hS _ _
          | true =>
            array_mem_dec
            rw [isi_int d6]
            cases q <;> first | (exfalso; simp [dm] at d6; done) | (simp only [isInt]; array_mem_dec; first | (simp only [deedB, numB, Bool.and_false]; exact endF_ret hS _ _) | skip)
            rename_i q
            array_mem_dec
            rw [isi_bool d6]
            simp only [isBl]
            array_mem_dec
            cases hq1 : decide ((1 : Int) ≤ q) with
            | false =>
              array_mem_dec
              simp only [deedB, numB, hq1, Bool.and_false, Bool.false_and]
              exact endF_ret hS _ _
            | true =>
              array_mem_dec
              cases hq2 : decide (q ≤ (9 : Int)) with
              | false =>
                array_mem_dec
                simp only [deedB, numB, hq2, Bool.and_false]
                exact endF_ret hS _ _
              | true =>
                array_mem_dec
                have hf' := hf
                simp only [Bool.and_eq_true] at hf'
                obtain ⟨fa, fb, fc, fd⟩ := hf'
                obtain ⟨sa, rfl⟩ : ∃ s, a = Tp s := ⟨_, (facts_tp fa).1⟩
                obtain ⟨sb, rfl⟩ : ∃ s, b = Tp s := ⟨_, (facts_tp fb).1⟩
                obtain ⟨sc, rfl⟩ : ∃ s, c = Tp s := ⟨_, (facts_tp fc).1⟩
                obtain ⟨sd, rfl⟩ : ∃ s, d = Tp s := ⟨_, (facts_tp fd).1⟩
                have la := strT_wt (Tp sa)
                have lc := strT_wt (Tp sc)
                rw [strL_map'] at la lc
                array_mem_dec
                rw [compP_map (i := P.str) (t := fun z => decide (z ∈ sb)) (e := P.str) sa [] (fun z hz => ⟨_, rfl, by
                  array_mem_dec
                  rw [inF_strs false z sb (Tp sb) (.inr rfl)]
                  simp only [Option.some_or]
                  array_mem_dec, fun _ => rfl⟩)]
                array_mem_dec
                rw [compP_map (i := P.str) (t := fun z => decide (z ∈ sd)) (e := P.str) sc [] (fun z hz => ⟨_, rfl, by
                  array_mem_dec
                  rw [inF_strs false z sd (Tp sd) (.inr rfl)]
                  simp only [Option.some_or]
                  array_mem_dec, fun _ => rfl⟩)]
                array_mem_dec
                have lfa := List.length_filter_le (fun z => decide (z ∈ sb)) sa
                have lfc := List.length_filter_le (fun z => decide (z ∈ sd)) sc
                rw [add_ls _ _ (by omega)]
                array_mem_dec
                rw [eqF_nil (datL_strs _)]
                array_mem_dec
                have ee : ∀ u v : List Str, ((u.filter (fun z => decide (z ∈ v)))).isEmpty = !meet u v := by
                  intro u v
                  have := fil_emp (fun z => decide (z ∈ v)) (fun z : Str => z) u
                  rw [List.map_id'] at this
                  rw [this]
                  unfold meet
                  rw [List.all_eq_not_any_not]
                  simp only [Bool.not_not]
                have e9 : ((sa.filter (fun z => decide (z ∈ sb)) ++ sc.filter (fun z => decide (z ∈ sd))).map P.str).isEmpty = !(meet sa sb || meet sc sd) := by
                  have : ∀ u v : List Str, ((u ++ v).map P.str).isEmpty = (u.isEmpty && v.isEmpty) := by
                    intro u v
                    cases u <;> cases v <;> rfl
                  rw [this, ee, ee, Bool.not_or]
                rw [e9]
                have e10 : deedB (.tup [.str z, Tp sa, Tp sb, Tp sc, Tp sd, .int q]) = !(meet sa sb || meet sc sd) := by
                  simp only [deedB, hsg, hf, numB, hq1, hq2, strL_map', Bool.and_true, Bool.true_and]
                rw [e10]
                exact endF_ret hS _ _
  · have e : (!decide (((l.length : Nat) : Int) = 6)) = true := by
      rw [Bool.not_eq_true', decide_eq_false_iff_not]
      omega
    rw [e, no6 l rfl h6]
    array_mem_dec
    exact endF_ret hS _ _
end
end Wr.K00

set_option maxHeartbeats 4000000
namespace Wr
open PySem PySem.Spec PyProof.Rows L2
theorem asc_cons {x : Str} {l : List Str} (h : ∀ y ∈ l, ltS x y = true) (hl : ascB l = true) : ascB (x :: l) = true := by
  cases l with
  | nil => rfl
  | cons y r =>
    simp only [ascB, Bool.and_eq_true]
    exact ⟨h y List.mem_cons_self, hl⟩
theorem asc_filter (p : Str → Bool) : ∀ {l : List Str}, ascB l = true → ascB (l.filter p) = true
  | [], _ => rfl
  | x :: r, h => by
    have ih := asc_filter p (asc_tail h)
    rw [List.filter_cons]
    split
    · exact asc_cons (fun y hy => asc_all h y (List.mem_filter.mp hy).1) ih
    · exact ih
theorem app_row {fo fe : F Wv} {ρ : Vars} {R R' : Ob} {L : List P} {y : P} (ho : fo ρ [R, .lst L] = some (.ok (.loc 1), [R, .lst L])) (he : fe ρ [R, .lst L] = some (.ok (.p y), [R', .lst L])) (hL : L.length < 16777216) :
    fApp fo fe ρ [R, .lst L] = some (.ok (.p .non), [R', .lst (L ++ [y])]) := by
  unfold fApp
  rw [q_bindF, ho, kB_ok]
  unfold guardL
  have h1 : ∀ Q : Ob, lstOf (.loc 1) [Q, .lst L] = some (1, L) := fun _ => rfl
  simp only [h1]
  rw [q_bindF, he, kB_ok]
  simp only [h1]
  rw [if_pos (by rw [sizeLine_eq]; exact hL)]
  rfl
theorem kL_1 {β : Type} (R : Ob) (L : List P) (k : List P → Option (Rs β × List Ob)) : kL [.loc 1] [R, .lst L] k = k [.lst L] := rfl
theorem list_str (x : Str) (h : x.cps.size ≤ 16777216) : (listPy [.str x]).or (listS [.str x]) = some ((signsS x).map .str) := by
  show (none : Option (List P)).or (listS [.str x]) = _
  simp only [Option.none_or, listS, h, if_true]
/-- the letters of the drawn facts, the names of the drawn deeds -/
def letA : List Str := ["a", "b", "c", "d", "e", "f"]
def letP : List Str := ["p", "q", "r", "s", "t", "u", "v"]
theorem sg_a : (listPy [.str "abcdef"]).or (listS [.str "abcdef"]) = some (letA.map .str) := by
  rw [list_str _ (by decide)]
  have : signsS "abcdef" = letA := by decide +kernel
  rw [this]
theorem sg_p : (listPy [.str "pqrstuv"]).or (listS [.str "pqrstuv"]) = some (letP.map .str) := by
  rw [list_str _ (by decide)]
  have : signsS "pqrstuv" = letP := by decide +kernel
  rw [this]
theorem letA_sign : ∀ z ∈ letA, signB (.str z) = true := by
  have : letA.all (fun z => signB (.str z)) = true := by decide +kernel
  exact fun z hz => List.all_eq_true.mp this z hz
theorem letP_sign : ∀ z ∈ letP, signB (.str z) = true := by
  have : letP.all (fun z => signB (.str z)) = true := by decide +kernel
  exact fun z hz => List.all_eq_true.mp this z hz
theorem letP_asc : ∀ n, ascB (letP.take n) = true := by
  have : (List.range 8).all (fun n => ascB (letP.take n)) = true := by decide +kernel
  intro n
  by_cases h : n < 8
  · exact List.all_eq_true.mp this n (List.mem_range.mpr h)
  · rw [List.take_of_length_le (by show 7 ≤ n; omega)]
    exact List.all_eq_true.mp this 7 (List.mem_range.mpr (by decide))
structure DrawnD (es : List Str) (n : Str) (x : P) (a b c d : List Str) (q : Int) : Prop where
  eq : x = .tup [.str n, Tp a, Tp b, Tp c, Tp d, .int q]
  a1 : ascB a = true
  b1 : ascB b = true
  c1 : ascB c = true
  d1 : ascB d = true
  m1 : meet a b = false
  m2 : meet c d = false
  a2 : ∀ z ∈ a, z ∈ es
  b2 : ∀ z ∈ b, z ∈ es
  c2 : ∀ z ∈ c, z ∈ es
  d2 : ∀ z ∈ d, z ∈ es
  a3 : a.length ≤ 2
  b3 : b.length ≤ 2
  c3 : c.length ≤ 2
  d3 : d.length ≤ 2
  q1 : 1 ≤ q ∧ q ≤ 9
def DrL (es : List Str) : List Str → List P → Prop
  | [], [] => True
  | n :: r, x :: t => (∃ a b c d q, DrawnD es n x a b c d q) ∧ DrL es r t
  | _, _ => False
theorem facts_of {es s : List Str} (he : ∀ z ∈ es, signB (.str z) = true) (h : ascB s = true) (h2 : ∀ z ∈ s, z ∈ es) : factsB (Tp s) = true := signs_all h fun z hz => he z (h2 z hz)
theorem wt_tp (s : List Str) : wt (Tp s) = s.length + 1 := by
  have : ∀ s : List Str, wtL (s.map .str) = s.length := by
    intro s
    induction s with
    | nil => rfl
    | cons x r ih => simp only [List.map_cons, wtL, wt, ih, List.length_cons]; omega
  simp only [wt, this]
theorem DrawnD.deed {es : List Str} {n : Str} {x : P} {a b c d : List Str} {q : Int} (h : DrawnD es n x a b c d q) (he : ∀ z ∈ es, signB (.str z) = true) (hn : signB (.str n) = true) : deedB x = true ∧ nameP x = n ∧ (∀ z ∈ toldD x, z ∈ es) ∧ dm x = true ∧ wt x ≤ 16 := by
  have fa := facts_of he h.a1 h.a2
  have fb := facts_of he h.b1 h.b2
  have fc := facts_of he h.c1 h.c2
  have fd := facts_of he h.d1 h.d2
  have hq : numB 1 9 (.int q) = true := by
    simp only [numB, Bool.and_eq_true, decide_eq_true_eq]
    exact h.q1
  rw [h.eq]
  refine ⟨?_, rfl, ?_, ?_, ?_⟩
  · simp only [deedB, hn, fa, fb, fc, fd, strL_map', h.m1, h.m2, hq, Bool.and_true, Bool.or_false, Bool.not_false]
  · intro z hz
    simp only [toldD, strL_map', List.mem_append] at hz
    rcases hz with q | q | q | q
    · exact h.a2 z q
    · exact h.b2 z q
    · exact h.c2 z q
    · exact h.d2 z q
  · have hns : dm (.str n) = true := by
      simp only [signB, Bool.and_eq_true, decide_eq_true_eq] at hn
      show decide (n.length ≤ 16777216) = true
      exact decide_eq_true (by omega)
    simp only [dm, dmL]
    have da := dm_facts fa
    have db := dm_facts fb
    have dc := dm_facts fc
    have dd := dm_facts fd
    simp only [dm] at da db dc dd hns
    simp only [da, db, dc, dd, hns, Bool.and_self]
  · simp only [wt, wtL]
    have wa := wt_tp a
    have wb := wt_tp b
    have wc := wt_tp c
    have wd := wt_tp d
    simp only [wt] at wa wb wc wd
    have := h.a3
    have := h.b3
    have := h.c3
    have := h.d3
    omega
theorem DrL.all {es : List Str} (he : ∀ z ∈ es, signB (.str z) = true) : ∀ {ns : List Str} {l : List P}, DrL es ns l → (∀ n ∈ ns, signB (.str n) = true) → l.all deedB = true ∧ l.map nameP = ns ∧ (∀ z ∈ toldP l, z ∈ es) ∧ dmL l = true ∧ wtL l ≤ 16 * ns.length ∧ l.length = ns.length
  | [], [], _, _ => ⟨rfl, rfl, (fun z hz => by cases hz), rfl, Nat.le_refl _, rfl⟩
  | n :: r, x :: t, h, hn => by
    obtain ⟨⟨a, b, c, d, q, D⟩, h2⟩ := h
    obtain ⟨i1, i2, i3, i4, i5, i6⟩ := DrL.all he h2 fun m hm => hn m (List.mem_cons_of_mem _ hm)
    obtain ⟨j1, j2, j3, j4, j5⟩ := D.deed he (hn n List.mem_cons_self)
    refine ⟨by rw [List.all_cons, j1, i1]; rfl, by rw [List.map_cons, j2, i2], fun z hz => ?_, by simp only [dmL, j4, i4, Bool.and_self], by simp only [wtL, List.length_cons]; omega, by simp only [List.length_cons, i6]⟩
    have et : toldP (x :: t) = toldD x ++ toldP t := rfl
    rw [et] at hz
    rcases List.mem_append.mp hz with e | e
    · exact j3 z e
    · exact i3 z e
  | [], _ :: _, h, _ => nomatch h
  | _ :: _, [], h, _ => nomatch h
theorem DrL.snoc {es : List Str} {n : Str} {x : P} {a b c d : List Str} {q : Int} (h : DrawnD es n x a b c d q) {r : List Str} {t : List P} (h2 : DrL es r t) : DrL es (n :: r) (x :: t) := ⟨⟨a, b, c, d, q, h⟩, h2⟩
theorem meet_fil (a : List Str) (b : List Str) : meet a (b.filter fun z => !decide (z ∈ a)) = false := by
  unfold meet
  rw [List.any_eq_false]
  intro z hz h
  have := of_decide_eq_true h
  have := (List.mem_filter.mp this).2
  simp [hz] at this
structure Drawn (l : List P) (be wi : List Str) : Prop where
  t : Tsk l be wi
  low : wt (.tup [.tup l, Tp be, Tp wi]) ≤ 200
  len : 2 ≤ l.length ∧ l.length ≤ 7
  sub : ∀ z ∈ factsP l (Tp be) (Tp wi), z ∈ letA
  bl : be.length ≤ 2
  wl : wi.length ≤ 2
theorem Drawn.of {es : List Str} (he : ∀ z ∈ es, z ∈ letA) {ns : List Str} {l : List P} (h : DrL es ns l) {m : Nat} (hn : ns = letP.take m) (h2 : 2 ≤ m) (h7 : m ≤ 7) {be wi : List Str} (hb : ascB be = true) (hw : ascB wi = true) (hb2 : ∀ z ∈ be, z ∈ es) (hw2 : ∀ z ∈ wi, z ∈ es) (hb3 : be.length ≤ 2) (hw3 : wi.length ≤ 2) : Drawn l be wi := by
  have hes : ∀ z ∈ es, signB (.str z) = true := fun z hz => letA_sign z (he z hz)
  have hnl : ns.length = m := by rw [hn, List.length_take]; show min m 7 = m; omega
  obtain ⟨i1, i2, i3, i4, i5, i6⟩ := h.all hes fun n q => letP_sign n (List.mem_of_mem_take (hn ▸ q))
  have fb := facts_of hes hb hb2
  have fw := facts_of hes hw hw2
  have sub : ∀ z ∈ factsP l (Tp be) (Tp wi), z ∈ letA := fun z hz => by
    unfold factsP at hz
    rw [mem_srt, strL_map', strL_map'] at hz
    simp only [List.mem_append] at hz
    rcases hz with q | q | q
    · exact he z (i3 z q)
    · exact he z (hb2 z q)
    · exact he z (hw2 z q)
  have few : (factsP l (Tp be) (Tp wi)).length ≤ 6 := asc_len (srt_nodup _) sub
  have low : wt (.tup [.tup l, Tp be, Tp wi]) ≤ 200 := by
    simp only [wt, wtL]
    have wb := wt_tp be
    have ww := wt_tp wi
    simp only [wt] at wb ww
    omega
  refine ⟨⟨?_, ?_, Nat.le_trans low (by decide)⟩, low, by omega, sub, hb3, hw3⟩
  · have an : ascB (l.map nameP) = true := by rw [i2, hn]; exact letP_asc m
    have h14 : ¬ 14 < l.length := by omega
    have h10 : ¬ 10 < (factsP l (Tp be) (Tp wi)).length := by omega
    simp only [wrong, h14, i1, an, fb, fw, h10, if_false, Bool.true_eq_false]
  · have db := dm_facts fb
    have dw := dm_facts fw
    simp only [dm] at db dw
    simp only [dm, dmL, i4, db, dw, Bool.and_self]
end Wr
namespace Wr.K00
open PySem PySem.Spec PyProof.Rows L2 Wr
local macro_rules
  | `(tactic| array_mem_dec) => `(tactic| simp (config := { failIfUnchanged := false, implicitDefEqProofs := false }) only [evSs, evS, evE, evEs, evAnd, evOr, evT, evAndT, evOrT, evI, evO, evTg, evBF, evBN, evBO, evCO, evCs, q_seqS, q_skip, q_fRet, q_fRetN, q_fIfS, q_bindS, q_bindF, q_ret, q_fVar, q_fC, q_fOne, q_fNot, q_fAnd, q_fOr, q_fIf, q_fTru, q_asB, q_fAndT, q_fOrT, q_fNotT, q_f2, q_fChain, q_fB, q_fBn, q_fCons, q_fNil, q_fTup, q_fLst, q_fSl, q_fRev, q_fPart, q_fLc, q_fLcN, q_fItems, q_fZip, q_rng, q_fEnum, q_fFor, q_fAsg, q_fPar, q_fRaise0, q_fRaise1, q_fSetI, q_dropS, q_fStar, q_glb, q_call,
  kB_ok, kB_exc, kB_ite, kA_bl, kO_bl, m_and, m_or, kN_bl, kO1_some, kV_p, kT_bl, m_andT, m_orT, kC2_bl, kL_p1, kNw_f, kNw_t, kSl_tup, kSl_lst, kC_f, kC_t, kS_ok, kS_exc, kS_ite, kQ_nx, kQ_ret, kQ_exc, kQ_ite, endF_ite, kR_ok, kR_exc, kR_ite, kP, allP, newL, gNm, gTupN, gNms, view_p, itemsOf_lst, itemsOf_tup, itemsOf_lsf, asL_lst, asL_lsf, asL_tup, asT_lst, asT_tup, truP_bl, vals,
  List.getElem?_cons_zero, List.getElem?_cons_succ, List.map_cons, List.map_nil, List.cons_append, List.nil_append, List.length_cons, List.length_nil, List.set_cons_zero, List.set_cons_succ, List.replicate_succ, List.replicate_zero, wipeV, Option.map_some, Option.map_none, if_true, if_false, Bool.false_eq_true, reduceCtorEq, Nat.reduceAdd, Nat.reduceSub, Nat.reduceLT, Nat.reduceLeDiff, Bool.not_true, Bool.not_false, Bool.and_true, Bool.true_and, Bool.and_false, Bool.false_and, Bool.or_true, Bool.true_or, Bool.or_false, Bool.false_or,
  kV_0, ix40, ix41, ix42, ix43, st41, st42, st43, add_int, sub_int, mul_int, mod_g, div_7, pow_18, int_int, cmpI, len_lst, len_tup, list_tup, list_lst, tup_lst, ix30, ix31, ix32, ix60, ix61, ix62, ix63, ix64, ix65])
abbrev bTask : Ss := (.cons (.asg (.nm 4) (.call 26 (.cons (.var 0) (.cons (.var 1) (.cons (.int 2) .nil)))))
  (.cons (.asg (.nm 5) (.bf .tuple (.cons (.lc false [("one", 8)] (.nm 8) (.seq (.call 26 (.cons (.var 0) (.cons (.var 1) (.cons (.int 1) .nil))))) (.cmp .notin (.var 8) (.var 4)) (.var 8)) .nil)))
  (.cons (.asg (.nm 6) (.call 26 (.cons (.var 0) (.cons (.var 1) (.cons (.int 2) .nil)))))
  (.cons (.asg (.nm 7) (.bf .tuple (.cons (.lc false [("one", 8)] (.nm 8) (.seq (.call 24 (.cons (.var 0) (.cons (.lst false (.cons (.var 4) (.cons (.var 4) (.cons (.call 26 (.cons (.var 0) (.cons (.var 1) (.cons (.int 2) .nil)))) .nil)))) .nil)))) (.cmp .notin (.var 8) (.var 6)) (.var 8)) .nil)))
  (.cons (.expr (.app (.var 2) (.tup (.cons (.var 3) (.cons (.var 4) (.cons (.var 5) (.cons (.var 6) (.cons (.var 7) (.cons (.bin .add (.int 1) (.call 23 (.cons (.var 0) (.cons (.int 4) .nil)))) .nil)))))))))
  .nil)))))
section
variable {fuel k : Nat} {S : List Ob}
theorem one_deed {ns : List Int} (hn : ns.length ≤ 63) {es : List Str} (h0 : 0 < es.length) (h1 : es.length < 100) {a b c : Int} (ha : 0 ≤ a) (L : List P) (hL : L.length < 1000) (n : Str) (o4 o5 o6 o7 o8 : Option Wv) : ∃ (x : P) (w d y q : List Str) (i a' b' c' : Int) (o4' o5' o6' o7' : Option Wv), DrawnD es n x w d y q i ∧ 0 ≤ a' ∧
    evSs G (Gam G ds fuel (k + 3)) fuel bTask [some (.loc 0), some (.p (.lst (es.map .str))), some (.loc 1), some (.p (.str n)), o4, o5, o6, o7, o8] [Row ns a b c, .lst L] = some (.go .nx [some (.loc 0), some (.p (.lst (es.map .str))), some (.loc 1), some (.p (.str n)), o4', o5', o6', o7', o8], [Row ns a' b' c', .lst (L ++ [x])]) := by
  have hT : Sl [.lst L] := Sl.nil.cons
  obtain ⟨s1, a1, b1, c1, p1, q1, l1, n1, h1'⟩ := some_ (fuel := fuel) (k := k) hT hn (b := b) (c := c) ha h0 h1 (m := 2) (by decide) (by decide)
  obtain ⟨s2, a2, b2, c2, p2, q2, l2, n2, h2'⟩ := some_ (fuel := fuel) (k := k) hT hn (b := b1) (c := c1) n1 h0 h1 (m := 1) (by decide) (by decide)
  obtain ⟨s3, a3, b3, c3, p3, q3, l3, n3, h3'⟩ := some_ (fuel := fuel) (k := k) hT hn (b := b2) (c := c2) n2 h0 h1 (m := 2) (by decide) (by decide)
  obtain ⟨s4, a4, b4, c4, p4, q4, l4, n4, h4'⟩ := some_ (fuel := fuel) (k := k) hT hn (b := b3) (c := c3) n3 h0 h1 (m := 2) (by decide) (by decide)
  obtain ⟨x, a5, b5, c5, p5, n5, h5'⟩ := pick_ (fuel := fuel) (k := k + 1) hT hn (b := b4) (c := c4) n4 (l := [Tp s1, Tp s1, Tp s4]) (w := .lst [Tp s1, Tp s1, Tp s4]) (.inl rfl) (by simp) (by simp)
  obtain ⟨s5, rfl, p5', q5, l5⟩ : ∃ s5, x = Tp s5 ∧ (∀ z ∈ s5, z ∈ es) ∧ ascB s5 = true ∧ (s5.length : Int) ≤ 2 := by
    simp only [List.mem_cons, List.not_mem_nil, or_false] at p5
    rcases p5 with e | e | e
    · exact ⟨s1, e, p1, q1, l1⟩
    · exact ⟨s1, e, p1, q1, l1⟩
    · exact ⟨s4, e, p4, q4, l4⟩
  obtain ⟨r, a6, b6, c6, r0, r1, n6, h6'⟩ := taken_ (fuel := fuel) (k := k + 2) hT hn (b := b5) (c := c5) n5 (m := 4) (by decide) (by decide)
  have D : DrawnD es n (.tup [.str n, Tp s1, Tp (s2.filter fun z => !decide (z ∈ s1)), Tp s3, Tp (s5.filter fun z => !decide (z ∈ s3)), .int (1 + r)]) s1 (s2.filter fun z => !decide (z ∈ s1)) s3 (s5.filter fun z => !decide (z ∈ s3)) (1 + r) := by
    have f2 := List.length_filter_le (fun z => !decide (z ∈ s1)) s2
    have f5 := List.length_filter_le (fun z => !decide (z ∈ s3)) s5
    exact ⟨rfl, q1, asc_filter _ q2, q3, asc_filter _ q5, meet_fil _ _, meet_fil _ _, p1, fun z hz => p2 z (List.mem_filter.mp hz).1, p3, fun z hz => p5' z (List.mem_filter.mp hz).1, by omega, by omega, by omega, by omega, by omega⟩
  refine ⟨_, _, _, _, _, _, a6, b6, c6, some (.p (Tp s1)), some (.p (Tp (s2.filter fun z => !decide (z ∈ s1)))), some (.p (Tp s3)), some (.p (Tp (s5.filter fun z => !decide (z ∈ s3)))), D, n6, ?_⟩
  array_mem_dec
  rw [h1']
  array_mem_dec
  rw [h2']
  array_mem_dec
  rw [compP_map (i := P.str) (t := fun z => !decide (z ∈ s1)) (e := P.str) s2 [] (fun z hz => ⟨_, rfl, by
    array_mem_dec
    rw [inF_strs true z s1 (Tp s1) (.inr rfl)]
    simp only [Option.some_or, if_true]
    array_mem_dec, fun _ => rfl⟩)]
  array_mem_dec
  rw [h3']
  array_mem_dec
  rw [h4']
  array_mem_dec
  rw [h5']
  array_mem_dec
  rw [compP_map (i := P.str) (t := fun z => !decide (z ∈ s3)) (e := P.str) s5 [] (fun z hz => ⟨_, rfl, by
    array_mem_dec
    rw [inF_strs true z s3 (Tp s3) (.inr rfl)]
    simp only [Option.some_or, if_true]
    array_mem_dec, fun _ => rfl⟩)]
  array_mem_dec
  rw [app_row rfl (by
    array_mem_dec
    rw [h6']
    array_mem_dec
    rfl) (by omega)]
  array_mem_dec
theorem task_for {ns : List Int} (hn : ns.length ≤ 63) {es : List Str} (h0 : 0 < es.length) (h1 : es.length < 100) : ∀ (nms : List Str) (L : List P) (a b c : Int) (o3 o4 o5 o6 o7 o8 : Option Wv), 0 ≤ a → L.length + nms.length < 1000 → ∃ (M : List P) (a' b' c' : Int) (o3' o4' o5' o6' o7' : Option Wv), DrL es nms M ∧ 0 ≤ a' ∧
    forS (gNm 3) (evSs G (Gam G ds fuel (k + 3)) fuel bTask) (nms.map .str) [some (.loc 0), some (.p (.lst (es.map .str))), some (.loc 1), o3, o4, o5, o6, o7, o8] [Row ns a b c, .lst L] = some (.go .nx [some (.loc 0), some (.p (.lst (es.map .str))), some (.loc 1), o3', o4', o5', o6', o7', o8], [Row ns a' b' c', .lst (L ++ M)])
  | [], L, a, b, c, o3, o4, o5, o6, o7, o8, ha, _ => ⟨[], a, b, c, o3, o4, o5, o6, o7, trivial, ha, by rw [List.append_nil]; rfl⟩
  | n :: r, L, a, b, c, o3, o4, o5, o6, o7, o8, ha, hl => by
    simp only [List.length_cons] at hl
    obtain ⟨x, w, d, y, q, i, a1, b1, c1, u4, u5, u6, u7, D, ha1, hf⟩ := one_deed (fuel := fuel) (k := k) hn h0 h1 (b := b) (c := c) ha L (by omega) n o4 o5 o6 o7 o8
    obtain ⟨M, a2, b2, c2, v3, v4, v5, v6, v7, hM, ha2, ih⟩ := task_for hn h0 h1 r (L ++ [x]) a1 b1 c1 (some (.p (.str n))) u4 u5 u6 u7 o8 ha1 (by rw [List.length_append, List.length_singleton]; omega)
    refine ⟨x :: M, a2, b2, c2, v3, v4, v5, v6, v7, hM.snoc D, ha2, ?_⟩
    rw [List.map_cons, forS_nx rfl hf, ih, List.append_assoc]
    rfl
theorem task_ {ns : List Int} (hn : ns.length ≤ 63) {a b c : Int} (ha : 0 ≤ a) : ∃ (l : List P) (be wi : List Str) (a' b' c' : Int), Drawn l be wi ∧ 0 ≤ a' ∧ cl fuel (k + 4) 27 [.loc 0] [Row ns a b c] = some (.ok (.tup [.tup l, Tp be, Tp wi]), [Row ns a' b' c']) := by
  obtain ⟨r1, a1, b1, c1, p1, q1, ha1, h1⟩ := taken_ (fuel := fuel) (k := k + 2) Sl.nil hn (b := b) (c := c) ha (m := 4) (by decide) (by decide)
  have hT1 : Sl [.lst []] := Sl.nil.cons
  obtain ⟨r2, a2, b2, c2, p2, q2, ha2, h2⟩ := taken_ (fuel := fuel) (k := k + 2) hT1 hn (b := b1) (c := c1) ha1 (m := 6) (by decide) (by decide)
  have el : (letA.take (3 + r1).toNat).length = (3 + r1).toNat := by
    rw [List.length_take]
    show min _ 6 = _
    omega
  have np : (letP.take (2 + r2).toNat).length = (2 + r2).toNat := by
    rw [List.length_take]
    show min _ 7 = _
    omega
  have e0 : 0 < (letA.take (3 + r1).toNat).length := by omega
  have e1 : (letA.take (3 + r1).toNat).length < 100 := by omega
  obtain ⟨L, a3, b3, c3, o3, o4, o5, o6, o7, hL, ha3, h3⟩ := task_for (fuel := fuel) (k := k) hn e0 e1 (letP.take (2 + r2).toNat) [] a2 b2 c2 none none none none none none ha2 (by simp only [List.length_nil]; omega)
  rw [List.nil_append] at h3
  have hT : Sl [.lst L] := Sl.nil.cons
  obtain ⟨be, a4, b4, c4, i4, j4, l4, ha4, h4⟩ := some_ (fuel := fuel) (k := k) hT hn (b := b3) (c := c3) ha3 e0 e1 (m := 2) (by decide) (by decide)
  obtain ⟨wi, a5, b5, c5, i5, j5, l5, ha5, h5⟩ := some_ (fuel := fuel) (k := k) hT hn (b := b4) (c := c4) ha4 e0 e1 (m := 2) (by decide) (by decide)
  refine ⟨L, be, wi, a5, b5, c5, Drawn.of (fun z hz => List.mem_of_mem_take hz) hL rfl (by omega) (by omega) j4 j5 i4 i5 (by omega) (by omega), ha5, ?_⟩
  rw [cl_def d__law_task rfl]
  simp only [d__law_task, N__law_task, s__law_task]
  array_mem_dec
  rw [sg_a]
  array_mem_dec
  rw [h1]
  array_mem_dec
  rw [cut_to' _ (by omega), ← List.map_take]
  array_mem_dec
  rw [sg_p]
  array_mem_dec
  rw [h2]
  array_mem_dec
  rw [cut_to' _ (by omega), ← List.map_take]
  array_mem_dec
  show endF 1 (kQ (forS (gNm 3) (evSs G (Gam G ds fuel (k + 3)) fuel bTask) _ _ _) _) = _
  rw [h3]
  array_mem_dec
  rw [kL_1]
  array_mem_dec
  rw [h4]
  array_mem_dec
  rw [h5]
  array_mem_dec
  have hS : Sl [Row ns a5 b5 c5] := Sl.nil.cons
  exact endF_retT (T := [.lst L]) hS _ _
end
end Wr.K00

set_option maxHeartbeats 4000000
namespace Wr
open PySem PySem.Spec PyProof.Rows L2
/-! ### steps and runs -/
theorem find_and {α : Type} (p q : α → Bool) : ∀ (l : List α), (∀ x ∈ l, ∀ y ∈ l, p x = true → p y = true → x = y) → l.find? (fun x => p x && q x) = (l.find? p).filter q
  | [], _ => rfl
  | x :: r, h => by
    rw [List.find?_cons, List.find?_cons]
    cases hp : p x with
    | false =>
      simp only [Bool.false_and]
      exact find_and p q r fun y hy z hz => h y (List.mem_cons_of_mem _ hy) z (List.mem_cons_of_mem _ hz)
    | true =>
      simp only [Bool.true_and]
      cases hq : q x with
      | true => simp [Option.filter, hq]
      | false =>
        simp only [Option.filter, hq]
        rw [if_neg (by simp), List.find?_eq_none]
        intro y hy hh
        simp only [Bool.and_eq_true] at hh
        have := h x List.mem_cons_self y (List.mem_cons_of_mem _ hy) hp hh.1
        rw [← this, hq] at hh
        exact absurd hh.2 (by decide)
theorem name_one : ∀ {l : List P}, ascB (l.map nameP) = true → ∀ x ∈ l, ∀ y ∈ l, nameP x = nameP y → x = y
  | [], _, x, hx, _, _, _ => by cases hx
  | z :: r, h, x, hx, y, hy, e => by
    have nd := asc_nodup h
    rw [List.map_cons] at h nd
    obtain ⟨n1, n2⟩ := List.nodup_cons.mp nd
    have ih := name_one (l := r) (asc_tail h)
    rcases List.mem_cons.mp hx with e1 | e1
    · rcases List.mem_cons.mp hy with e2 | e2
      · rw [e1, e2]
      · exact absurd (List.mem_map.mpr ⟨y, e2, by rw [← e, e1]⟩) n1
    · rcases List.mem_cons.mp hy with e2 | e2
      · exact absurd (List.mem_map.mpr ⟨x, e1, by rw [e, e2]⟩) n1
      · exact ih x e1 y e2 e
theorem isName_one {l : List P} (h : ascB (l.map nameP) = true) (v : P) : ∀ x ∈ l, ∀ y ∈ l, isName x v = true → isName y v = true → x = y := by
  intro x hx y hy h1 h2
  unfold isName at h1 h2
  split at h1
  · rename_i n
    have e1 := eq_of_beq h1
    have e2 := eq_of_beq h2
    exact name_one h x hx y hy (e1.trans e2.symm)
  · cases h1
theorem walk_step {l : List P} (h : ascB (l.map nameP) = true) (s : List Str) (v : P) : walk1 l (some s) v = stepP l s v := by
  unfold walk1 stepP toDo
  rw [find_and (fun x => isName x v) (fun x => canB x s) l (isName_one h v)]
  cases l.find? (fun x => isName x v) with
  | none => rfl
  | some x =>
    unfold goP
    cases hc : canB x s with
    | true => simp [Option.filter, hc]
    | false => simp [Option.filter, hc]
theorem walk_none (l : List P) : ∀ vs : List P, vs.foldl (walk1 l) none = none
  | [] => rfl
  | v :: r => by
    rw [List.foldl_cons]
    have : walk1 l none v = none := by unfold walk1; rfl
    rw [this, walk_none l r]
def wk (l : List P) (s : List Str) (vs : List P) : Option (List Str) := vs.foldl (walk1 l) (some s)
theorem wk_cons {l : List P} (h : ascB (l.map nameP) = true) (s : List Str) (v : P) (r : List P) : wk l s (v :: r) = (stepP l s v).bind fun s' => wk l s' r := by
  unfold wk
  rw [List.foldl_cons, walk_step h]
  cases stepP l s v with
  | none => exact walk_none l r
  | some s' => rfl
theorem run_ok {l : List P} (h : ascB (l.map nameP) = true) : ∀ (vs : List P) (s : List Str) (i : Nat) (ss : List (List Str)), runP l s vs i = .ok ss → (List.range (vs.length + 1)).map (fun n => wk l s (vs.take n)) = (s :: ss).map some ∧ (List.range vs.length).filter (fun n => (wk l s (vs.take (n + 1))).isNone) = [] ∧ wk l s vs = some (K00.lastS s ss) ∧ ss.length = vs.length
  | [], s, i, ss, e => by
    simp only [runP] at e
    cases e
    exact ⟨rfl, rfl, rfl, rfl⟩
  | v :: r, s, i, ss, e => by
    simp only [runP] at e
    cases hq : stepP l s v with
    | none => simp [hq] at e
    | some s' =>
      simp only [hq] at e
      cases hr : runP l s' r (i + 1) with
      | error j => simp [hr] at e
      | ok ss' =>
        simp only [hr] at e
        cases e
        obtain ⟨i1, i2, i3, i4⟩ := run_ok h r s' (i + 1) ss' hr
        have st : ∀ n, wk l s ((v :: r).take (n + 1)) = wk l s' (r.take n) := fun n => by
          rw [List.take_succ_cons, wk_cons h, hq]
          rfl
        refine ⟨?_, ?_, ?_, by simp [i4]⟩
        · rw [List.length_cons, List.range_succ_eq_map, List.map_cons, List.map_map]
          have e0 : wk l s ((v :: r).take 0) = some s := rfl
          rw [e0]
          have e1 : (List.range (r.length + 1)).map ((fun n => wk l s ((v :: r).take n)) ∘ Nat.succ) = (List.range (r.length + 1)).map fun n => wk l s' (r.take n) := List.map_congr_left fun n _ => st n
          rw [e1, i1]
          rfl
        · rw [List.length_cons, List.range_succ_eq_map, List.filter_cons]
          have e0 : (wk l s ((v :: r).take (0 + 1))).isNone = false := by
            rw [st 0]
            rfl
          simp only [e0, Bool.false_eq_true, if_false]
          rw [List.filter_map]
          have e1 : (List.range r.length).filter ((fun n => (wk l s ((v :: r).take (n + 1))).isNone) ∘ Nat.succ) = (List.range r.length).filter fun n => (wk l s' (r.take (n + 1))).isNone := List.filter_congr fun n _ => by
            show (wk l s ((v :: r).take (n + 1 + 1))).isNone = _
            rw [st (n + 1)]
          rw [e1, i2]
          rfl
        · rw [wk_cons h, hq]
          show wk l s' r = _
          rw [i3]
          unfold K00.lastS
          exact congrArg some (List.getLast_cons (a := s) (l := s' :: ss') (by simp)).symm
theorem run_err {l : List P} (h : ascB (l.map nameP) = true) : ∀ (vs : List P) (s : List Str) (i j : Nat), runP l s vs i = .error j → i ≤ j ∧ j < i + vs.length ∧ (∃ rest, (List.range vs.length).filter (fun n => (wk l s (vs.take (n + 1))).isNone) = (j - i) :: rest) ∧ wk l s vs = none
  | [], s, i, j, e => by simp [runP] at e
  | v :: r, s, i, j, e => by
    simp only [runP] at e
    cases hq : stepP l s v with
    | none =>
      simp only [hq] at e
      cases e
      refine ⟨Nat.le_refl _, by simp only [List.length_cons]; omega, ?_, by rw [wk_cons h, hq]; rfl⟩
      rw [List.length_cons, List.range_succ_eq_map, List.filter_cons]
      have e0 : (wk l s ((v :: r).take (0 + 1))).isNone = true := by
        rw [List.take_succ_cons, wk_cons h, hq]
        rfl
      simp only [e0, if_true, Nat.sub_self]
      exact ⟨_, rfl⟩
    | some s' =>
      simp only [hq] at e
      cases hr : runP l s' r (i + 1) with
      | ok ss' => simp [hr] at e
      | error j' =>
        simp only [hr] at e
        cases e
        obtain ⟨i1, i2, ⟨rest, i3⟩, i4⟩ := run_err h r s' (i + 1) j hr
        have st : ∀ n, wk l s ((v :: r).take (n + 1)) = wk l s' (r.take n) := fun n => by
          rw [List.take_succ_cons, wk_cons h, hq]
          rfl
        refine ⟨by omega, by simp only [List.length_cons]; omega, ?_, by rw [wk_cons h, hq]; exact i4⟩
        rw [List.length_cons, List.range_succ_eq_map, List.filter_cons]
        have e0 : (wk l s ((v :: r).take (0 + 1))).isNone = false := by
          rw [st 0]
          rfl
        simp only [e0, Bool.false_eq_true, if_false]
        rw [List.filter_map]
        have e1 : (List.range r.length).filter ((fun n => (wk l s ((v :: r).take (n + 1))).isNone) ∘ Nat.succ) = (List.range r.length).filter fun n => (wk l s' (r.take (n + 1))).isNone := List.filter_congr fun n _ => by
          show (wk l s ((v :: r).take (n + 1 + 1))).isNone = _
          rw [st (n + 1)]
        rw [e1, i3, List.map_cons]
        have : (j - (i + 1)).succ = j - i := by omega
        rw [this]
        exact ⟨_, rfl⟩
end Wr
namespace Wr.K00
open PySem PySem.Spec PyProof.Rows L2 Wr
local macro_rules
  | `(tactic| array_mem_dec) => `(tactic| simp (config := { failIfUnchanged := false, implicitDefEqProofs := false }) only [evSs, evS, evE, evEs, evAnd, evOr, evT, evAndT, evOrT, evI, evO, evTg, evBF, evBN, evBO, evCO, evCs, q_seqS, q_skip, q_fRet, q_fRetN, q_fIfS, q_bindS, q_bindF, q_ret, q_fVar, q_fC, q_fOne, q_fNot, q_fAnd, q_fOr, q_fIf, q_fTru, q_asB, q_fAndT, q_fOrT, q_fNotT, q_f2, q_fChain, q_fB, q_fBn, q_fCons, q_fNil, q_fTup, q_fLst, q_fSl, q_fRev, q_fPart, q_fLc, q_fLcN, q_fItems, q_fZip, q_rng, q_fEnum, q_fFor, q_fAsg, q_fPar, q_fRaise0, q_fRaise1, q_fSetI, q_dropS, q_fStar, q_glb, q_call,
  kB_ok, kB_exc, kB_ite, kA_bl, kO_bl, m_and, m_or, kN_bl, kO1_some, kV_p, kT_bl, m_andT, m_orT, kC2_bl, kL_p1, kNw_f, kNw_t, kSl_tup, kSl_lst, kC_f, kC_t, kS_ok, kS_exc, kS_ite, kQ_nx, kQ_ret, kQ_exc, kQ_ite, endF_ite, kR_ok, kR_exc, kR_ite, kP, allP, newL, gNm, gTupN, gNms, view_p, itemsOf_lst, itemsOf_tup, itemsOf_lsf, asL_lst, asL_lsf, asL_tup, asT_lst, asT_tup, truP_bl, vals,
  List.getElem?_cons_zero, List.getElem?_cons_succ, List.map_cons, List.map_nil, List.cons_append, List.nil_append, List.length_cons, List.length_nil, List.set_cons_zero, List.set_cons_succ, List.replicate_succ, List.replicate_zero, wipeV, Option.map_some, Option.map_none, if_true, if_false, Bool.false_eq_true, reduceCtorEq, Nat.reduceAdd, Nat.reduceSub, Nat.reduceLT, Nat.reduceLeDiff, Bool.not_true, Bool.not_false, Bool.and_true, Bool.true_and, Bool.and_false, Bool.false_and, Bool.or_true, Bool.true_or, Bool.or_false, Bool.false_or,
  kV_0, ix40, ix41, ix42, ix43, st41, st42, st43, add_int, sub_int, mul_int, mod_g, div_7, pow_18, int_int, cmpI, len_lst, len_tup, list_tup, list_lst, tup_lst, ix30, ix31, ix32, ix60, ix61, ix62, ix63, ix64, ix65])
section
variable {fuel k : Nat} {S : List Ob}
theorem law_wrong_ (hS : Sl S) {v : P} (hv : dm v = true) (hw : wt v ≤ 4000) : cl fuel (k + 3) 36 [.p v] S = some (.ok (optP (wrong v)), S) := by
  rw [cl_def d__law_wrong rfl]
  simp only [d__law_wrong, N__law_wrong, s__law_wrong]
  array_mem_dec
  simp only [isi_tup hv]
  array_mem_dec
  cases v <;> first | (exfalso; simp [dm] at hv; done) | (simp only [isTup]; array_mem_dec; first | exact endF_ret hS _ _ | skip)
  rename_i l
  rw [neF_int]
  array_mem_dec
  by_cases h3 : l.length = 3
  · match l, h3 with
    | [d, b, w], h3' =>
      have hd := dm_of hv
      simp only [List.mem_cons, List.not_mem_nil, or_false, forall_eq_or_imp, forall_eq] at hd
      obtain ⟨d1, d2, d3⟩ := hd
      simp only [wt, wtL] at hw
      have e : (!decide (((([d, b, w] : List P).length : Nat) : Int) = 3)) = false := rfl
      rw [e]
      array_mem_dec
      simp only [isi_tup d1]
      array_mem_dec
      cases d <;> first | (exfalso; simp [dm] at d1; done) | (simp only [isTup]; array_mem_dec; first | exact endF_ret hS _ _ | skip)
      rename_i l
      simp only [wt] at hw
      have e2 : decide ((14 : Int) < ((l.length : Nat) : Int)) = decide (14 < l.length) := by
        apply decide_eq_decide.mpr; omega
      rw [e2]
      by_cases h14 : 14 < l.length
      · rw [decide_eq_true h14]
        array_mem_dec
        simp only [wrong, h14, if_true]
        exact endF_ret hS _ _
      · rw [decide_eq_false h14]
        array_mem_dec
        have hdl := dm_of d1
        rw [compP_pure (t := fun x => !deedB x) (e := fun x => x) l [] (fun x hx => ⟨_, rfl, by
          have := wtL_mem hx
          array_mem_dec
          rw [law_deed_ hS (hdl x hx) (by omega)]
          array_mem_dec, fun _ => by array_mem_dec⟩)]
        array_mem_dec
        rw [List.map_id', neF_nil (datL_of fun x hx => hdl x (List.mem_filter.mp hx).1), fil_all]
        cases ha : l.all deedB with
        | false =>
          array_mem_dec
          simp only [wrong, h14, if_false, ha, if_true]
          exact endF_ret hS _ _
        | true =>
          array_mem_dec
          rw [compP_all' (e := fun x => .str (nameP x)) l (fun x hx => ⟨_, rfl, by
            obtain ⟨n, a, b, c, d, q, D⟩ := deed_tp (List.all_eq_true.mp ha x hx)
            rw [D.name, D.eq]
            array_mem_dec⟩)]
          array_mem_dec
          have em : l.map (fun x => P.str (nameP x)) = (l.map nameP).map .str := by rw [List.map_map]; rfl
          rw [em, setPy_strs (l.map nameP) _ (.inl rfl) (by rw [List.length_map]; omega)]
          array_mem_dec
          rw [sortedPy_set _ (by rw [List.length_map]; omega)]
          array_mem_dec
          rw [neF_strs, asc_dec]
          cases hn : ascB (l.map nameP) with
          | false =>
            array_mem_dec
            simp only [wrong, h14, if_false, ha, hn, Bool.true_eq_false, if_true]
            exact endF_ret hS _ _
          | true =>
            array_mem_dec
            rw [is_part_ hS d2 (by omega)]
            array_mem_dec
            cases hb : factsB b with
            | false =>
              array_mem_dec
              simp only [wrong, h14, if_false, ha, hn, hb, Bool.true_eq_false, if_true]
              exact endF_ret hS _ _
            | true =>
              array_mem_dec
              rw [is_part_ hS d3 (by omega)]
              array_mem_dec
              cases hc : factsB w with
              | false =>
                array_mem_dec
                simp only [wrong, h14, if_false, ha, hn, hb, hc, Bool.true_eq_false, if_true]
                exact endF_ret hS _ _
              | true =>
                array_mem_dec
                rw [law_facts_ hS ha hb hc (by omega)]
                array_mem_dec
                have e3 : decide ((10 : Int) < (((factsP l b w).map P.str).length : Nat)) = decide (10 < (factsP l b w).length) := by
                  rw [List.length_map]
                  apply decide_eq_decide.mpr; omega
                rw [e3]
                by_cases h10 : 10 < (factsP l b w).length
                · rw [decide_eq_true h10]
                  array_mem_dec
                  simp only [wrong, h14, if_false, ha, hn, hb, hc, Bool.true_eq_false, h10, if_true]
                  exact endF_ret hS _ _
                · rw [decide_eq_false h10]
                  array_mem_dec
                  simp only [wrong, h14, if_false, ha, hn, hb, hc, Bool.true_eq_false, h10, if_false]
                  exact endF_ret hS _ _
  · have e : (!decide (((l.length : Nat) : Int) = 3)) = true := by
      rw [Bool.not_eq_true', decide_eq_false_iff_not]
      omega
    have e2 : wrong (.tup l) = some "form" := by
      unfold wrong
      split
      · rename_i e
        cases e
        exact absurd rfl h3
      · rename_i e
        cases e
        exact absurd rfl h3
      · rfl
    rw [e, e2]
    array_mem_dec
    exact endF_ret hS _ _
end
end Wr.K00

set_option maxHeartbeats 4000000
namespace Wr
open PySem PySem.Spec PyProof.Rows L2
theorem rng0 (n : Nat) : rngP 0 n = (List.range n).map fun i => P.int (i : Nat) := by
  unfold rngP
  simp only [Int.zero_add]
theorem isN_optT (o : Option (List Str)) : isN (optT o) = o.isNone := by cases o <;> rfl
theorem run_ste {l : List P} {be wi : List Str} (t : Tsk l be wi) : ∀ (vs : List P) (s : List Str) (i : Nat) (ss : List (List Str)), Ste l be wi s → runP l s vs i = .ok ss → ∀ s' ∈ s :: ss, Ste l be wi s'
  | [], s, i, ss, h, e, s', hs' => by
    simp only [runP] at e
    cases e
    rw [List.mem_singleton.mp hs']
    exact h
  | v :: r, s, i, ss, h, e, s', hs' => by
    simp only [runP, stepP] at e
    cases hq : toDo l s v with
    | none => simp [hq] at e
    | some x =>
      simp only [hq, Option.map_some] at e
      cases hr : runP l (behind x s) r (i + 1) with
      | error j => simp [hr] at e
      | ok ss' =>
        simp only [hr] at e
        cases e
        rcases List.mem_cons.mp hs' with q | q
        · rw [q]; exact h
        · exact run_ste t r (behind x s) (i + 1) ss' (ste_behind t h (find_mem hq).1) hr s' q
theorem dep_tp (s : List Str) : dep (Tp s) = 1 := by simp only [dep, depL_strs]
theorem depL_le {l : List P} {n : Nat} (h : ∀ x ∈ l, dep x ≤ n) : depL l ≤ n := by
  induction l with
  | nil => exact Nat.zero_le _
  | cons x r ih =>
    have := h x List.mem_cons_self
    have := ih fun y hy => h y (List.mem_cons_of_mem _ hy)
    simp only [depL]
    omega
theorem wtL_le {l : List P} {n : Nat} (h : ∀ x ∈ l, wt x ≤ n) : wtL l ≤ n * l.length := by
  induction l with
  | nil => exact Nat.zero_le _
  | cons x r ih =>
    have := h x List.mem_cons_self
    have := ih fun y hy => h y (List.mem_cons_of_mem _ hy)
    simp only [wtL, List.length_cons, Nat.mul_add, Nat.mul_one]
    omega
theorem dict_pairs (l : List P) : dictPy [.lst (l.map fun x => .tup [.str (nameP x), prcP x])] = some (.dK (prD [] l)) := by
  have h : ∀ l : List P, pairsP (l.map fun x => P.tup [.str (nameP x), prcP x]) = some (l.map fun x => ((.inr (nameP x) : Key), prcP x)) := by
    intro l
    induction l with
    | nil => rfl
    | cons x r ih =>
      have e : pairP (P.tup [.str (nameP x), prcP x]) = some ((.inr (nameP x) : Key), prcP x) := rfl
      simp only [List.map_cons, pairsP, ih, e]
  simp only [dictPy, h, Option.map_some, mergeP, prD, List.foldl_map]
end Wr
namespace Wr.K00
open PySem PySem.Spec PyProof.Rows L2 Wr
local macro_rules
  | `(tactic| array_mem_dec) => `(tactic| simp (config := { failIfUnchanged := false, implicitDefEqProofs := false }) only [evSs, evS, evE, evEs, evAnd, evOr, evT, evAndT, evOrT, evI, evO, evTg, evBF, evBN, evBO, evCO, evCs, q_seqS, q_skip, q_fRet, q_fRetN, q_fIfS, q_bindS, q_bindF, q_ret, q_fVar, q_fC, q_fOne, q_fNot, q_fAnd, q_fOr, q_fIf, q_fTru, q_asB, q_fAndT, q_fOrT, q_fNotT, q_f2, q_fChain, q_fB, q_fBn, q_fCons, q_fNil, q_fTup, q_fLst, q_fSl, q_fRev, q_fPart, q_fLc, q_fLcN, q_fItems, q_fZip, q_rng, q_fEnum, q_fFor, q_fAsg, q_fPar, q_fRaise0, q_fRaise1, q_fSetI, q_dropS, q_fStar, q_glb, q_call,
  kB_ok, kB_exc, kB_ite, kA_bl, kO_bl, m_and, m_or, kN_bl, kO1_some, kV_p, kT_bl, m_andT, m_orT, kC2_bl, kL_p1, kNw_f, kNw_t, kSl_tup, kSl_lst, kC_f, kC_t, kS_ok, kS_exc, kS_ite, kQ_nx, kQ_ret, kQ_exc, kQ_ite, endF_ite, kR_ok, kR_exc, kR_ite, kP, allP, newL, gNm, gTupN, gNms, view_p, itemsOf_lst, itemsOf_tup, itemsOf_lsf, asL_lst, asL_lsf, asL_tup, asT_lst, asT_tup, truP_bl, vals,
  List.getElem?_cons_zero, List.getElem?_cons_succ, List.map_cons, List.map_nil, List.cons_append, List.nil_append, List.length_cons, List.length_nil, List.set_cons_zero, List.set_cons_succ, List.replicate_succ, List.replicate_zero, wipeV, Option.map_some, Option.map_none, if_true, if_false, Bool.false_eq_true, reduceCtorEq, Nat.reduceAdd, Nat.reduceSub, Nat.reduceLT, Nat.reduceLeDiff, Bool.not_true, Bool.not_false, Bool.and_true, Bool.true_and, Bool.and_false, Bool.false_and, Bool.or_true, Bool.true_or, Bool.or_false, Bool.false_or,
  kV_0, ix40, ix41, ix42, ix43, st41, st42, st43, add_int, sub_int, mul_int, mod_g, div_7, pow_18, int_int, cmpI, len_lst, len_tup, list_tup, list_lst, tup_lst, ix30, ix31, ix32, ix60, ix61, ix62, ix63, ix64, ix65])
local macro_rules
  | `(tactic| sizeOf_list_dec) => `(tactic| simp (config := { failIfUnchanged := false, implicitDefEqProofs := false }) only [evSs, q_seqS, q_skip, kQ_nx, kQ_ret, kQ_exc])
def rr1 : S := (.asg (.tup [3, 4, 5]) (.var 1))
def rr2 : S := (.asg (.nm 6) (.bf .dict (.cons (.lc false [("deed", 7)] (.nm 7) (.seq (.var 3)) .yes (.tup (.cons (.ix (.var 7) (.int 0)) (.cons (.ix (.var 7) (.int 5)) .nil)))) .nil)))
def rr3 : S := (.asg (.nm 8) (.bf .tuple (.cons (.lc false [("at", 9)] (.nm 9) (.rng1 (.bin .add (.bf .len (.cons (.var 2) .nil)) (.int 1))) .yes (.call 32 (.cons (.var 1) (.cons (.var 4) (.cons (.sl false (.var 2) .no (.yes (.var 9))) .nil))))) .nil)))
def rr4 : S := (.ifs (.or (.cons (.not (.tru (.call 25 (.cons (.call 20 (.cons (.var 1) (.cons (.var 2) .nil))) (.cons (.var 8) .nil))))) (.cons (.not (.tru (.call 25 (.cons (.call 21 (.cons (.var 1) (.cons (.var 2) .nil))) (.cons (.bf .sum (.cons (.lc false [("name", 10)] (.nm 10) (.seq (.var 2)) .yes (.ix (.var 6) (.var 10))) .nil)) .nil))))) .nil))) (.cons (.ret (.bl false)) .nil) .nil)
def rr5 : S := (.asg (.nm 11) (.call 23 (.cons (.var 0) (.cons (.bin .add (.bf .len (.cons (.var 2) .nil)) (.int 1)) .nil))))
def rr6 : S := (.asg (.nm 12) (.bin .add (.bin .add (.sl false (.var 2) .no (.yes (.var 11))) (.tup (.cons (.call 24 (.cons (.var 0) (.cons (.bin .add (.lc false [("deed", 7)] (.nm 7) (.seq (.var 3)) .yes (.ix (.var 7) (.int 0))) (.lst false (.cons (.str "zz") (.cons .non (.cons (.int 2) .nil))))) .nil))) .nil))) (.sl false (.var 2) (.yes (.var 11)) .no)))
def rr7_1 : S := (.asg (.nm 14) (.isi .tuple (.var 13)))
def rr7_2 : S := (.asg (.nm 15) (.ite (.tru (.var 14)) (.lc false [("at", 9)] (.nm 9) (.rng1 (.bf .len (.cons (.var 13) .nil))) (.cmp .is (.call 32 (.cons (.var 1) (.cons (.var 4) (.cons (.sl false (.var 13) .no (.yes (.bin .add (.var 9) (.int 1)))) .nil)))) .non) (.var 9)) (.lst false .nil)))
def rr7_3 : S := (.asg (.nm 16) (.ite (.cmp .ne (.var 15) (.lst false .nil)) (.tup (.cons (.str "bad") (.cons (.bin .add (.str "deed") (.bf .str (.cons (.ix (.var 15) (.int 0)) .nil))) .nil))) (.tup (.cons (.str "bad") (.cons (.str "deednone") .nil)))))
def rr7_4 : S := (.ifs (.and (.cons (.tru (.var 14)) (.cons (.cmp .eq (.var 15) (.lst false .nil)) .nil))) (.cons (.asg (.nm 16) (.bf .tuple (.cons (.lc false [("at", 9)] (.nm 9) (.rng1 (.bin .add (.bf .len (.cons (.var 13) .nil)) (.int 1))) .yes (.call 32 (.cons (.var 1) (.cons (.var 4) (.cons (.sl false (.var 13) .no (.yes (.var 9))) .nil))))) .nil))) .nil) .nil)
def rr7_5 : S := (.ifs (.not (.tru (.call 25 (.cons (.told 0 (.call 20 (.cons (.var 1) (.cons (.var 13) .nil)))) (.cons (.var 16) .nil))))) (.cons (.ret (.bl false)) .nil) .nil)
def rr7_6 : S := (.ifs (.not (.tru (.call 25 (.cons (.call 22 (.cons (.var 1) (.cons (.var 13) .nil))) (.cons (.and (.cons (.var 14) (.cons (.cmp .eq (.var 15) (.lst false .nil)) (.cons (.call 29 (.cons (.call 32 (.cons (.var 1) (.cons (.var 4) (.cons (.var 13) .nil)))) (.cons (.var 5) .nil))) .nil)))) .nil))))) (.cons (.ret (.bl false)) .nil) .nil)
def brr7 : Ss := (.cons rr7_1 (.cons rr7_2 (.cons rr7_3 (.cons rr7_4 (.cons rr7_5 (.cons rr7_6 .nil))))))
def rr7 : S := (.fors (.nm 13) (.seq (.lst false (.cons (.var 2) (.cons (.var 12) (.cons (.bn false .list (.cons (.var 2) .nil)) (.cons .non (.cons (.rev false (.var 2)) (.cons (.sl false (.var 2) .no (.yes (.var 11))) .nil)))))))) brr7)
def rr8 : S := (.ret (.bl true))
theorem rr_eq : s__law_rows_right = (.cons rr1 (.cons rr2 (.cons rr3 (.cons rr4 (.cons rr5 (.cons rr6 (.cons rr7 (.cons rr8 .nil)))))))) := rfl
section
variable {fuel k : Nat} {S : List Ob}
theorem alike_tps (hS : Sl S) (L : List (List Str)) (h : ∀ s ∈ L, dm (Tp s) = true ∧ s.length ≤ 10) (hl : L.length ≤ 1000) : cl fuel (k + 3) 25 [.p (.tup (L.map Tp)), .p (.tup (L.map Tp))] S = some (.ok (.bl true), S) := by
  refine alike_ hS 2 k _ ?_ ?_ ?_
  · show dmL (L.map Tp) = true
    rw [dmL_all]
    intro x hx
    obtain ⟨s, hs, rfl⟩ := List.mem_map.mp hx
    exact (h s hs).1
  · have : depL (L.map Tp) ≤ 1 := depL_le fun x hx => by
      obtain ⟨s, hs, rfl⟩ := List.mem_map.mp hx
      rw [dep_tp]
      exact Nat.le_refl _
    simp only [dep]
    omega
  · have : wtL (L.map Tp) ≤ 11 * (L.map Tp).length := wtL_le fun x hx => by
      obtain ⟨s, hs, rfl⟩ := List.mem_map.mp hx
      rw [wt_tp]
      have := (h s hs).2
      omega
    rw [List.length_map] at this
    simp only [wt]
    omega
theorem alike_bad (hS : Sl S) (x : Str) (hx : x.length ≤ 1000) : cl fuel (k + 3) 25 [.p (badP x), .p (badP x)] S = some (.ok (.bl true), S) := by
  have e1 : dm (.str x) = true := decide_eq_true (by omega)
  have e2 : dm (.str "bad") = true := by decide +kernel
  refine alike_ hS 2 k _ ?_ (by simp [dep, depL]) (by simp [wt, wtL])
  show (dm (.str "bad") && (dm (.str x) && true)) = true
  rw [e1, e2]
  rfl
theorem alike_tp (hS : Sl S) (s : List Str) (h : dm (Tp s) = true) (h2 : s.length ≤ 1000) : cl fuel (k + 3) 25 [.p (Tp s), .p (Tp s)] S = some (.ok (.bl true), S) :=
  alike_ hS 2 k _ h (by rw [dep_tp]; decide) (by rw [wt_tp]; omega)
theorem alike_bl (hS : Sl S) (b : Bool) : cl fuel (k + 3) 25 [.p (.bl b), .p (.bl b)] S = some (.ok (.bl true), S) := alike_ hS 2 k _ rfl (by simp [dep]) (by simp [wt])
theorem alike_int (hS : Sl S) (i : Int) : cl fuel (k + 3) 25 [.p (.int i), .p (.int i)] S = some (.ok (.bl true), S) := alike_ hS 2 k _ rfl (by simp [dep]) (by simp [wt])
/-- a value that may be asked -/
structure VOk (v : P) : Prop where
  dm : dm v = true
  len : ∀ vs, v = .tup vs → vs.length < 20
theorem rr71 (hS : Sl S) {l : List P} {be wi : List Str} (t : Tsk l be wi) {vs : List P} (hv : VOk (.tup vs)) (x0 x2 x3 x6 x7 x8 x9 x10 x11 x12 x14 x15 x16 : Option Wv) : evS G (Gam G ds fuel (k + 7)) fuel rr7_1 [x0, some (.p (.tup [.tup l, Tp be, Tp wi])), x2, x3, some (.p (Tp be)), some (.p (Tp wi)), x6, x7, x8, x9, x10, x11, x12, some (.p (.tup vs)), x14, x15, x16] S = some (.go .nx [x0, some (.p (.tup [.tup l, Tp be, Tp wi])), x2, x3, some (.p (Tp be)), some (.p (Tp wi)), x6, x7, x8, x9, x10, x11, x12, some (.p (.tup vs)), (some (.p (.bl true))), x15, x16], S) := by
  simp only [rr7_1]
  array_mem_dec
  rw [isi_tup hv.dm]
  simp only [isTup]
  array_mem_dec

theorem rr72 (hS : Sl S) {l : List P} {be wi : List Str} (t : Tsk l be wi) {vs : List P} (hv : VOk (.tup vs)) (x0 x2 x3 x6 x7 x8 x9 x10 x11 x12 x14 x15 x16 : Option Wv) : evS G (Gam G ds fuel (k + 7)) fuel rr7_2 [x0, some (.p (.tup [.tup l, Tp be, Tp wi])), x2, x3, some (.p (Tp be)), some (.p (Tp wi)), x6, x7, x8, x9, x10, x11, x12, some (.p (.tup vs)), (some (.p (.bl true))), x15, x16] S = some (.go .nx [x0, some (.p (.tup [.tup l, Tp be, Tp wi])), x2, x3, some (.p (Tp be)), some (.p (Tp wi)), x6, x7, x8, x9, x10, x11, x12, some (.p (.tup vs)), (some (.p (.bl true))), (some (.p (.lst (((List.range vs.length).filter fun n => (wk l be (vs.take (n + 1))).isNone).map fun n => P.int (n : Nat))))), x16], S) := by
  have hd : ∀ u ∈ vs, dm u = true := dm_of hv.dm
  have hlen := hv.len vs rfl
  have hdt : ∀ n, ∀ u ∈ vs.take n, dm u = true := fun n u hu => hd u (List.mem_of_mem_take hu)
  have sb := ste_begin t
  simp only [rr7_2]
  array_mem_dec
  rw [kRng_ok (by omega) (by omega)]
  array_mem_dec
  rw [Int.toNat_natCast, rng0, compP_map (t := fun n => (wk l be (vs.take (n + 1))).isNone) (e := fun n => .int (n : Nat)) (List.range vs.length) [] (fun n hn => ⟨_, rfl, by
    have e : ((n : Nat) : Int) + 1 = ((n + 1 : Nat) : Int) := by omega
    array_mem_dec
    rw [e, cut_to]
    array_mem_dec
    rw [walk_ hS t (hdt (n + 1)) sb]
    array_mem_dec
    have ew : (vs.take (n + 1)).foldl (walk1 l) (some be) = wk l be (vs.take (n + 1)) := rfl
    rw [ew, isF_none, isN_optT]
    array_mem_dec, fun _ => by array_mem_dec⟩)]
  array_mem_dec

theorem rr73n {v : P} (hS : Sl S) {l : List P} {be wi : List Str} (t : Tsk l be wi)  (x0 x2 x3 x6 x7 x8 x9 x10 x11 x12 x14 x15 x16 : Option Wv) : evS G (Gam G ds fuel (k + 7)) fuel rr7_3 [x0, some (.p (.tup [.tup l, Tp be, Tp wi])), x2, x3, some (.p (Tp be)), some (.p (Tp wi)), x6, x7, x8, x9, x10, x11, x12, some (.p v), x14, (some (.p (.lst []))), x16] S = some (.go .nx [x0, some (.p (.tup [.tup l, Tp be, Tp wi])), x2, x3, some (.p (Tp be)), some (.p (Tp wi)), x6, x7, x8, x9, x10, x11, x12, some (.p v), x14, (some (.p (.lst []))), (some (.p (badP "deednone")))], S) := by
  simp only [rr7_3]
  array_mem_dec
  rw [neF_nil (l := []) rfl]
  simp only [List.isEmpty_nil]
  array_mem_dec

theorem rr74y (hS : Sl S) {l : List P} {be wi : List Str} (t : Tsk l be wi) {vs : List P} (hv : VOk (.tup vs)) {ss : List (List Str)} (hr : runP l be vs 0 = .ok ss) (x0 x2 x3 x6 x7 x8 x9 x10 x11 x12 x14 x15 x16 : Option Wv) : evS G (Gam G ds fuel (k + 7)) fuel rr7_4 [x0, some (.p (.tup [.tup l, Tp be, Tp wi])), x2, x3, some (.p (Tp be)), some (.p (Tp wi)), x6, x7, x8, x9, x10, x11, x12, some (.p (.tup vs)), (some (.p (.bl true))), (some (.p (.lst []))), x16] S = some (.go .nx [x0, some (.p (.tup [.tup l, Tp be, Tp wi])), x2, x3, some (.p (Tp be)), some (.p (Tp wi)), x6, x7, x8, x9, x10, x11, x12, some (.p (.tup vs)), (some (.p (.bl true))), (some (.p (.lst []))), (some (.p (.tup ((be :: ss).map Tp))))], S) := by
  have hd : ∀ u ∈ vs, dm u = true := dm_of hv.dm
  have hlen := hv.len vs rfl
  have hdt : ∀ n, ∀ u ∈ vs.take n, dm u = true := fun n u hu => hd u (List.mem_of_mem_take hu)
  have sb := ste_begin t
  obtain ⟨i1, i2, i3, i4⟩ := run_ok t.f.names vs be 0 ss hr
  have e2 : (List.range (vs.length + 1)).map (fun n => optT (wk l be (vs.take n))) = (be :: ss).map Tp := by
    have e3 : (List.range (vs.length + 1)).map (fun n => optT (wk l be (vs.take n))) = ((List.range (vs.length + 1)).map fun n => wk l be (vs.take n)).map optT := by rw [List.map_map]; rfl
    rw [e3, i1, List.map_map]
    rfl
  have e0 : ((vs.length : Nat) : Int) + 1 = ((vs.length + 1 : Nat) : Int) := by omega
  simp only [rr7_4]
  array_mem_dec
  rw [eqF_nil (l := []) rfl]
  simp only [List.isEmpty_nil]
  array_mem_dec
  rw [kRng_ok (by omega) (by omega)]
  array_mem_dec
  rw [e0, Int.toNat_natCast, rng0, compP_map (t := fun _ => true) (e := fun n => optT (wk l be (vs.take n))) (List.range (vs.length + 1)) [] (fun n hn => ⟨_, rfl, rfl, fun _ => by
    array_mem_dec
    rw [cut_to]
    array_mem_dec
    rw [walk_ hS t (hdt n) sb]
    array_mem_dec
    rfl⟩), filt_true, e2]
  array_mem_dec

theorem rr75y (hS : Sl S) {l : List P} {be wi : List Str} (t : Tsk l be wi) {vs : List P} (hv : VOk (.tup vs)) {ss : List (List Str)} (hr : runP l be vs 0 = .ok ss) (x0 x2 x3 x6 x7 x8 x9 x10 x11 x12 x14 x15 x16 : Option Wv) : evS G (Gam G ds fuel (k + 7)) fuel rr7_5 [x0, some (.p (.tup [.tup l, Tp be, Tp wi])), x2, x3, some (.p (Tp be)), some (.p (Tp wi)), x6, x7, x8, x9, x10, x11, x12, some (.p (.tup vs)), x14, x15, (some (.p (.tup ((be :: ss).map Tp))))] S = some (.go .nx [x0, some (.p (.tup [.tup l, Tp be, Tp wi])), x2, x3, some (.p (Tp be)), some (.p (Tp wi)), x6, x7, x8, x9, x10, x11, x12, some (.p (.tup vs)), x14, x15, (some (.p (.tup ((be :: ss).map Tp))))], S) := by
  have hd : ∀ u ∈ vs, dm u = true := dm_of hv.dm
  have hlen := hv.len vs rfl
  have hdt : ∀ n, ∀ u ∈ vs.take n, dm u = true := fun n u hu => hd u (List.mem_of_mem_take hu)
  have sb := ste_begin t
  obtain ⟨i1, i2, i3, i4⟩ := run_ok t.f.names vs be 0 ss hr
  have hst := run_ste t vs be 0 ss sb hr
  have al := alike_tps (fuel := fuel) (k := k + 4) hS (be :: ss) (fun s hs => ⟨Ste.dm (hst s hs) t, (hst s hs).len t⟩) (by simp only [List.length_cons]; omega)
  simp only [rr7_5]
  array_mem_dec
  simp only [G_told0, q_fTold]
  array_mem_dec
  rw [run_ hS t hd (by omega), hr]
  simp only [List.map_cons] at al ⊢
  array_mem_dec
  rw [kTd_ok]
  array_mem_dec
  rw [al]
  array_mem_dec

theorem rr76y (hS : Sl S) {l : List P} {be wi : List Str} (t : Tsk l be wi) {vs : List P} (hv : VOk (.tup vs)) {ss : List (List Str)} (hr : runP l be vs 0 = .ok ss) (x0 x2 x3 x6 x7 x8 x9 x10 x11 x12 x14 x15 x16 : Option Wv) : evS G (Gam G ds fuel (k + 7)) fuel rr7_6 [x0, some (.p (.tup [.tup l, Tp be, Tp wi])), x2, x3, some (.p (Tp be)), some (.p (Tp wi)), x6, x7, x8, x9, x10, x11, x12, some (.p (.tup vs)), (some (.p (.bl true))), (some (.p (.lst []))), x16] S = some (.go .nx [x0, some (.p (.tup [.tup l, Tp be, Tp wi])), x2, x3, some (.p (Tp be)), some (.p (Tp wi)), x6, x7, x8, x9, x10, x11, x12, some (.p (.tup vs)), (some (.p (.bl true))), (some (.p (.lst []))), x16], S) := by
  have hd : ∀ u ∈ vs, dm u = true := dm_of hv.dm
  have hlen := hv.len vs rfl
  have hdt : ∀ n, ∀ u ∈ vs.take n, dm u = true := fun n u hu => hd u (List.mem_of_mem_take hu)
  have sb := ste_begin t
  obtain ⟨i1, i2, i3, i4⟩ := run_ok t.f.names vs be 0 ss hr
  have ew : vs.foldl (walk1 l) (some be) = some (lastS be ss) := i3
  simp only [rr7_6]
  array_mem_dec
  rw [is_plan_ hS t hd (by omega), hr]
  array_mem_dec
  rw [eqF_nil (l := []) rfl]
  simp only [List.isEmpty_nil]
  array_mem_dec
  rw [walk_ hS t hd sb]
  array_mem_dec
  rw [ew]
  simp only [optT]
  rw [holds_ hS]
  array_mem_dec
  rw [alike_bl hS]
  array_mem_dec
theorem rr_body_ok (hS : Sl S) {l : List P} {be wi : List Str} (t : Tsk l be wi) {vs : List P} (hv : VOk (.tup vs)) {ss : List (List Str)} (hr : runP l be vs 0 = .ok ss) (x0 x2 x3 x6 x7 x8 x9 x10 x11 x12 x14 x15 x16 : Option Wv) : ∃ o14 o15 o16,
    evSs G (Gam G ds fuel (k + 7)) fuel brr7 [x0, some (.p (.tup [.tup l, Tp be, Tp wi])), x2, x3, some (.p (Tp be)), some (.p (Tp wi)), x6, x7, x8, x9, x10, x11, x12, some (.p (.tup vs)), x14, x15, x16] S = some (.go .nx [x0, some (.p (.tup [.tup l, Tp be, Tp wi])), x2, x3, some (.p (Tp be)), some (.p (Tp wi)), x6, x7, x8, x9, x10, x11, x12, some (.p (.tup vs)), o14, o15, o16], S) := by
  obtain ⟨i1, i2, i3, i4⟩ := run_ok t.f.names vs be 0 ss hr
  refine ⟨some (.p (.bl true)), some (.p (.lst [])), some (.p (.tup ((be :: ss).map Tp))), ?_⟩
  have h2 := rr72 (fuel := fuel) (k := k) hS t hv x0 x2 x3 x6 x7 x8 x9 x10 x11 x12 x14 x15 x16
  rw [i2, List.map_nil] at h2
  simp (config := { implicitDefEqProofs := false }) only [brr7, evSs, q_seqS]
  rw [rr71 hS t hv (x16 := x16)]
  sizeOf_list_dec
  rw [h2]
  sizeOf_list_dec
  rw [rr73n hS t (x15 := x15)]
  sizeOf_list_dec
  rw [rr74y hS t hv hr (x14 := x14) (x15 := x15)]
  sizeOf_list_dec
  rw [rr75y hS t hv hr (x16 := x16)]
  sizeOf_list_dec
  rw [rr76y hS t hv hr (x14 := x14) (x15 := x15)]
  sizeOf_list_dec
theorem rr_body_er (hS : Sl S) {l : List P} {be wi : List Str} (t : Tsk l be wi) {vs : List P} (hv : VOk (.tup vs)) {j : Nat} (hr : runP l be vs 0 = .error j) (x0 x2 x3 x6 x7 x8 x9 x10 x11 x12 x14 x15 x16 : Option Wv) : ∃ o14 o15 o16,
    evSs G (Gam G ds fuel (k + 7)) fuel brr7 [x0, some (.p (.tup [.tup l, Tp be, Tp wi])), x2, x3, some (.p (Tp be)), some (.p (Tp wi)), x6, x7, x8, x9, x10, x11, x12, some (.p (.tup vs)), x14, x15, x16] S = some (.go .nx [x0, some (.p (.tup [.tup l, Tp be, Tp wi])), x2, x3, some (.p (Tp be)), some (.p (Tp wi)), x6, x7, x8, x9, x10, x11, x12, some (.p (.tup vs)), o14, o15, o16], S) := by
  have asc := t.f.names
  have sb := ste_begin t
  have hd : ∀ u ∈ vs, dm u = true := dm_of hv.dm
  have hlen := hv.len vs rfl
  have hdt : ∀ n, ∀ u ∈ vs.take n, dm u = true := fun n u hu => hd u (List.mem_of_mem_take hu)
  simp only [brr7]
  array_mem_dec
  simp only [rr7_1]
  array_mem_dec
  rw [isi_tup hv.dm]
  simp only [isTup]
  array_mem_dec
  simp only [rr7_2]
  array_mem_dec
  rw [kRng_ok (by omega) (by omega)]
  array_mem_dec
  rw [Int.toNat_natCast, rng0, compP_map (t := fun n => (wk l be (vs.take (n + 1))).isNone) (e := fun n => .int (n : Nat)) (List.range vs.length) [] (fun n hn => ⟨_, rfl, by
    have e : ((n : Nat) : Int) + 1 = ((n + 1 : Nat) : Int) := by omega
    array_mem_dec
    rw [e, cut_to]
    array_mem_dec
    rw [walk_ hS t (hdt (n + 1)) sb]
    array_mem_dec
    have ew : (vs.take (n + 1)).foldl (walk1 l) (some be) = wk l be (vs.take (n + 1)) := rfl
    rw [ew, isF_none, isN_optT]
    array_mem_dec, fun _ => by array_mem_dec⟩)]
  array_mem_dec
  simp only [rr7_3]
  array_mem_dec
  obtain ⟨i1, i2, ⟨rest, i3⟩, i4⟩ := run_err asc vs be 0 j hr
  obtain ⟨x, p1, p2, p3, p4⟩ := ixT_int j (by omega)
  rw [i3]
  have hdl : datL (((j - 0) :: rest).map fun n => P.int (n : Nat)) = true := datL_all.mpr fun x hx => by
    obtain ⟨z, _, rfl⟩ := List.mem_map.mp hx
    rfl
  array_mem_dec
  rw [List.map_cons] at hdl
  rw [neF_nil hdl]
  simp only [List.isEmpty_cons]
  array_mem_dec
  rw [at_zero]
  array_mem_dec
  have es : strPy [.int ((j - 0 : Nat) : Int)] = some (.str x) := p1
  rw [es]
  array_mem_dec
  rw [p2]
  array_mem_dec
  simp only [rr7_4]
  array_mem_dec
  rw [eqF_nil hdl]
  simp only [List.isEmpty_cons]
  array_mem_dec
  simp only [rr7_5]
  array_mem_dec
  simp only [G_told0, q_fTold]
  array_mem_dec
  rw [run_ hS t hd (by omega), hr]
  array_mem_dec
  rw [kTd_exc, hf_deed _ _ p3]
  array_mem_dec
  rw [alike_bad hS _ (by omega)]
  array_mem_dec
  simp only [rr7_6]
  array_mem_dec
  rw [is_plan_ hS t hd (by omega), hr]
  array_mem_dec
  rw [eqF_nil hdl]
  simp only [List.isEmpty_cons]
  array_mem_dec
  rw [alike_bl hS]
  array_mem_dec
  exact ⟨_, _, _, rfl⟩
theorem rr_body_nt (hS : Sl S) {l : List P} {be wi : List Str} (t : Tsk l be wi) {v : P} (hv : VOk v) (hn : ∀ vs, v ≠ .tup vs) (x0 x2 x3 x6 x7 x8 x9 x10 x11 x12 x14 x15 x16 : Option Wv) : ∃ o14 o15 o16,
    evSs G (Gam G ds fuel (k + 7)) fuel brr7 [x0, some (.p (.tup [.tup l, Tp be, Tp wi])), x2, x3, some (.p (Tp be)), some (.p (Tp wi)), x6, x7, x8, x9, x10, x11, x12, some (.p v), x14, x15, x16] S = some (.go .nx [x0, some (.p (.tup [.tup l, Tp be, Tp wi])), x2, x3, some (.p (Tp be)), some (.p (Tp wi)), x6, x7, x8, x9, x10, x11, x12, some (.p v), o14, o15, o16], S) := by
  have ht := asT_none hn hv.dm
  simp only [brr7]
  array_mem_dec
  simp only [rr7_1]
  array_mem_dec
  rw [isi_tup hv.dm, ht]
  array_mem_dec
  simp only [rr7_2]
  array_mem_dec
  simp only [rr7_3]
  array_mem_dec
  rw [neF_nil (l := []) rfl]
  simp only [List.isEmpty_nil]
  array_mem_dec
  simp only [rr7_4]
  array_mem_dec
  simp only [rr7_5]
  array_mem_dec
  simp only [G_told0, q_fTold]
  array_mem_dec
  rw [run_not hS t hv.dm hn]
  array_mem_dec
  rw [kTd_exc, hf_deed _ _ ixT_non]
  array_mem_dec
  rw [alike_bad hS _ (by decide)]
  array_mem_dec
  simp only [rr7_6]
  array_mem_dec
  rw [is_plan_not hS t hv.dm hn]
  array_mem_dec
  rw [alike_bl hS]
  array_mem_dec
  exact ⟨_, _, _, rfl⟩
theorem rr_body (hS : Sl S) {l : List P} {be wi : List Str} (t : Tsk l be wi) {v : P} (hv : VOk v) (x0 x2 x3 x6 x7 x8 x9 x10 x11 x12 x14 x15 x16 : Option Wv) : ∃ o14 o15 o16,
    evSs G (Gam G ds fuel (k + 7)) fuel brr7 [x0, some (.p (.tup [.tup l, Tp be, Tp wi])), x2, x3, some (.p (Tp be)), some (.p (Tp wi)), x6, x7, x8, x9, x10, x11, x12, some (.p v), x14, x15, x16] S = some (.go .nx [x0, some (.p (.tup [.tup l, Tp be, Tp wi])), x2, x3, some (.p (Tp be)), some (.p (Tp wi)), x6, x7, x8, x9, x10, x11, x12, some (.p v), o14, o15, o16], S) := by
  by_cases hT : ∃ vs, v = .tup vs
  · obtain ⟨vs, rfl⟩ := hT
    cases hr : runP l be vs 0 with
    | ok ss => exact rr_body_ok hS t hv hr _ _ _ _ _ _ _ _ _ _ _ _ _
    | error j => exact rr_body_er hS t hv hr _ _ _ _ _ _ _ _ _ _ _ _ _
  · exact rr_body_nt hS t hv (fun vs e => hT ⟨vs, e⟩) _ _ _ _ _ _ _ _ _ _ _ _ _
end
end Wr.K00

set_option maxHeartbeats 4000000
namespace Wr
open PySem PySem.Spec PyProof.Rows L2
theorem dm_name {x : P} (h : deedB x = true) : dm (.str (nameP x)) = true := by
  obtain ⟨n, a, b, c, d, q, D⟩ := deed_tp h
  have := D.nm
  rw [D.name]
  simp only [signB, Bool.and_eq_true, decide_eq_true_eq] at this
  exact decide_eq_true (by omega)
end Wr
namespace Wr.K00
open PySem PySem.Spec PyProof.Rows L2 Wr
local macro_rules
  | `(tactic| array_mem_dec) => `(tactic| simp (config := { failIfUnchanged := false, implicitDefEqProofs := false }) only [evSs, evS, evE, evEs, evAnd, evOr, evT, evAndT, evOrT, evI, evO, evTg, evBF, evBN, evBO, evCO, evCs, q_seqS, q_skip, q_fRet, q_fRetN, q_fIfS, q_bindS, q_bindF, q_ret, q_fVar, q_fC, q_fOne, q_fNot, q_fAnd, q_fOr, q_fIf, q_fTru, q_asB, q_fAndT, q_fOrT, q_fNotT, q_f2, q_fChain, q_fB, q_fBn, q_fCons, q_fNil, q_fTup, q_fLst, q_fSl, q_fRev, q_fPart, q_fLc, q_fLcN, q_fItems, q_fZip, q_rng, q_fEnum, q_fFor, q_fAsg, q_fPar, q_fRaise0, q_fRaise1, q_fSetI, q_dropS, q_fStar, q_glb, q_call,
  kB_ok, kB_exc, kB_ite, kA_bl, kO_bl, m_and, m_or, kN_bl, kO1_some, kV_p, kT_bl, m_andT, m_orT, kC2_bl, kL_p1, kNw_f, kNw_t, kSl_tup, kSl_lst, kC_f, kC_t, kS_ok, kS_exc, kS_ite, kQ_nx, kQ_ret, kQ_exc, kQ_ite, endF_ite, kR_ok, kR_exc, kR_ite, kP, allP, newL, gNm, gTupN, gNms, view_p, itemsOf_lst, itemsOf_tup, itemsOf_lsf, asL_lst, asL_lsf, asL_tup, asT_lst, asT_tup, truP_bl, vals,
  List.getElem?_cons_zero, List.getElem?_cons_succ, List.map_cons, List.map_nil, List.cons_append, List.nil_append, List.length_cons, List.length_nil, List.set_cons_zero, List.set_cons_succ, List.replicate_succ, List.replicate_zero, wipeV, Option.map_some, Option.map_none, if_true, if_false, Bool.false_eq_true, reduceCtorEq, Nat.reduceAdd, Nat.reduceSub, Nat.reduceLT, Nat.reduceLeDiff, Bool.not_true, Bool.not_false, Bool.and_true, Bool.true_and, Bool.and_false, Bool.false_and, Bool.or_true, Bool.true_or, Bool.or_false, Bool.false_or,
  kV_0, ix40, ix41, ix42, ix43, st41, st42, st43, add_int, sub_int, mul_int, mod_g, div_7, pow_18, int_int, cmpI, len_lst, len_tup, list_tup, list_lst, tup_lst, ix30, ix31, ix32, ix60, ix61, ix62, ix63, ix64, ix65])
section
variable {fuel k : Nat} {S : List Ob}
theorem rr_for (hS : Sl S) {l : List P} {be wi : List Str} (t : Tsk l be wi) (x0 x2 x3 x6 x7 x8 x9 x10 x11 x12 : Option Wv) : ∀ (vals : List P) (x13 x14 x15 x16 : Option Wv), (∀ v ∈ vals, VOk v) → ∃ o13 o14 o15 o16,
    forS (gNm 13) (evSs G (Gam G ds fuel (k + 7)) fuel brr7) vals [x0, some (.p (.tup [.tup l, Tp be, Tp wi])), x2, x3, some (.p (Tp be)), some (.p (Tp wi)), x6, x7, x8, x9, x10, x11, x12, x13, x14, x15, x16] S = some (.go .nx [x0, some (.p (.tup [.tup l, Tp be, Tp wi])), x2, x3, some (.p (Tp be)), some (.p (Tp wi)), x6, x7, x8, x9, x10, x11, x12, o13, o14, o15, o16], S)
  | [], x13, x14, x15, x16, _ => ⟨x13, x14, x15, x16, rfl⟩
  | v :: r, x13, x14, x15, x16, h => by
    obtain ⟨p14, p15, p16, hf⟩ := rr_body (fuel := fuel) (k := k) hS t (h v List.mem_cons_self) x0 x2 x3 x6 x7 x8 x9 x10 x11 x12 x14 x15 x16
    obtain ⟨o13, o14, o15, o16, ih⟩ := rr_for hS t x0 x2 x3 x6 x7 x8 x9 x10 x11 x12 r (some (.p v)) p14 p15 p16 fun u hu => h u (List.mem_cons_of_mem _ hu)
    exact ⟨o13, o14, o15, o16, by rw [forS_nx rfl hf, ih]⟩
/-- a row of names that can be done -/
structure Rows (l : List P) (be : List Str) (vs : List P) (ss : List (List Str)) : Prop where
  dm : ∀ v ∈ vs, dm v = true
  len : vs.length ≤ 10
  run : runP l be vs 0 = .ok ss
theorem rr2_ (hS : Sl S) {l : List P} {be wi : List Str} (t : Tsk l be wi) (x0 x1 x2 x4 x5 x6 x7 x8 x9 x10 x11 x12 x13 x14 x15 x16 : Option Wv) : evS G (Gam G ds fuel (k + 7)) fuel rr2 [x0, x1, x2, some (.p (.tup l)), x4, x5, x6, x7, x8, x9, x10, x11, x12, x13, x14, x15, x16] S = some (.go .nx [x0, x1, x2, some (.p (.tup l)), x4, x5, some (.p (.dK (prD [] l))), x7, x8, x9, x10, x11, x12, x13, x14, x15, x16], S) := by
  simp only [rr2]
  array_mem_dec
  rw [compP_all' (e := fun x => .tup [.str (nameP x), prcP x]) l (fun x hx => ⟨_, rfl, by
    obtain ⟨n, a, b, c, d, q, D⟩ := deed_tp (t.deed hx).1
    rw [D.name, D.eq]
    array_mem_dec
    rfl⟩)]
  array_mem_dec
  rw [dict_pairs]
  array_mem_dec
theorem rr3_ (hS : Sl S) {l : List P} {be wi : List Str} (t : Tsk l be wi) {vs : List P} {ss : List (List Str)} (R : Rows l be vs ss) (x0 x3 x5 x6 x7 x8 x9 x10 x11 x12 x13 x14 x15 x16 : Option Wv) : evS G (Gam G ds fuel (k + 7)) fuel rr3 [x0, some (.p (.tup [.tup l, Tp be, Tp wi])), some (.p (.tup vs)), x3, some (.p (Tp be)), x5, x6, x7, x8, x9, x10, x11, x12, x13, x14, x15, x16] S = some (.go .nx [x0, some (.p (.tup [.tup l, Tp be, Tp wi])), some (.p (.tup vs)), x3, some (.p (Tp be)), x5, x6, x7, some (.p (.tup ((be :: ss).map Tp))), x9, x10, x11, x12, x13, x14, x15, x16], S) := by
  have hlen := R.len
  have sb := ste_begin t
  have hdt : ∀ n, ∀ u ∈ vs.take n, dm u = true := fun n u hu => R.dm u (List.mem_of_mem_take hu)
  obtain ⟨i1, i2, i3, i4⟩ := run_ok t.f.names vs be 0 ss R.run
  have e2 : (List.range (vs.length + 1)).map (fun n => optT (wk l be (vs.take n))) = (be :: ss).map Tp := by
    have e3 : (List.range (vs.length + 1)).map (fun n => optT (wk l be (vs.take n))) = ((List.range (vs.length + 1)).map fun n => wk l be (vs.take n)).map optT := by rw [List.map_map]; rfl
    rw [e3, i1, List.map_map]
    rfl
  have e0 : ((vs.length : Nat) : Int) + 1 = ((vs.length + 1 : Nat) : Int) := by omega
  simp only [rr3]
  array_mem_dec
  rw [kRng_ok (by omega) (by omega)]
  array_mem_dec
  rw [e0, Int.toNat_natCast, rng0, compP_map (t := fun _ => true) (e := fun n => optT (wk l be (vs.take n))) (List.range (vs.length + 1)) [] (fun n hn => ⟨_, rfl, rfl, fun _ => by
    array_mem_dec
    rw [cut_to]
    array_mem_dec
    rw [walk_ hS t (hdt n) sb]
    array_mem_dec
    rfl⟩), filt_true, e2]
  array_mem_dec
theorem rr4_ (hS : Sl S) {l : List P} {be wi : List Str} (t : Tsk l be wi) {vs : List P} {ss : List (List Str)} (R : Rows l be vs ss) (x0 x3 x4 x5 x7 x9 x10 x11 x12 x13 x14 x15 x16 : Option Wv) : evS G (Gam G ds fuel (k + 7)) fuel rr4 [x0, some (.p (.tup [.tup l, Tp be, Tp wi])), some (.p (.tup vs)), x3, x4, x5, some (.p (.dK (prD [] l))), x7, some (.p (.tup ((be :: ss).map Tp))), x9, x10, x11, x12, x13, x14, x15, x16] S = some (.go .nx [x0, some (.p (.tup [.tup l, Tp be, Tp wi])), some (.p (.tup vs)), x3, x4, x5, some (.p (.dK (prD [] l))), x7, some (.p (.tup ((be :: ss).map Tp))), x9, x10, x11, x12, x13, x14, x15, x16], S) := by
  have hlen := R.len
  have sb := ste_begin t
  have hst := run_ste t vs be 0 ss sb R.run
  obtain ⟨i1, i2, i3, i4⟩ := run_ok t.f.names vs be 0 ss R.run
  have al := alike_tps (fuel := fuel) (k := k + 4) hS (be :: ss) (fun s hs => ⟨Ste.dm (hst s hs) t, (hst s hs).len t⟩) (by simp only [List.length_cons]; omega)
  simp only [rr4]
  array_mem_dec
  rw [run_ hS t R.dm (by omega), R.run]
  simp only [List.map_cons] at al ⊢
  array_mem_dec
  rw [al]
  array_mem_dec
  rw [price_ hS t R.dm (by omega) R.run]
  array_mem_dec
  rw [compP_all' (e := fun v => .int (costP l v)) vs (fun v hv' => ⟨_, rfl, by
    obtain ⟨s', x, hx⟩ := run_names R.run v hv'
    array_mem_dec
    rw [cost_ix t.f.deeds t.f.names hx]
    array_mem_dec⟩)]
  array_mem_dec
  have es : sumPy [.lst (vs.map fun v => P.int (costP l v))] = some (.int (vs.map (costP l)).sum) := by
    simp only [sumPy, asL, intsP_map, Option.map_some]
  rw [es]
  array_mem_dec
  rw [alike_int hS]
  array_mem_dec
theorem rr6_ {T : List Ob} (hT : Sl T) {ns : List Int} (hn : ns.length ≤ 63) {a b c : Int} (ha : 0 ≤ a) {l : List P} {be wi : List Str} (t : Tsk l be wi) {vs : List P} (hlen : vs.length ≤ 10) (hd : ∀ v ∈ vs, dm v = true) {j : Int} (j0 : 0 ≤ j) (x1 x4 x5 x6 x7 x8 x9 x10 x12 x13 x14 x15 x16 : Option Wv) : ∃ (m : P) (a' b' c' : Int), 0 ≤ a' ∧ VOk m ∧ evS G (Gam G ds fuel (k + 7)) fuel rr6 [some (.loc 0), x1, some (.p (.tup vs)), some (.p (.tup l)), x4, x5, x6, x7, x8, x9, x10, some (.p (.int j)), x12, x13, x14, x15, x16] (Row ns a b c :: T) = some (.go .nx [some (.loc 0), x1, some (.p (.tup vs)), some (.p (.tup l)), x4, x5, x6, x7, x8, x9, x10, some (.p (.int j)), some (.p m), x13, x14, x15, x16], Row ns a' b' c' :: T) := by
  have hl := t.f.len
  have hw : ∀ x ∈ l.map (fun x => P.str (nameP x)) ++ [.str "zz", .non, .int 2], dm x = true := by
    intro x hx
    rcases List.mem_append.mp hx with q | q
    · obtain ⟨y, hy, rfl⟩ := List.mem_map.mp q
      exact dm_name (t.deed hy).1
    · simp only [List.mem_cons, List.not_mem_nil, or_false] at q
      rcases q with rfl | rfl | rfl
      · exact by decide +kernel
      · rfl
      · rfl
  obtain ⟨x, a1, b1, c1, hx, ha1, h⟩ := pick_ (fuel := fuel) (k := k + 5) hT hn (b := b) (c := c) ha (l := l.map (fun x => P.str (nameP x)) ++ [.str "zz", .non, .int 2]) (.inl rfl) (by simp) (by simp only [List.length_append, List.length_map, List.length_cons, List.length_nil]; omega)
  have l1 : (vs.take j.toNat).length ≤ vs.length := by rw [List.length_take]; omega
  have l2 : (vs.drop j.toNat).length ≤ vs.length := by rw [List.length_drop]; omega
  refine ⟨.tup ((vs.take j.toNat ++ [x]) ++ vs.drop j.toNat), a1, b1, c1, ha1, ⟨?_, fun us e => ?_⟩, ?_⟩
  · show dmL _ = true
    rw [dmL_all]
    intro y hy
    simp only [List.mem_append, List.mem_singleton] at hy
    rcases hy with (q | q) | q
    · exact hd y (List.mem_of_mem_take q)
    · rw [q]; exact hw x hx
    · exact hd y (List.mem_of_mem_drop q)
  · have := P.tup.inj e
    rw [← this]
    simp only [List.length_append, List.length_singleton, List.length_take, List.length_drop]
    omega
  simp only [rr6]
  array_mem_dec
  rw [cut_to' _ j0]
  rw [compP_all' (e := fun x => .str (nameP x)) l (fun x hx => ⟨_, rfl, by
    obtain ⟨n, a, b, c, d, q, D⟩ := deed_tp (t.deed hx).1
    rw [D.name, D.eq]
    array_mem_dec⟩)]
  array_mem_dec
  rw [add_lst _ _ (by simp only [List.length_map, List.length_cons, List.length_nil]; omega)]
  array_mem_dec
  rw [h]
  array_mem_dec
  rw [add_tup _ _ (by simp only [List.length_cons, List.length_nil]; omega)]
  array_mem_dec
  rw [cut_from' _ j0, add_tup _ _ (by simp only [List.length_append, List.length_cons, List.length_nil]; omega)]
  array_mem_dec
theorem rows_ {ns : List Int} (hn : ns.length ≤ 63) {a b c : Int} (ha : 0 ≤ a) {l : List P} {be wi : List Str} (t : Tsk l be wi) {vs : List P} {ss : List (List Str)} (R : Rows l be vs ss) : ∃ a' b' c' : Int, 0 ≤ a' ∧ cl fuel (k + 8) 37 [.loc 0, .p (.tup [.tup l, Tp be, Tp wi]), .p (.tup vs)] [Row ns a b c] = some (.ok (.bl true), [Row ns a' b' c']) := by
  have hlen := R.len
  have hS : ∀ x y z, Sl [Row ns x y z] := fun x y z => Sl.nil.cons
  obtain ⟨r, a1, b1, c1, r0, r1, ha1, h1⟩ := taken_ (fuel := fuel) (k := k + 6) Sl.nil hn (b := b) (c := c) ha (m := ((vs.length : Nat) : Int) + 1) (by omega) (by omega)
  obtain ⟨m, a2, b2, c2, ha2, hm, h2⟩ := rr6_ (fuel := fuel) (k := k) Sl.nil hn (b := b1) (c := c1) ha1 t hlen R.dm r0 (some (.p (.tup [.tup l, Tp be, Tp wi]))) (some (.p (Tp be))) (some (.p (Tp wi))) (some (.p (.dK (prD [] l)))) none (some (.p (.tup ((be :: ss).map Tp)))) none none none none none none none
  have l1 : (vs.take r.toNat).length ≤ vs.length := by rw [List.length_take]; omega
  have hdm : dm (.tup vs) = true := dmL_all.mpr R.dm
  have vals : ∀ v ∈ [P.tup vs, m, P.lst vs, P.non, P.tup vs.reverse, P.tup (vs.take r.toNat)], VOk v := by
    intro v hv
    simp only [List.mem_cons, List.not_mem_nil, or_false] at hv
    rcases hv with rfl | rfl | rfl | rfl | rfl | rfl
    · exact ⟨hdm, fun us e => by rw [← P.tup.inj e]; omega⟩
    · exact hm
    · exact ⟨hdm, fun us e => nomatch e⟩
    · exact ⟨rfl, fun us e => nomatch e⟩
    · exact ⟨dmL_all.mpr fun x hx => R.dm x (List.mem_reverse.mp hx), fun us e => by rw [← P.tup.inj e, List.length_reverse]; omega⟩
    · exact ⟨dmL_all.mpr fun x hx => R.dm x (List.mem_of_mem_take hx), fun us e => by rw [← P.tup.inj e]; omega⟩
  obtain ⟨o13, o14, o15, o16, h3⟩ := rr_for (fuel := fuel) (k := k) (hS a2 b2 c2) t (some (.loc 0)) (some (.p (.tup vs))) (some (.p (.tup l))) (some (.p (.dK (prD [] l)))) none (some (.p (.tup ((be :: ss).map Tp)))) none none (some (.p (.int r))) (some (.p m)) _ none none none none vals
  refine ⟨a2, b2, c2, ha2, ?_⟩
  have h4 := rr4_ (fuel := fuel) (k := k) (hS a b c) t R (some (.loc 0)) (some (.p (.tup l))) (some (.p (Tp be))) (some (.p (Tp wi))) none none none none none none none none none
  simp only [List.map_cons] at h2 h3 h4
  rw [cl_def d__law_rows_right rfl]
  simp (config := { implicitDefEqProofs := false }) only [d__law_rows_right, N__law_rows_right, rr_eq, evSs, q_seqS]
  simp only [rr1]
  array_mem_dec
  rw [rr2_ (hS a b c) t]
  array_mem_dec
  rw [rr3_ (hS a b c) t R]
  array_mem_dec
  rw [h4]
  array_mem_dec
  simp only [rr5]
  array_mem_dec
  rw [h1]
  array_mem_dec
  rw [h2]
  array_mem_dec
  simp only [rr7]
  array_mem_dec
  rw [cut_to' _ r0, h3]
  array_mem_dec
  simp only [rr8]
  array_mem_dec
  exact endF_ret (hS a2 b2 c2) _ _
end
end Wr.K00

set_option maxHeartbeats 4000000
namespace Wr
open PySem PySem.Spec PyProof.Rows L2
section
variable (a b c d e f : P)
theorem c61 : cutP [a, b, c, d, e, f] none (some 1) = [a] := rfl
theorem c63 : cutP [a, b, c, d, e, f] none (some 3) = [a, b, c] := rfl
theorem c65 : cutP [a, b, c, d, e, f] none (some 5) = [a, b, c, d, e] := rfl
theorem f61 : cutP [a, b, c, d, e, f] (some 1) none = [b, c, d, e, f] := rfl
theorem f62 : cutP [a, b, c, d, e, f] (some 2) none = [c, d, e, f] := rfl
theorem f63 : cutP [a, b, c, d, e, f] (some 3) none = [d, e, f] := rfl
theorem c32 : cutP [a, b, c] none (some 2) = [a, b] := rfl
end
def L8 (n a b c d q : P) : List P := [.tup [n, a, b, c, d, .int 0], .tup [n, a, b, c, d, .int 10], .tup [n, a, b, c, d, .bl true], .tup [n, .tup [.str "b", .str "a"], b, c, d, q], .tup [n, .tup [.str "a"], .tup [.str "a"], c, d, q]]
def L9 (n a b c d q : P) : List P := [.tup [n, a, b, .tup [.str "a"], .tup [.str "a"], .int 1], .tup [.str "", a, b, c, d, q], .tup [.str (repsS 41 "x"), a, b, c, d, q], .tup [n, a, b, c, d], .lst [n, a, b, c, d, q], .non]
theorem mul_x : mulP (.str "x") (.int 41) = some (.str (repsS 41 "x")) := by
  show (((none : Option P).or (none : Option P)).or (repS (.str "x") (.int 41))) = _
  simp only [Option.none_or]
  unfold repS
  simp only
  rw [if_pos (by decide +kernel)]
  rfl
theorem dm_a : dm (.str "a") = true := by decide +kernel
theorem dm_b : dm (.str "b") = true := by decide +kernel
theorem dm_e : dm (.str "") = true := by decide +kernel
theorem dm_x : dm (.str (repsS 41 "x")) = true := by decide +kernel
theorem L89_ok {n a b c d q : P} (hn : dm n = true) (ha : dm a = true) (hb : dm b = true) (hc : dm c = true) (hd : dm d = true) (hq : dm q = true) (hw : wt n + wt a + wt b + wt c + wt d + wt q ≤ 195) : ∀ x ∈ L8 n a b c d q ++ L9 n a b c d q, dm x = true ∧ wt x ≤ 200 := by
  have p1 := wt_pos n
  have p2 := wt_pos a
  have p3 := wt_pos b
  have p4 := wt_pos c
  have p5 := wt_pos d
  have p6 := wt_pos q
  have e1 := dm_a
  have e2 := dm_b
  have e3 := dm_e
  have e4 := dm_x
  intro x hx
  simp only [L8, L9, List.cons_append, List.nil_append, List.mem_cons, List.not_mem_nil, or_false] at hx
  rcases hx with rfl | rfl | rfl | rfl | rfl | rfl | rfl | rfl | rfl | rfl | rfl
  all_goals refine ⟨?_, by simp only [wt, wtL]; omega⟩
  all_goals first | rfl | (rw [dm, dmL_all]; simp only [List.mem_cons, List.not_mem_nil, or_false, forall_eq_or_imp, forall_eq, hn, ha, hb, hc, hd, hq, e1, e2, e3, e4, true_and, and_true]; first | done | (repeat' apply And.intro) <;> first | rfl | (rw [dm, dmL_all]; simp only [List.mem_cons, List.not_mem_nil, or_false, forall_eq_or_imp, forall_eq, e1, e2, and_self]))
/-- a value that may be bent -/
def VW (v : P) : Prop := dm v = true ∧ wt v ≤ 4000
theorem vw_tup {l : List P} (h : ∀ x ∈ l, dm x = true) (hw : wtL l ≤ 3000) : VW (.tup l) := ⟨dmL_all.mpr h, by simp only [wt]; omega⟩
theorem vw_lst {l : List P} (h : ∀ x ∈ l, dm x = true) (hw : wtL l ≤ 3000) : VW (.lst l) := ⟨dmL_all.mpr h, by simp only [wt]; omega⟩
theorem wtL_app : ∀ a b : List P, wtL (a ++ b) = wtL a + wtL b
  | [], b => by simp [wtL]
  | x :: r, b => by simp only [List.cons_append, wtL, wtL_app r b]; omega
theorem wtL_rev (l : List P) : wtL l.reverse = wtL l := by
  induction l with
  | nil => rfl
  | cons x r ih => rw [List.reverse_cons, wtL_app, ih]; simp only [wtL]; omega
theorem wtL_take (n : Nat) (l : List P) : wtL (l.take n) ≤ wtL l := by
  have h := wtL_app (l.take n) (l.drop n)
  rw [List.take_append_drop] at h
  omega
theorem wtL_drop (n : Nat) (l : List P) : wtL (l.drop n) ≤ wtL l := by
  have h := wtL_app (l.take n) (l.drop n)
  rw [List.take_append_drop] at h
  omega
theorem vw3 {x y z : P} (hx : dm x = true) (hy : dm y = true) (hz : dm z = true) (hw : wt x + wt y + wt z ≤ 3000) : VW (.tup [x, y, z]) := by
  refine vw_tup ?_ (by simp only [wtL]; omega)
  simp only [List.mem_cons, List.not_mem_nil, or_false, forall_eq_or_imp, forall_eq]
  exact ⟨hx, hy, hz⟩
end Wr
namespace Wr.K00
open PySem PySem.Spec PyProof.Rows L2 Wr
local macro_rules
  | `(tactic| array_mem_dec) => `(tactic| simp (config := { failIfUnchanged := false, implicitDefEqProofs := false }) only [evSs, evS, evE, evEs, evAnd, evOr, evT, evAndT, evOrT, evI, evO, evTg, evBF, evBN, evBO, evCO, evCs, q_seqS, q_skip, q_fRet, q_fRetN, q_fIfS, q_bindS, q_bindF, q_ret, q_fVar, q_fC, q_fOne, q_fNot, q_fAnd, q_fOr, q_fIf, q_fTru, q_asB, q_fAndT, q_fOrT, q_fNotT, q_f2, q_fChain, q_fB, q_fBn, q_fCons, q_fNil, q_fTup, q_fLst, q_fSl, q_fRev, q_fPart, q_fLc, q_fLcN, q_fItems, q_fZip, q_rng, q_fEnum, q_fFor, q_fAsg, q_fPar, q_fRaise0, q_fRaise1, q_fSetI, q_dropS, q_fStar, q_glb, q_call,
  kB_ok, kB_exc, kB_ite, kA_bl, kO_bl, m_and, m_or, kN_bl, kO1_some, kV_p, kT_bl, m_andT, m_orT, kC2_bl, kL_p1, kNw_f, kNw_t, kSl_tup, kSl_lst, kC_f, kC_t, kS_ok, kS_exc, kS_ite, kQ_nx, kQ_ret, kQ_exc, kQ_ite, endF_ite, kR_ok, kR_exc, kR_ite, kP, allP, newL, gNm, gTupN, gNms, view_p, itemsOf_lst, itemsOf_tup, itemsOf_lsf, asL_lst, asL_lsf, asL_tup, asT_lst, asT_tup, truP_bl, vals,
  List.getElem?_cons_zero, List.getElem?_cons_succ, List.map_cons, List.map_nil, List.cons_append, List.nil_append, List.length_cons, List.length_nil, List.set_cons_zero, List.set_cons_succ, List.replicate_succ, List.replicate_zero, wipeV, Option.map_some, Option.map_none, if_true, if_false, Bool.false_eq_true, reduceCtorEq, Nat.reduceAdd, Nat.reduceSub, Nat.reduceLT, Nat.reduceLeDiff, Bool.not_true, Bool.not_false, Bool.and_true, Bool.true_and, Bool.and_false, Bool.false_and, Bool.or_true, Bool.true_or, Bool.or_false, Bool.false_or,
  kV_0, ix40, ix41, ix42, ix43, st41, st42, st43, add_int, sub_int, mul_int, mod_g, div_7, pow_18, int_int, cmpI, len_lst, len_tup, list_tup, list_lst, tup_lst, ix30, ix31, ix32, ix60, ix61, ix62, ix63, ix64, ix65])
def lw1 : S := (.asg (.nm 1) (.lst true (.cons (.var 0) (.cons (.int 0) (.cons (.int 20000) (.cons (.int 0) .nil))))))
def lw2 : S := (.asg (.nm 2) (.call 27 (.cons (.var 1) .nil)))
def lw3 : S := (.asg (.tup [3, 4, 5]) (.var 2))
def lw4 : S := (.asg (.nm 6) (.call 23 (.cons (.var 1) (.cons (.bf .len (.cons (.var 3) .nil)) .nil))))
def lw5 : S := (.asg (.nm 7) (.ix (.var 3) (.var 6)))
def lw6 : S := (.asg (.nm 8) (.lst false (.cons (.bin .add (.sl false (.var 7) .no (.yes (.int 5))) (.tup (.cons (.int 0) .nil))) (.cons (.bin .add (.sl false (.var 7) .no (.yes (.int 5))) (.tup (.cons (.int 10) .nil))) (.cons (.bin .add (.sl false (.var 7) .no (.yes (.int 5))) (.tup (.cons (.bl true) .nil))) (.cons (.bin .add (.bin .add (.sl false (.var 7) .no (.yes (.int 1))) (.tup (.cons (.tup (.cons (.str "b") (.cons (.str "a") .nil))) .nil))) (.sl false (.var 7) (.yes (.int 2)) .no)) (.cons (.bin .add (.bin .add (.sl false (.var 7) .no (.yes (.int 1))) (.tup (.cons (.tup (.cons (.str "a") .nil)) (.cons (.tup (.cons (.str "a") .nil)) .nil)))) (.sl false (.var 7) (.yes (.int 3)) .no)) .nil)))))))
def lw7 : S := (.asg (.nm 9) (.call 24 (.cons (.var 1) (.cons (.bin .add (.var 8) (.lst false (.cons (.bin .add (.sl false (.var 7) .no (.yes (.int 3))) (.tup (.cons (.tup (.cons (.str "a") .nil)) (.cons (.tup (.cons (.str "a") .nil)) (.cons (.int 1) .nil))))) (.cons (.bin .add (.tup (.cons (.str "") .nil)) (.sl false (.var 7) (.yes (.int 1)) .no)) (.cons (.bin .add (.tup (.cons (.bin .mul (.str "x") (.int 41)) .nil)) (.sl false (.var 7) (.yes (.int 1)) .no)) (.cons (.sl false (.var 7) .no (.yes (.int 5))) (.cons (.bn false .list (.cons (.var 7) .nil)) (.cons .non .nil)))))))) .nil))))
def lw8 : S := (.asg (.nm 10) (.lst false (.cons (.var 2) (.cons (.bn false .list (.cons (.var 2) .nil)) (.cons (.sl false (.var 2) .no (.yes (.int 2))) (.cons (.tup (.cons (.bn false .list (.cons (.var 3) .nil)) (.cons (.var 4) (.cons (.var 5) .nil)))) (.cons (.tup (.cons (.bin .add (.bin .add (.sl false (.var 3) .no (.yes (.var 6))) (.tup (.cons (.var 9) .nil))) (.sl false (.var 3) (.yes (.bin .add (.var 6) (.int 1))) .no)) (.cons (.var 4) (.cons (.var 5) .nil)))) .nil)))))))
def lw9 : S := (.asg (.nm 10) (.bin .add (.var 10) (.lst false (.cons (.tup (.cons (.bin .add (.var 3) (.tup (.cons (.var 7) .nil))) (.cons (.var 4) (.cons (.var 5) .nil)))) (.cons (.tup (.cons (.rev false (.var 3)) (.cons (.var 4) (.cons (.var 5) .nil)))) (.cons .non (.cons (.int 3) (.cons (.tup (.cons (.var 3) (.cons (.bn false .list (.cons (.var 4) .nil)) (.cons (.var 5) .nil)))) (.cons (.tup (.cons (.var 3) (.cons (.tup (.cons (.str "b") (.cons (.str "a") .nil))) (.cons (.var 5) .nil)))) .nil)))))))))
def lw10 : S := (.asg (.nm 10) (.bin .add (.bin .add (.var 10) (.lc false [("value", 11)] (.nm 11) (.seq (.lst false (.cons (.tup (.cons (.str "a") (.cons (.str "a") .nil))) (.cons .non (.cons (.tup (.cons (.int 1) .nil)) .nil))))) .yes (.tup (.cons (.var 3) (.cons (.var 4) (.cons (.var 11) .nil)))))) (.lst false (.cons (.tup (.cons (.var 3) (.cons (.bf .tuple (.cons (.bn false .list (.cons (.str "abcdefghijk") .nil)) .nil)) (.cons (.var 5) .nil)))) (.cons (.tup (.cons (.var 3) (.cons (.tup (.cons (.str "") (.cons (.str "a") .nil))) (.cons (.var 5) .nil)))) .nil)))))
def lw11 : S := (.asg (.nm 12) (.bf .tuple (.cons (.lc false [("j", 13)] (.nm 13) (.rng1 (.int 15)) .yes (.tup (.cons (.bin .add (.str "n") (.bf .str (.cons (.bin .add (.int 10) (.var 13)) .nil))) (.cons (.tup .nil) (.cons (.tup .nil) (.cons (.tup .nil) (.cons (.tup .nil) (.cons (.int 1) .nil)))))))) .nil)))
def lw12_1 : S := (.asg (.nm 14) (.call 36 (.cons (.var 11) .nil)))
def lw12_2 : S := (.ifs (.not (.tru (.call 25 (.cons (.call 10 (.cons (.var 11) .nil)) (.cons (.cmp .is (.var 14) .non) .nil))))) (.cons (.ret (.bl false)) .nil) .nil)
def lw12_3 : S := (.ifs (.and (.cons (.cmp .isnot (.var 14) .non) (.cons (.cmp .ne (.told 0 (.call 12 (.cons (.var 11) .nil))) (.tup (.cons (.str "bad") (.cons (.var 14) .nil)))) .nil))) (.cons (.ret (.bl false)) .nil) .nil)
def lw12_4 : S := (.ifs (.and (.cons (.cmp .isnot (.var 14) .non) (.cons (.cmp .ne (.lc false [("ask", 15)] (.nm 15) (.seq (.lst false (.cons (.glb 4) (.cons (.glb 5) (.cons (.glb 6) (.cons (.glb 7) .nil)))))) .yes (.told 0 (.callv 15 (.cons (.var 11) (.cons .non .nil))))) (.bin .mul (.lst false (.cons (.tup (.cons (.str "bad") (.cons (.var 14) .nil))) .nil)) (.int 4))) .nil))) (.cons (.ret (.bl false)) .nil) .nil)
def blw12 : Ss := (.cons lw12_1 (.cons lw12_2 (.cons lw12_3 (.cons lw12_4 .nil))))
def lw12 : S := (.fors (.nm 11) (.seq (.bin .add (.var 10) (.lst false (.cons (.tup (.cons (.var 12) (.cons (.var 4) (.cons (.var 5) .nil)))) (.cons (.tup (.cons (.sl false (.var 12) .no (.yes (.int 14))) (.cons (.var 4) (.cons (.var 5) .nil)))) (.cons (.tup (.cons (.tup .nil) (.cons (.tup .nil) (.cons (.tup .nil) .nil)))) .nil)))))) blw12)
def lw13 : S := (.ifs (.not (.tru (.call 25 (.cons (.call 12 (.cons (.var 2) .nil)) (.cons (.bf .tuple (.cons (.call 28 (.cons (.var 2) .nil)) .nil)) .nil))))) (.cons (.ret (.bl false)) .nil) .nil)
def lw14 : S := (.asg (.tup [16, 17]) (.tup (.cons (.var 4) (.cons (.tup .nil) .nil))))
def lw15_1 : S := (.asg (.nm 19) (.lc false [("deed", 22)] (.nm 22) (.seq (.var 3)) (.cmp .isnot (.call 30 (.cons (.var 16) (.cons (.var 22) .nil))) .non) (.var 22)))
def lw15_2 : S := (.ifs (.not (.tru (.call 25 (.cons (.call 18 (.cons (.var 2) (.cons (.var 16) .nil))) (.cons (.bf .tuple (.cons (.lc false [("deed", 22)] (.nm 22) (.seq (.var 19)) .yes (.ix (.var 22) (.int 0))) .nil)) .nil))))) (.cons (.ret (.bl false)) .nil) .nil)
def lw15_3_1 : S := (.asg (.nm 8) (.lc false [("deed", 22)] (.nm 22) (.seq (.var 19)) (.cmp .eq (.ix (.var 22) (.int 0)) (.var 11)) (.var 22)))
def lw15_3_2 : S := (.asg (.nm 20) (.ite (.cmp .ne (.var 8) (.lst false .nil)) (.call 30 (.cons (.var 16) (.cons (.ix (.var 8) (.int 0)) .nil))) (.tup (.cons (.str "bad") (.cons (.str "deednone") .nil)))))
def lw15_3_3 : S := (.ifs (.not (.tru (.call 25 (.cons (.told 0 (.call 19 (.cons (.var 2) (.cons (.var 16) (.cons (.var 11) .nil))))) (.cons (.var 20) .nil))))) (.cons (.ret (.bl false)) .nil) .nil)
def blw15_3 : Ss := (.cons lw15_3_1 (.cons lw15_3_2 (.cons lw15_3_3 .nil)))
def lw15_3 : S := (.fors (.nm 11) (.seq (.bin .add (.lc false [("deed", 22)] (.nm 22) (.seq (.var 3)) .yes (.ix (.var 22) (.int 0))) (.lst false (.cons (.str "zz") (.cons .non (.cons (.int 1) (.cons (.tup (.cons (.str "p") .nil)) .nil))))))) blw15_3)
def lw15_4 : S := (.ifs (.cmp .ne (.var 19) (.lst false .nil)) (.cons (.asg (.nm 21) (.call 24 (.cons (.var 1) (.cons (.var 19) .nil)))) (.cons (.asg (.tup [16, 17]) (.tup (.cons (.call 30 (.cons (.var 16) (.cons (.var 21) .nil))) (.cons (.bin .add (.var 17) (.tup (.cons (.ix (.var 21) (.int 0)) .nil))) .nil)))) .nil)) .nil)
def blw15 : Ss := (.cons lw15_1 (.cons lw15_2 (.cons lw15_3 (.cons lw15_4 .nil))))
def lw15 : S := (.fors (.nm 18) (.rng1 (.int 6)) blw15)
def lw16 : S := (.ifs (.not (.tru (.call 37 (.cons (.var 1) (.cons (.var 2) (.cons (.var 17) .nil)))))) (.cons (.ret (.bl false)) .nil) .nil)
def lw17 : S := (.ret (.cmp .eq (.lc false [("value", 11)] (.nm 11) (.seq (.lst false (.cons .non (.cons (.bn false .list (.cons (.var 4) .nil)) (.cons (.tup (.cons (.str "zz") .nil)) (.cons (.tup (.cons (.str "b") (.cons (.str "a") .nil))) (.cons (.str "a") .nil))))))) (.cmp .ne (.told 0 (.call 18 (.cons (.var 2) (.cons (.var 11) .nil)))) (.tup (.cons (.str "bad") (.cons (.str "state") .nil)))) (.var 11)) (.lst false .nil)))
theorem lw_eq : s_law = (.cons lw1 (.cons lw2 (.cons lw3 (.cons lw4 (.cons lw5 (.cons lw6 (.cons lw7 (.cons lw8 (.cons lw9 (.cons lw10 (.cons lw11 (.cons lw12 (.cons lw13 (.cons lw14 (.cons lw15 (.cons lw16 (.cons lw17 .nil))))))))))))))))) := rfl
section
variable {fuel k : Nat} {S : List Ob}
theorem lw6_ (n a b c d q : P) (x0 x1 x2 x3 x4 x5 x6 x8 x9 x10 x11 x12 x13 x14 x15 x16 x17 x18 x19 x20 x21 x22 : Option Wv) : evS G (Gam G ds fuel (k + 8)) fuel lw6 [x0, x1, x2, x3, x4, x5, x6, some (.p (.tup [n, a, b, c, d, q])), x8, x9, x10, x11, x12, x13, x14, x15, x16, x17, x18, x19, x20, x21, x22] S = some (.go .nx [x0, x1, x2, x3, x4, x5, x6, some (.p (.tup [n, a, b, c, d, q])), some (.p (.lst (L8 n a b c d q))), x9, x10, x11, x12, x13, x14, x15, x16, x17, x18, x19, x20, x21, x22], S) := by
  simp only [lw6]
  array_mem_dec
  simp only [c61, c63, c65, f61, f62, f63]
  rw [add_tup _ _ (by simp), add_tup _ _ (by simp), add_tup _ _ (by simp), add_tup [n] _ (by simp), add_tup [n] _ (by simp)]
  array_mem_dec
  rw [add_tup _ _ (by simp), add_tup _ _ (by simp)]
  array_mem_dec
  rfl
theorem lw7_ {T : List Ob} (hT : Sl T) {ns : List Int} (hn : ns.length ≤ 63) {u v w : Int} (hu : 0 ≤ u) (n a b c d q : P) (x0 x2 x3 x4 x5 x6 x9 x10 x11 x12 x13 x14 x15 x16 x17 x18 x19 x20 x21 x22 : Option Wv) : ∃ (y : P) (u' v' w' : Int), y ∈ L8 n a b c d q ++ L9 n a b c d q ∧ 0 ≤ u' ∧ evS G (Gam G ds fuel (k + 8)) fuel lw7 [x0, some (.loc 0), x2, x3, x4, x5, x6, some (.p (.tup [n, a, b, c, d, q])), some (.p (.lst (L8 n a b c d q))), x9, x10, x11, x12, x13, x14, x15, x16, x17, x18, x19, x20, x21, x22] (Row ns u v w :: T) = some (.go .nx [x0, some (.loc 0), x2, x3, x4, x5, x6, some (.p (.tup [n, a, b, c, d, q])), some (.p (.lst (L8 n a b c d q))), some (.p y), x10, x11, x12, x13, x14, x15, x16, x17, x18, x19, x20, x21, x22], Row ns u' v' w' :: T) := by
  obtain ⟨y, u1, v1, w1, hy, hu1, h⟩ := pick_ (fuel := fuel) (k := k + 6) hT hn (b := v) (c := w) hu (l := L8 n a b c d q ++ L9 n a b c d q) (.inl rfl) (by simp [L8, L9]) (by simp [L8, L9])
  refine ⟨y, u1, v1, w1, hy, hu1, ?_⟩
  simp only [lw7]
  array_mem_dec
  simp only [c61, c63, c65, f61, f62, f63]
  rw [add_tup _ _ (by simp), add_tup _ _ (by simp)]
  array_mem_dec
  rw [mul_x]
  array_mem_dec
  rw [add_tup _ _ (by simp)]
  array_mem_dec
  have e : addP (.lst (L8 n a b c d q)) (.lst (L9 n a b c d q)) = some (.lst (L8 n a b c d q ++ L9 n a b c d q)) := add_lst _ _ (by simp [L8, L9])
  simp only [L9] at e
  rw [e]
  simp only [L9] at h
  array_mem_dec
  rw [h]
  array_mem_dec
/-- lists of values that may be asked -/
def BW (B : List P) : Prop := (∀ v ∈ B, VW v) ∧ B.length ≤ 100
theorem BW.app {A B : List P} (hA : BW A) (hB : BW B) (h : A.length + B.length ≤ 100) : BW (A ++ B) := ⟨fun v hv => (List.mem_append.mp hv).elim (hA.1 v) (hB.1 v), by rw [List.length_append]; exact h⟩
structure TaskW (l : List P) (be wi : List Str) : Prop where
  dl : ∀ x ∈ l, dm x = true
  wl : wtL l ≤ 300
  db : dm (Tp be) = true
  wb : wt (Tp be) ≤ 20
  dw : dm (Tp wi) = true
  ww : wt (Tp wi) ≤ 20
  len : l.length ≤ 7
theorem lw8_ {l : List P} {be wi : List Str} (W : TaskW l be wi) {j : Int} (j0 : 0 ≤ j) {y : P} (dy : dm y = true) (wy : wt y ≤ 200) (x0 x1 x7 x8 x10 x11 x12 x13 x14 x15 x16 x17 x18 x19 x20 x21 x22 : Option Wv) : ∃ B, BW B ∧ B.length = 5 ∧ evS G (Gam G ds fuel (k + 8)) fuel lw8 [x0, x1, some (.p (.tup [.tup l, Tp be, Tp wi])), some (.p (.tup l)), some (.p (Tp be)), some (.p (Tp wi)), some (.p (.int j)), x7, x8, some (.p y), x10, x11, x12, x13, x14, x15, x16, x17, x18, x19, x20, x21, x22] S = some (.go .nx [x0, x1, some (.p (.tup [.tup l, Tp be, Tp wi])), some (.p (.tup l)), some (.p (Tp be)), some (.p (Tp wi)), some (.p (.int j)), x7, x8, some (.p y), some (.p (.lst B)), x11, x12, x13, x14, x15, x16, x17, x18, x19, x20, x21, x22], S) := by
  have dl := W.dl
  have wl := W.wl
  have wb := W.wb
  have ww := W.ww
  have len := W.len
  have dt : dm (.tup l) = true := dmL_all.mpr dl
  have l1 : (l.take j.toNat).length ≤ l.length := by rw [List.length_take]; omega
  have l2 : (l.drop (j + 1).toNat).length ≤ l.length := by rw [List.length_drop]; omega
  have w1 := wtL_take j.toNat l
  have w2 := wtL_drop (j + 1).toNat l
  have wt1 : wt (.tup l) = wtL l + 1 := rfl
  have wt2 : wt (.lst l) = wtL l + 1 := rfl
  have d5 : dm (.tup (l.take j.toNat ++ [y] ++ l.drop (j + 1).toNat)) = true := dmL_all.mpr fun x hx => by
    simp only [List.mem_append, List.mem_singleton] at hx
    rcases hx with (q | q) | q
    · exact dl x (List.mem_of_mem_take q)
    · exact q ▸ dy
    · exact dl x (List.mem_of_mem_drop q)
  have w5 : wt (.tup (l.take j.toNat ++ [y] ++ l.drop (j + 1).toNat)) ≤ 1000 := by
    simp only [wt, wtL_app, wtL]
    omega
  have vt := vw3 dt W.db W.dw (by omega)
  refine ⟨[.tup [.tup l, Tp be, Tp wi], .lst [.tup l, Tp be, Tp wi], .tup [.tup l, Tp be], .tup [.lst l, Tp be, Tp wi], .tup [.tup (l.take j.toNat ++ [y] ++ l.drop (j + 1).toNat), Tp be, Tp wi]], ⟨fun v hv => ?_, by simp⟩, rfl, ?_⟩
  · simp only [List.mem_cons, List.not_mem_nil, or_false] at hv
    rcases hv with rfl | rfl | rfl | rfl | rfl
    · exact vt
    · exact ⟨vt.1, vt.2⟩
    · refine vw_tup ?_ (by simp only [wtL]; omega)
      simp only [List.mem_cons, List.not_mem_nil, or_false, forall_eq_or_imp, forall_eq]
      exact ⟨dt, W.db⟩
    · exact vw3 (x := .lst l) dt W.db W.dw (by omega)
    · exact vw3 d5 W.db W.dw (by omega)
  simp only [lw8]
  array_mem_dec
  simp only [c32]
  rw [cut_to' _ j0, cut_from' _ (by omega), add_tup _ _ (by simp only [List.length_cons, List.length_nil]; omega)]
  array_mem_dec
  rw [add_tup _ _ (by simp only [List.length_append, List.length_cons, List.length_nil]; omega)]
  array_mem_dec
theorem lw9_ {l : List P} {be wi : List Str} (W : TaskW l be wi) {B : List P} (hB : BW B) (hl : B.length ≤ 50) {y : P} (dy : dm y = true) (wy : wt y ≤ 200) (x0 x1 x2 x6 x8 x9 x11 x12 x13 x14 x15 x16 x17 x18 x19 x20 x21 x22 : Option Wv) : ∃ C, BW C ∧ C.length = B.length + 6 ∧ evS G (Gam G ds fuel (k + 8)) fuel lw9 [x0, x1, x2, some (.p (.tup l)), some (.p (Tp be)), some (.p (Tp wi)), x6, some (.p y), x8, x9, some (.p (.lst B)), x11, x12, x13, x14, x15, x16, x17, x18, x19, x20, x21, x22] S = some (.go .nx [x0, x1, x2, some (.p (.tup l)), some (.p (Tp be)), some (.p (Tp wi)), x6, some (.p y), x8, x9, some (.p (.lst C)), x11, x12, x13, x14, x15, x16, x17, x18, x19, x20, x21, x22], S) := by
  have dl := W.dl
  have wl := W.wl
  have wb := W.wb
  have ww := W.ww
  have len := W.len
  have dt : dm (.tup l) = true := dmL_all.mpr dl
  have wt1 : wt (.tup l) = wtL l + 1 := rfl
  have d1 : dm (.tup (l ++ [y])) = true := dmL_all.mpr fun x hx => by
    simp only [List.mem_append, List.mem_singleton] at hx
    rcases hx with q | q
    · exact dl x q
    · exact q ▸ dy
  have w1 : wt (.tup (l ++ [y])) ≤ 1000 := by
    simp only [wt, wtL_app, wtL]
    omega
  have d2 : dm (.tup l.reverse) = true := dmL_all.mpr fun x hx => dl x (List.mem_reverse.mp hx)
  have w2 : wt (.tup l.reverse) ≤ 1000 := by
    simp only [wt, wtL_rev]
    omega
  have d3 : dm (.tup [.str "b", .str "a"]) = true := by decide +kernel
  have hC : BW [.tup [.tup (l ++ [y]), Tp be, Tp wi], .tup [.tup l.reverse, Tp be, Tp wi], .non, .int 3, .tup [.tup l, .lst (be.map .str), Tp wi], .tup [.tup l, .tup [.str "b", .str "a"], Tp wi]] := by
    refine ⟨fun v hv => ?_, by simp⟩
    simp only [List.mem_cons, List.not_mem_nil, or_false] at hv
    rcases hv with rfl | rfl | rfl | rfl | rfl | rfl
    · exact vw3 d1 W.db W.dw (by omega)
    · exact vw3 d2 W.db W.dw (by omega)
    · exact ⟨rfl, by decide⟩
    · exact ⟨rfl, by decide⟩
    · exact vw3 (y := .lst (be.map .str)) dt W.db W.dw (by have : wt (.lst (be.map P.str)) = wt (Tp be) := rfl; omega)
    · exact vw3 dt d3 W.dw (by have : wt (.tup [.str "b", .str "a"]) = 3 := rfl; omega)
  refine ⟨_, hB.app hC (by simp only [List.length_cons, List.length_nil]; omega), by simp, ?_⟩
  simp only [lw9]
  array_mem_dec
  rw [add_tup _ _ (by simp only [List.length_cons, List.length_nil]; omega)]
  array_mem_dec
  rw [add_lst _ _ (by simp only [List.length_cons, List.length_nil]; omega)]
  array_mem_dec
def letK : List Str := ["a", "b", "c", "d", "e", "f", "g", "h", "i", "j", "k"]
theorem sg_k : (listPy [.str "abcdefghijk"]).or (listS [.str "abcdefghijk"]) = some (letK.map .str) := by
  rw [list_str _ (by decide)]
  have : signsS "abcdefghijk" = letK := by decide +kernel
  rw [this]
theorem lw10_ {l : List P} {be wi : List Str} (W : TaskW l be wi) {B : List P} (hB : BW B) (hl : B.length ≤ 50) (x0 x1 x2 x6 x7 x8 x9 x11 x12 x13 x14 x15 x16 x17 x18 x19 x20 x21 x22 : Option Wv) : ∃ C, BW C ∧ C.length = B.length + 5 ∧ evS G (Gam G ds fuel (k + 8)) fuel lw10 [x0, x1, x2, some (.p (.tup l)), some (.p (Tp be)), some (.p (Tp wi)), x6, x7, x8, x9, some (.p (.lst B)), x11, x12, x13, x14, x15, x16, x17, x18, x19, x20, x21, x22] S = some (.go .nx [x0, x1, x2, some (.p (.tup l)), some (.p (Tp be)), some (.p (Tp wi)), x6, x7, x8, x9, some (.p (.lst C)), x11, x12, x13, x14, x15, x16, x17, x18, x19, x20, x21, x22], S) := by
  have wl := W.wl
  have wb := W.wb
  have ww := W.ww
  have dt : dm (.tup l) = true := dmL_all.mpr W.dl
  have wt1 : wt (.tup l) = wtL l + 1 := rfl
  have d1 : dm (.tup [.str "a", .str "a"]) = true := by decide +kernel
  have d4 : dm (.tup (letK.map .str)) = true := by decide +kernel
  have d5 : dm (.tup [.str "", .str "a"]) = true := by decide +kernel
  have hC : BW [.tup [.tup l, Tp be, .tup [.str "a", .str "a"]], .tup [.tup l, Tp be, .non], .tup [.tup l, Tp be, .tup [.int 1]]] := by
    refine ⟨fun v hv => ?_, by simp⟩
    simp only [List.mem_cons, List.not_mem_nil, or_false] at hv
    rcases hv with rfl | rfl | rfl
    · exact vw3 dt W.db d1 (by have : wt (.tup [.str "a", .str "a"]) = 3 := rfl; omega)
    · exact vw3 dt W.db rfl (by have : wt .non = 1 := rfl; omega)
    · exact vw3 dt W.db rfl (by have : wt (.tup [.int 1]) = 2 := rfl; omega)
  have hD : BW [.tup [.tup l, .tup (letK.map .str), Tp wi], .tup [.tup l, .tup [.str "", .str "a"], Tp wi]] := by
    refine ⟨fun v hv => ?_, by simp⟩
    simp only [List.mem_cons, List.not_mem_nil, or_false] at hv
    rcases hv with rfl | rfl
    · exact vw3 dt d4 W.dw (by have : wt (.tup (letK.map .str)) = 12 := rfl; omega)
    · exact vw3 dt d5 W.dw (by have : wt (.tup [.str "", .str "a"]) = 3 := rfl; omega)
  have hBC := hB.app hC (by simp only [List.length_cons, List.length_nil]; omega)
  refine ⟨_, hBC.app hD (by simp only [List.length_append, List.length_cons, List.length_nil]; omega), by simp, ?_⟩
  simp only [lw10]
  array_mem_dec
  rw [compP_all' (e := fun v => .tup [.tup l, Tp be, v]) [.tup [.str "a", .str "a"], .non, .tup [.int 1]] (fun x hx => ⟨_, rfl, by array_mem_dec⟩)]
  array_mem_dec
  rw [add_lst _ _ (by simp only [List.length_cons, List.length_nil]; omega), sg_k]
  array_mem_dec
  rw [add_lst _ _ (by simp only [List.length_append, List.length_cons, List.length_nil]; omega)]
  array_mem_dec
end
end Wr.K00

set_option maxHeartbeats 4000000
namespace Wr
open PySem PySem.Spec PyProof.Rows L2
theorem wrong_dm {v : P} {w : Str} (h : wrong v = some w) : dm (.str w) = true ∧ w.length ≤ 1000 := by
  unfold wrong at h
  split at h
  · split at h
    · cases h; exact ⟨by decide +kernel, by decide +kernel⟩
    · split at h
      · cases h; exact ⟨by decide +kernel, by decide +kernel⟩
      · split at h
        · cases h; exact ⟨by decide +kernel, by decide +kernel⟩
        · split at h
          · cases h; exact ⟨by decide +kernel, by decide +kernel⟩
          · split at h
            · cases h; exact ⟨by decide +kernel, by decide +kernel⟩
            · split at h
              · cases h; exact ⟨by decide +kernel, by decide +kernel⟩
              · cases h
  · cases h; exact ⟨by decide +kernel, by decide +kernel⟩
  · cases h; exact ⟨by decide +kernel, by decide +kernel⟩
theorem bad_dm {w : Str} (h : dm (.str w) = true) : dm (badP w) = true := by
  have e : dm (.str "bad") = true := by decide +kernel
  show (dm (.str "bad") && (dm (.str w) && true)) = true
  rw [e, h]
  rfl
theorem bad_dep (w : Str) : dep (badP w) ≤ 64 := by
  have : dep (badP w) = 1 := by simp [dep, depL]
  omega
theorem mul_4 (b : P) : mulP (.lst [b]) (.int 4) = some (.lst [b, b, b, b]) := by
  show (((none : Option P).or (repLst (.lst [b]) (.int 4))).or (repS (.lst [b]) (.int 4))) = _
  have : repLst (.lst [b]) (.int 4) = some (.lst [b, b, b, b]) := by
    unfold repLst
    simp only
    rw [if_pos ⟨by decide, by decide, by rw [sizeLine_eq]; simp⟩]
    rfl
  rw [this]
  rfl
def nmJ (j : Nat) : P := match strP1 (.int (10 + j)) with
  | some (.str x) => .tup [.str ("n" ++ x), .tup [], .tup [], .tup [], .tup [], .int 1]
  | _ => .non
def nmOk (j : Nat) : Bool := match strP1 (.int (10 + j)) with
  | some (.str x) => K00.isT (addP (.str "n") (.str x)) ("n" ++ x) && dm (.str ("n" ++ x))
  | _ => false
theorem nmOks : (List.range 15).all nmOk = true := by decide +kernel
theorem nmJ_ok {j : Nat} (h : j < 15) : ∃ x : Str, strPy [.int (10 + (j : Int))] = some (.str x) ∧ addP (.str "n") (.str x) = some (.str ("n" ++ x)) ∧ nmJ j = .tup [.str ("n" ++ x), .tup [], .tup [], .tup [], .tup [], .int 1] ∧ dm (nmJ j) = true ∧ wt (nmJ j) = 7 := by
  have h := List.all_eq_true.mp nmOks j (List.mem_range.mpr h)
  unfold nmOk at h
  unfold nmJ
  split at h
  · rename_i x hx
    simp only [Bool.and_eq_true] at h
    refine ⟨x, hx, K00.isT_eq h.1, ?_, ?_, ?_⟩
    · rfl
    · show (dm (.str ("n" ++ x)) && _) = true
      rw [h.2]
      rfl
    · rfl
  · cases h
end Wr
namespace Wr.K00
open PySem PySem.Spec PyProof.Rows L2 Wr
local macro_rules
  | `(tactic| array_mem_dec) => `(tactic| simp (config := { failIfUnchanged := false, implicitDefEqProofs := false }) only [evSs, evS, evE, evEs, evAnd, evOr, evT, evAndT, evOrT, evI, evO, evTg, evBF, evBN, evBO, evCO, evCs, q_seqS, q_skip, q_fRet, q_fRetN, q_fIfS, q_bindS, q_bindF, q_ret, q_fVar, q_fC, q_fOne, q_fNot, q_fAnd, q_fOr, q_fIf, q_fTru, q_asB, q_fAndT, q_fOrT, q_fNotT, q_f2, q_fChain, q_fB, q_fBn, q_fCons, q_fNil, q_fTup, q_fLst, q_fSl, q_fRev, q_fPart, q_fLc, q_fLcN, q_fItems, q_fZip, q_rng, q_fEnum, q_fFor, q_fAsg, q_fPar, q_fRaise0, q_fRaise1, q_fSetI, q_dropS, q_fStar, q_glb, q_call,
  kB_ok, kB_exc, kB_ite, kA_bl, kO_bl, m_and, m_or, kN_bl, kO1_some, kV_p, kT_bl, m_andT, m_orT, kC2_bl, kL_p1, kNw_f, kNw_t, kSl_tup, kSl_lst, kC_f, kC_t, kS_ok, kS_exc, kS_ite, kQ_nx, kQ_ret, kQ_exc, kQ_ite, endF_ite, kR_ok, kR_exc, kR_ite, kP, allP, newL, gNm, gTupN, gNms, view_p, itemsOf_lst, itemsOf_tup, itemsOf_lsf, asL_lst, asL_lsf, asL_tup, asT_lst, asT_tup, truP_bl, vals,
  List.getElem?_cons_zero, List.getElem?_cons_succ, List.map_cons, List.map_nil, List.cons_append, List.nil_append, List.length_cons, List.length_nil, List.set_cons_zero, List.set_cons_succ, List.replicate_succ, List.replicate_zero, wipeV, Option.map_some, Option.map_none, if_true, if_false, Bool.false_eq_true, reduceCtorEq, Nat.reduceAdd, Nat.reduceSub, Nat.reduceLT, Nat.reduceLeDiff, Bool.not_true, Bool.not_false, Bool.and_true, Bool.true_and, Bool.and_false, Bool.false_and, Bool.or_true, Bool.true_or, Bool.or_false, Bool.false_or,
  kV_0, ix40, ix41, ix42, ix43, st41, st42, st43, add_int, sub_int, mul_int, mod_g, div_7, pow_18, int_int, cmpI, len_lst, len_tup, list_tup, list_lst, tup_lst, ix30, ix31, ix32, ix60, ix61, ix62, ix63, ix64, ix65])
local macro_rules
  | `(tactic| sizeOf_list_dec) => `(tactic| simp (config := { failIfUnchanged := false, implicitDefEqProofs := false }) only [evSs, q_seqS, q_skip, kQ_nx, kQ_ret, kQ_exc])
def manyL : List P := (List.range 15).map nmJ
section
variable {fuel k : Nat} {S : List Ob}
theorem lw11_ (x0 x1 x2 x3 x4 x5 x6 x7 x8 x9 x10 x11 x12 x13 x14 x15 x16 x17 x18 x19 x20 x21 x22 : Option Wv) : evS G (Gam G ds fuel (k + 8)) fuel lw11 [x0, x1, x2, x3, x4, x5, x6, x7, x8, x9, x10, x11, x12, x13, x14, x15, x16, x17, x18, x19, x20, x21, x22] S = some (.go .nx [x0, x1, x2, x3, x4, x5, x6, x7, x8, x9, x10, x11, some (.p (.tup manyL)), x13, x14, x15, x16, x17, x18, x19, x20, x21, x22], S) := by
  simp only [lw11]
  array_mem_dec
  rw [kRng_ok (by decide) (by decide)]
  array_mem_dec
  have e15 : (15 : Int).toNat = 15 := rfl
  rw [e15, rng0, compP_map (t := fun _ => true) (e := nmJ) (List.range 15) [] (fun j hj => ⟨_, rfl, rfl, fun _ => by
    obtain ⟨x, p1, p2, p3, _⟩ := nmJ_ok (List.mem_range.mp hj)
    rw [p3]
    array_mem_dec
    rw [p1]
    array_mem_dec
    rw [p2]
    array_mem_dec⟩), filt_true]
  array_mem_dec
  rfl
theorem many_ok : (∀ x ∈ manyL, dm x = true) ∧ wtL manyL ≤ 200 ∧ manyL.length = 15 := by
  have h : ∀ x ∈ manyL, dm x = true ∧ wt x ≤ 7 := fun x hx => by
    obtain ⟨j, hj, rfl⟩ := List.mem_map.mp hx
    obtain ⟨y, _, _, _, p4, p5⟩ := nmJ_ok (List.mem_range.mp hj)
    exact ⟨p4, by omega⟩
  have hl : manyL.length = 15 := by simp [manyL]
  have := wtL_le fun x hx => (h x hx).2
  exact ⟨fun x hx => (h x hx).1, by omega, hl⟩
/-- the judging of one value -/
theorem l12_body (hS : Sl S) {v : P} (hv : VW v) (x0 x1 x2 x3 x4 x5 x6 x7 x8 x9 x10 x12 x13 x14 x15 x16 x17 x18 x19 x20 x21 x22 : Option Wv) : ∃ o14, evSs G (Gam G ds fuel (k + 8)) fuel blw12 [x0, x1, x2, x3, x4, x5, x6, x7, x8, x9, x10, some (.p v), x12, x13, x14, x15, x16, x17, x18, x19, x20, x21, x22] S = some (.go .nx [x0, x1, x2, x3, x4, x5, x6, x7, x8, x9, x10, some (.p v), x12, x13, o14, x15, x16, x17, x18, x19, x20, x21, x22], S) := by
  have h1 : evS G (Gam G ds fuel (k + 8)) fuel lw12_1 [x0, x1, x2, x3, x4, x5, x6, x7, x8, x9, x10, some (.p v), x12, x13, x14, x15, x16, x17, x18, x19, x20, x21, x22] S = some (.go .nx [x0, x1, x2, x3, x4, x5, x6, x7, x8, x9, x10, some (.p v), x12, x13, some (.p (optP (wrong v))), x15, x16, x17, x18, x19, x20, x21, x22], S) := by
    simp only [lw12_1]
    array_mem_dec
    rw [law_wrong_ hS hv.1 hv.2]
    array_mem_dec
  have h2 : evS G (Gam G ds fuel (k + 8)) fuel lw12_2 [x0, x1, x2, x3, x4, x5, x6, x7, x8, x9, x10, some (.p v), x12, x13, some (.p (optP (wrong v))), x15, x16, x17, x18, x19, x20, x21, x22] S = some (.go .nx [x0, x1, x2, x3, x4, x5, x6, x7, x8, x9, x10, some (.p v), x12, x13, some (.p (optP (wrong v))), x15, x16, x17, x18, x19, x20, x21, x22], S) := by
    simp only [lw12_2]
    array_mem_dec
    rw [is_task_ hS hv.1 hv.2]
    array_mem_dec
    rw [isF_none, isN_opt]
    array_mem_dec
    rw [alike_bl hS]
    array_mem_dec
  have h3 : evS G (Gam G ds fuel (k + 8)) fuel lw12_3 [x0, x1, x2, x3, x4, x5, x6, x7, x8, x9, x10, some (.p v), x12, x13, some (.p (optP (wrong v))), x15, x16, x17, x18, x19, x20, x21, x22] S = some (.go .nx [x0, x1, x2, x3, x4, x5, x6, x7, x8, x9, x10, some (.p v), x12, x13, some (.p (optP (wrong v))), x15, x16, x17, x18, x19, x20, x21, x22], S) := by
    cases hw : wrong v with
    | none =>
      simp only [lw12_3, optP]
      array_mem_dec
      simp only [isF_not, isN]
      array_mem_dec
    | some w =>
      have hwd := wrong_dm hw
      simp only [lw12_3, optP]
      array_mem_dec
      simp only [isF_not, isN]
      array_mem_dec
      simp only [G_told0, q_fTold]
      array_mem_dec
      rw [facts_bad hS hv.1 hv.2 hw, kR_exc, kTd_exc, hf_task]
      array_mem_dec
      rw [neF_self (bad_dm hwd.1) (bad_dep w)]
      array_mem_dec
  have h4 : evS G (Gam G ds fuel (k + 8)) fuel lw12_4 [x0, x1, x2, x3, x4, x5, x6, x7, x8, x9, x10, some (.p v), x12, x13, some (.p (optP (wrong v))), x15, x16, x17, x18, x19, x20, x21, x22] S = some (.go .nx [x0, x1, x2, x3, x4, x5, x6, x7, x8, x9, x10, some (.p v), x12, x13, some (.p (optP (wrong v))), x15, x16, x17, x18, x19, x20, x21, x22], S) := by
    cases hw : wrong v with
    | none =>
      simp only [lw12_4, optP]
      array_mem_dec
      simp only [isF_not, isN]
      array_mem_dec
    | some w =>
      have hwd := wrong_dm hw
      have hneq : neF (.lst [badP w, badP w, badP w, badP w]) (.lst [badP w, badP w, badP w, badP w]) = some (.bl false) := by
        refine neF_self ?_ ?_
        · show (dm (badP w) && (dm (badP w) && (dm (badP w) && (dm (badP w) && true)))) = true
          rw [bad_dm hwd.1]
          rfl
        · have : dep (badP w) = 1 := by simp [dep, depL]
          simp only [dep, depL] at this ⊢
          omega
      simp only [lw12_4, optP]
      array_mem_dec
      simp only [isF_not, isN]
      array_mem_dec
      rw [compP_pure (t := fun _ => true) (e := fun _ => badP w) [.fn "open_deeds", .fn "run", .fn "price", .fn "is_plan"] [] (fun x hx => ?_), filt_true]
      · array_mem_dec
        rw [mul_4]
        array_mem_dec
        rw [hneq]
        array_mem_dec
      · simp only [List.mem_cons, List.not_mem_nil, or_false] at hx
        rcases hx with rfl | rfl | rfl | rfl
        · refine ⟨_, rfl, rfl, fun _ => ?_⟩
          array_mem_dec
          simp only [G_told0, q_fTold, Es.len]
          rw [q_callv rfl fn_open (by decide)]
          array_mem_dec
          rw [open_bad hS hv.1 hv.2 hw, kR_exc, kTd_exc, hf_task]
          rfl
        · refine ⟨_, rfl, rfl, fun _ => ?_⟩
          array_mem_dec
          simp only [G_told0, q_fTold, Es.len]
          rw [q_callv rfl fn_run (by decide)]
          array_mem_dec
          rw [run_bad hS hv.1 hv.2 hw, kR_exc, kTd_exc, hf_task]
          rfl
        · refine ⟨_, rfl, rfl, fun _ => ?_⟩
          array_mem_dec
          simp only [G_told0, q_fTold, Es.len]
          rw [q_callv rfl fn_price (by decide)]
          array_mem_dec
          rw [price_bad hS hv.1 hv.2 hw, kR_exc, kTd_exc, hf_task]
          rfl
        · refine ⟨_, rfl, rfl, fun _ => ?_⟩
          array_mem_dec
          simp only [G_told0, q_fTold, Es.len]
          rw [q_callv rfl fn_is_plan (by decide)]
          array_mem_dec
          rw [is_plan_bad hS hv.1 hv.2 hw, kR_exc, kTd_exc, hf_task]
          rfl
  refine ⟨some (.p (optP (wrong v))), ?_⟩
  simp (config := { implicitDefEqProofs := false }) only [blw12, evSs, q_seqS]
  rw [h1]
  sizeOf_list_dec
  rw [h2]
  sizeOf_list_dec
  rw [h3]
  sizeOf_list_dec
  rw [h4]
  sizeOf_list_dec
theorem l12_for (hS : Sl S) (x0 x1 x2 x3 x4 x5 x6 x7 x8 x9 x10 x12 x13 x15 x16 x17 x18 x19 x20 x21 x22 : Option Wv) : ∀ (vals : List P) (x11 x14 : Option Wv), (∀ v ∈ vals, VW v) → ∃ o11 o14,
    forS (gNm 11) (evSs G (Gam G ds fuel (k + 8)) fuel blw12) vals [x0, x1, x2, x3, x4, x5, x6, x7, x8, x9, x10, x11, x12, x13, x14, x15, x16, x17, x18, x19, x20, x21, x22] S = some (.go .nx [x0, x1, x2, x3, x4, x5, x6, x7, x8, x9, x10, o11, x12, x13, o14, x15, x16, x17, x18, x19, x20, x21, x22], S)
  | [], x11, x14, _ => ⟨x11, x14, rfl⟩
  | v :: r, x11, x14, h => by
    obtain ⟨p14, hf⟩ := l12_body (fuel := fuel) (k := k) hS (h v List.mem_cons_self) x0 x1 x2 x3 x4 x5 x6 x7 x8 x9 x10 x12 x13 x14 x15 x16 x17 x18 x19 x20 x21 x22
    obtain ⟨o11, o14, ih⟩ := l12_for hS x0 x1 x2 x3 x4 x5 x6 x7 x8 x9 x10 x12 x13 x15 x16 x17 x18 x19 x20 x21 x22 r (some (.p v)) p14 fun u hu => h u (List.mem_cons_of_mem _ hu)
    exact ⟨o11, o14, by rw [forS_nx rfl hf, ih]⟩
theorem lw12_ (hS : Sl S) {l : List P} {be wi : List Str} (W : TaskW l be wi) {B : List P} (hB : BW B) (hl : B.length ≤ 50) (x0 x1 x2 x3 x6 x7 x8 x9 x11 x13 x14 x15 x16 x17 x18 x19 x20 x21 x22 : Option Wv) : ∃ o11 o14, evS G (Gam G ds fuel (k + 8)) fuel lw12 [x0, x1, x2, x3, some (.p (Tp be)), some (.p (Tp wi)), x6, x7, x8, x9, some (.p (.lst B)), x11, some (.p (.tup manyL)), x13, x14, x15, x16, x17, x18, x19, x20, x21, x22] S = some (.go .nx [x0, x1, x2, x3, some (.p (Tp be)), some (.p (Tp wi)), x6, x7, x8, x9, some (.p (.lst B)), o11, some (.p (.tup manyL)), x13, o14, x15, x16, x17, x18, x19, x20, x21, x22], S) := by
  obtain ⟨m1, m2, m3⟩ := many_ok
  have wb := W.wb
  have ww := W.ww
  have d1 : dm (.tup manyL) = true := dmL_all.mpr m1
  have d2 : dm (.tup (manyL.take 14)) = true := dmL_all.mpr fun x hx => m1 x (List.mem_of_mem_take hx)
  have w2 := wtL_take 14 manyL
  have hC : BW [.tup [.tup manyL, Tp be, Tp wi], .tup [.tup (manyL.take 14), Tp be, Tp wi], .tup [.tup [], .tup [], .tup []]] := by
    refine ⟨fun v hv => ?_, by simp⟩
    simp only [List.mem_cons, List.not_mem_nil, or_false] at hv
    rcases hv with rfl | rfl | rfl
    · exact vw3 d1 W.db W.dw (by have : wt (.tup manyL) = wtL manyL + 1 := rfl; omega)
    · exact vw3 d2 W.db W.dw (by have : wt (.tup (manyL.take 14)) = wtL (manyL.take 14) + 1 := rfl; omega)
    · exact ⟨rfl, by decide⟩
  have hBC := hB.app hC (by simp only [List.length_cons, List.length_nil]; omega)
  obtain ⟨o11, o14, h⟩ := l12_for (fuel := fuel) (k := k) hS x0 x1 x2 x3 (some (.p (Tp be))) (some (.p (Tp wi))) x6 x7 x8 x9 (some (.p (.lst B))) (some (.p (.tup manyL))) x13 x15 x16 x17 x18 x19 x20 x21 x22 _ x11 x14 hBC.1
  refine ⟨o11, o14, ?_⟩
  simp only [lw12]
  array_mem_dec
  have e14 : cutP manyL none (some 14) = manyL.take 14 := cut_to manyL 14
  rw [e14, add_lst _ _ (by simp only [List.length_cons, List.length_nil]; omega)]
  array_mem_dec
  rw [h]
theorem lw13_ (hS : Sl S) {l : List P} {be wi : List Str} (t : Tsk l be wi) (x0 x1 x3 x4 x5 x6 x7 x8 x9 x10 x11 x12 x13 x14 x15 x16 x17 x18 x19 x20 x21 x22 : Option Wv) : evS G (Gam G ds fuel (k + 8)) fuel lw13 [x0, x1, some (.p (.tup [.tup l, Tp be, Tp wi])), x3, x4, x5, x6, x7, x8, x9, x10, x11, x12, x13, x14, x15, x16, x17, x18, x19, x20, x21, x22] S = some (.go .nx [x0, x1, some (.p (.tup [.tup l, Tp be, Tp wi])), x3, x4, x5, x6, x7, x8, x9, x10, x11, x12, x13, x14, x15, x16, x17, x18, x19, x20, x21, x22], S) := by
  have f := t.f
  have hw := t.wt
  have few := f.few
  simp only [wt, wtL] at hw
  have sf : Ste l be wi (factsP l (Tp be) (Tp wi)) := by
    refine ⟨signs_all (srt_asc _) fun z hz => ?_, fun z hz => hz⟩
    unfold factsP toldP at hz
    rw [mem_srt, strL_map', strL_map'] at hz
    simp only [List.mem_append, List.mem_flatMap] at hz
    rcases hz with ⟨x, hx, q⟩ | q | q
    · obtain ⟨n, a, b, c, d, e, D⟩ := deed_tp (t.deed hx).1
      rw [D.told] at q
      simp only [List.mem_append] at q
      rcases q with q | q | q | q
      · exact facts_sign D.fa z q
      · exact facts_sign D.fb z q
      · exact facts_sign D.fc z q
      · exact facts_sign D.fd z q
    · exact facts_sign f.fb z q
    · exact facts_sign f.fw z q
  simp only [lw13]
  array_mem_dec
  rw [facts_ hS t]
  array_mem_dec
  rw [law_facts_ hS f.deeds f.fb f.fw (by simp only [wt]; omega)]
  array_mem_dec
  rw [alike_tp hS _ (Ste.dm sf t) (by omega)]
  array_mem_dec
end
end Wr.K00

set_option maxHeartbeats 4000000
namespace Wr
open PySem PySem.Spec PyProof.Rows L2
theorem run_snoc {l : List P} {v : P} {s' : List Str} : ∀ (vs : List P) (s : List Str) (i : Nat) (ss : List (List Str)), runP l s vs i = .ok ss → stepP l (K00.lastS s ss) v = some s' → runP l s (vs ++ [v]) i = .ok (ss ++ [s']) ∧ K00.lastS s (ss ++ [s']) = s'
  | [], s, i, ss, e, h => by
    simp only [runP] at e
    cases e
    have h' : stepP l s v = some s' := h
    refine ⟨?_, rfl⟩
    rw [List.nil_append, List.nil_append]
    simp only [runP, h']
  | u :: r, s, i, ss, e, h => by
    simp only [runP] at e
    cases hq : stepP l s u with
    | none => simp [hq] at e
    | some s1 =>
      simp only [hq] at e
      cases hr : runP l s1 r (i + 1) with
      | error j => simp [hr] at e
      | ok ss1 =>
        simp only [hr] at e
        cases e
        have el : ∀ t : List (List Str), K00.lastS s (s1 :: t) = K00.lastS s1 t := fun t => by
          unfold K00.lastS
          exact List.getLast_cons (by simp)
        rw [el] at h
        obtain ⟨i1, i2⟩ := run_snoc r s1 (i + 1) ss1 hr h
        refine ⟨?_, ?_⟩
        · rw [List.cons_append]
          simp only [runP, hq, i1, List.cons_append]
        · rw [List.cons_append, el, i2]
theorem todo_self {l : List P} (hn : ascB (l.map nameP) = true) {x : P} (hx : x ∈ l) {s : List Str} (hc : canB x s = true) : toDo l s (.str (nameP x)) = some x := by
  unfold toDo
  rw [find_and (fun y => isName y (.str (nameP x))) (fun y => canB y s) l (isName_one hn _)]
  have h1 : isName x (.str (nameP x)) = true := by
    show (nameP x == nameP x) = true
    exact beq_self_eq_true _
  cases hf : l.find? (fun y => isName y (.str (nameP x))) with
  | none =>
    have := List.find?_eq_none.mp hf x hx
    exact absurd h1 this
  | some y =>
    obtain ⟨hy, hp⟩ := find_mem hf
    have e := isName_one hn (.str (nameP x)) x hx y hy h1 hp
    subst e
    simp [Option.filter, hc]
theorem todo_fil (l : List P) (s : List Str) (v : P) : toDo l s v = ((l.filter fun x => canB x s).filter fun x => isName x v).head? := by
  unfold toDo
  rw [K00.find_fil, List.filter_filter]
end Wr
namespace Wr.K00
open PySem PySem.Spec PyProof.Rows L2 Wr
local macro_rules
  | `(tactic| array_mem_dec) => `(tactic| simp (config := { failIfUnchanged := false, implicitDefEqProofs := false }) only [evSs, evS, evE, evEs, evAnd, evOr, evT, evAndT, evOrT, evI, evO, evTg, evBF, evBN, evBO, evCO, evCs, q_seqS, q_skip, q_fRet, q_fRetN, q_fIfS, q_bindS, q_bindF, q_ret, q_fVar, q_fC, q_fOne, q_fNot, q_fAnd, q_fOr, q_fIf, q_fTru, q_asB, q_fAndT, q_fOrT, q_fNotT, q_f2, q_fChain, q_fB, q_fBn, q_fCons, q_fNil, q_fTup, q_fLst, q_fSl, q_fRev, q_fPart, q_fLc, q_fLcN, q_fItems, q_fZip, q_rng, q_fEnum, q_fFor, q_fAsg, q_fPar, q_fRaise0, q_fRaise1, q_fSetI, q_dropS, q_fStar, q_glb, q_call,
  kB_ok, kB_exc, kB_ite, kA_bl, kO_bl, m_and, m_or, kN_bl, kO1_some, kV_p, kT_bl, m_andT, m_orT, kC2_bl, kL_p1, kNw_f, kNw_t, kSl_tup, kSl_lst, kC_f, kC_t, kS_ok, kS_exc, kS_ite, kQ_nx, kQ_ret, kQ_exc, kQ_ite, endF_ite, kR_ok, kR_exc, kR_ite, kP, allP, newL, gNm, gTupN, gNms, view_p, itemsOf_lst, itemsOf_tup, itemsOf_lsf, asL_lst, asL_lsf, asL_tup, asT_lst, asT_tup, truP_bl, vals,
  List.getElem?_cons_zero, List.getElem?_cons_succ, List.map_cons, List.map_nil, List.cons_append, List.nil_append, List.length_cons, List.length_nil, List.set_cons_zero, List.set_cons_succ, List.replicate_succ, List.replicate_zero, wipeV, Option.map_some, Option.map_none, if_true, if_false, Bool.false_eq_true, reduceCtorEq, Nat.reduceAdd, Nat.reduceSub, Nat.reduceLT, Nat.reduceLeDiff, Bool.not_true, Bool.not_false, Bool.and_true, Bool.true_and, Bool.and_false, Bool.false_and, Bool.or_true, Bool.true_or, Bool.or_false, Bool.false_or,
  kV_0, ix40, ix41, ix42, ix43, st41, st42, st43, add_int, sub_int, mul_int, mod_g, div_7, pow_18, int_int, cmpI, len_lst, len_tup, list_tup, list_lst, tup_lst, ix30, ix31, ix32, ix60, ix61, ix62, ix63, ix64, ix65])
local macro_rules
  | `(tactic| sizeOf_list_dec) => `(tactic| simp (config := { failIfUnchanged := false, implicitDefEqProofs := false }) only [evSs, q_seqS, q_skip, kQ_nx, kQ_ret, kQ_exc])
section
variable {fuel k : Nat} {S : List Ob}
theorem l153_body (hS : Sl S) {l : List P} {be wi : List Str} (t : Tsk l be wi) {s : List Str} (hs : Ste l be wi s) {v : P} (hv : dm v = true) (x0 x1 x3 x4 x5 x6 x7 x8 x9 x10 x12 x13 x14 x15 x17 x18 x20 x21 x22 : Option Wv) : ∃ o8 o20, evSs G (Gam G ds fuel (k + 8)) fuel blw15_3 [x0, x1, some (.p (.tup [.tup l, Tp be, Tp wi])), x3, x4, x5, x6, x7, x8, x9, x10, some (.p v), x12, x13, x14, x15, some (.p (Tp s)), x17, x18, some (.p (.lst (l.filter fun x => canB x s))), x20, x21, x22] S = some (.go .nx [x0, x1, some (.p (.tup [.tup l, Tp be, Tp wi])), x3, x4, x5, x6, x7, o8, x9, x10, some (.p v), x12, x13, x14, x15, some (.p (Tp s)), x17, x18, some (.p (.lst (l.filter fun x => canB x s))), o20, x21, x22], S) := by
  have hdl : ∀ x ∈ l, dm x = true := dm_of (dm_of t.dm (.tup l) (by simp))
  have hl := hs.len t
  have htd := todo_fil l s v
  have h1 : evS G (Gam G ds fuel (k + 8)) fuel lw15_3_1 [x0, x1, some (.p (.tup [.tup l, Tp be, Tp wi])), x3, x4, x5, x6, x7, x8, x9, x10, some (.p v), x12, x13, x14, x15, some (.p (Tp s)), x17, x18, some (.p (.lst (l.filter fun x => canB x s))), x20, x21, x22] S = some (.go .nx [x0, x1, some (.p (.tup [.tup l, Tp be, Tp wi])), x3, x4, x5, x6, x7, some (.p (.lst ((l.filter fun x => canB x s).filter fun x => isName x v))), x9, x10, some (.p v), x12, x13, x14, x15, some (.p (Tp s)), x17, x18, some (.p (.lst (l.filter fun x => canB x s))), x20, x21, x22], S) := by
    simp only [lw15_3_1]
    array_mem_dec
    rw [compP_pure (t := fun x => isName x v) (e := fun x => x) (l.filter fun x => canB x s) [] (fun x hx => ⟨_, rfl, by
      obtain ⟨n, a, b, c, d, q, D⟩ := deed_tp (t.deed (List.mem_filter.mp hx).1).1
      have hn : isName x v = strEq n v := by
        unfold isName strEq
        rw [D.name]
        all_goals cases v <;> rfl
      rw [hn]
      array_mem_dec
      rw [D.eq, ix60]
      array_mem_dec
      rw [eqF_strany hv]
      array_mem_dec, fun _ => by array_mem_dec⟩), List.map_id']
    array_mem_dec
  have hdf : datL ((l.filter fun x => canB x s).filter fun x => isName x v) = true := datL_of fun x hx => hdl x (List.mem_filter.mp (List.mem_filter.mp hx).1).1
  cases hq : (l.filter fun x => canB x s).filter fun x => isName x v with
  | nil =>
    rw [hq] at htd h1 hdf
    have h2 : evS G (Gam G ds fuel (k + 8)) fuel lw15_3_2 [x0, x1, some (.p (.tup [.tup l, Tp be, Tp wi])), x3, x4, x5, x6, x7, some (.p (.lst [])), x9, x10, some (.p v), x12, x13, x14, x15, some (.p (Tp s)), x17, x18, some (.p (.lst (l.filter fun x => canB x s))), x20, x21, x22] S = some (.go .nx [x0, x1, some (.p (.tup [.tup l, Tp be, Tp wi])), x3, x4, x5, x6, x7, some (.p (.lst [])), x9, x10, some (.p v), x12, x13, x14, x15, some (.p (Tp s)), x17, x18, some (.p (.lst (l.filter fun x => canB x s))), some (.p (badP "deednone")), x21, x22], S) := by
      simp only [lw15_3_2]
      array_mem_dec
      rw [neF_nil (l := []) rfl]
      simp only [List.isEmpty_nil]
      array_mem_dec
    have hst : stepP l s v = none := by
      unfold stepP
      rw [htd]
      rfl
    have h3 : evS G (Gam G ds fuel (k + 8)) fuel lw15_3_3 [x0, x1, some (.p (.tup [.tup l, Tp be, Tp wi])), x3, x4, x5, x6, x7, some (.p (.lst [])), x9, x10, some (.p v), x12, x13, x14, x15, some (.p (Tp s)), x17, x18, some (.p (.lst (l.filter fun x => canB x s))), some (.p (badP "deednone")), x21, x22] S = some (.go .nx [x0, x1, some (.p (.tup [.tup l, Tp be, Tp wi])), x3, x4, x5, x6, x7, some (.p (.lst [])), x9, x10, some (.p v), x12, x13, x14, x15, some (.p (Tp s)), x17, x18, some (.p (.lst (l.filter fun x => canB x s))), some (.p (badP "deednone")), x21, x22], S) := by
      simp only [lw15_3_3]
      array_mem_dec
      simp only [G_told0, q_fTold]
      array_mem_dec
      rw [done_ hS t hs hv, hst]
      array_mem_dec
      rw [kTd_exc, hf_deed _ _ ixT_non]
      array_mem_dec
      rw [alike_bad hS _ (by decide +kernel)]
      array_mem_dec
    refine ⟨some (.p (.lst [])), some (.p (badP "deednone")), ?_⟩
    simp (config := { implicitDefEqProofs := false }) only [blw15_3, evSs, q_seqS]
    rw [h1]
    sizeOf_list_dec
    rw [h2]
    sizeOf_list_dec
    rw [h3]
    sizeOf_list_dec
  | cons x r =>
    have hx : x ∈ l ∧ canB x s = true ∧ isName x v = true := by
      have : x ∈ (l.filter fun x => canB x s).filter fun x => isName x v := by rw [hq]; exact List.mem_cons_self
      have a := List.mem_filter.mp this
      have b := List.mem_filter.mp a.1
      exact ⟨b.1, b.2, a.2⟩
    rw [hq] at htd h1 hdf
    have hdx := t.deed hx.1
    have hb := ste_behind t hs hx.1
    have hg : goP x s = some (behind x s) := by unfold goP; rw [if_pos hx.2.1]
    have h2 : evS G (Gam G ds fuel (k + 8)) fuel lw15_3_2 [x0, x1, some (.p (.tup [.tup l, Tp be, Tp wi])), x3, x4, x5, x6, x7, some (.p (.lst (x :: r))), x9, x10, some (.p v), x12, x13, x14, x15, some (.p (Tp s)), x17, x18, some (.p (.lst (l.filter fun x => canB x s))), x20, x21, x22] S = some (.go .nx [x0, x1, some (.p (.tup [.tup l, Tp be, Tp wi])), x3, x4, x5, x6, x7, some (.p (.lst (x :: r))), x9, x10, some (.p v), x12, x13, x14, x15, some (.p (Tp s)), x17, x18, some (.p (.lst (l.filter fun x => canB x s))), some (.p (Tp (behind x s))), x21, x22], S) := by
      simp only [lw15_3_2]
      array_mem_dec
      rw [neF_nil hdf]
      simp only [List.isEmpty_cons]
      array_mem_dec
      rw [at_zero]
      array_mem_dec
      rw [go_ hS hdx.1 s (by omega), hg]
      simp only [optT]
      array_mem_dec
    have hst : stepP l s v = some (behind x s) := by
      unfold stepP
      rw [htd]
      rfl
    have h3 : evS G (Gam G ds fuel (k + 8)) fuel lw15_3_3 [x0, x1, some (.p (.tup [.tup l, Tp be, Tp wi])), x3, x4, x5, x6, x7, some (.p (.lst (x :: r))), x9, x10, some (.p v), x12, x13, x14, x15, some (.p (Tp s)), x17, x18, some (.p (.lst (l.filter fun x => canB x s))), some (.p (Tp (behind x s))), x21, x22] S = some (.go .nx [x0, x1, some (.p (.tup [.tup l, Tp be, Tp wi])), x3, x4, x5, x6, x7, some (.p (.lst (x :: r))), x9, x10, some (.p v), x12, x13, x14, x15, some (.p (Tp s)), x17, x18, some (.p (.lst (l.filter fun x => canB x s))), some (.p (Tp (behind x s))), x21, x22], S) := by
      have hbl := hb.len t
      simp only [lw15_3_3]
      array_mem_dec
      simp only [G_told0, q_fTold]
      array_mem_dec
      rw [done_ hS t hs hv, hst]
      array_mem_dec
      rw [kTd_ok]
      array_mem_dec
      rw [alike_tp hS _ (Ste.dm hb t) (by omega)]
      array_mem_dec
    refine ⟨some (.p (.lst (x :: r))), some (.p (Tp (behind x s))), ?_⟩
    simp (config := { implicitDefEqProofs := false }) only [blw15_3, evSs, q_seqS]
    rw [h1]
    sizeOf_list_dec
    rw [h2]
    sizeOf_list_dec
    rw [h3]
    sizeOf_list_dec
theorem l153_for (hS : Sl S) {l : List P} {be wi : List Str} (t : Tsk l be wi) {s : List Str} (hs : Ste l be wi s) (x0 x1 x3 x4 x5 x6 x7 x9 x10 x12 x13 x14 x15 x17 x18 x21 x22 : Option Wv) : ∀ (vals : List P) (x8 x11 x20 : Option Wv), (∀ v ∈ vals, dm v = true) → ∃ o8 o11 o20, forS (gNm 11) (evSs G (Gam G ds fuel (k + 8)) fuel blw15_3) vals [x0, x1, some (.p (.tup [.tup l, Tp be, Tp wi])), x3, x4, x5, x6, x7, x8, x9, x10, x11, x12, x13, x14, x15, some (.p (Tp s)), x17, x18, some (.p (.lst (l.filter fun x => canB x s))), x20, x21, x22] S = some (.go .nx [x0, x1, some (.p (.tup [.tup l, Tp be, Tp wi])), x3, x4, x5, x6, x7, o8, x9, x10, o11, x12, x13, x14, x15, some (.p (Tp s)), x17, x18, some (.p (.lst (l.filter fun x => canB x s))), o20, x21, x22], S)
  | [], x8, x11, x20, _ => ⟨x8, x11, x20, rfl⟩
  | v :: r, x8, x11, x20, h => by
    obtain ⟨p8, p20, hf⟩ := l153_body (fuel := fuel) (k := k) hS t hs (h v List.mem_cons_self) x0 x1 x3 x4 x5 x6 x7 x8 x9 x10 x12 x13 x14 x15 x17 x18 x20 x21 x22
    obtain ⟨o8, o11, o20, ih⟩ := l153_for hS t hs x0 x1 x3 x4 x5 x6 x7 x9 x10 x12 x13 x14 x15 x17 x18 x21 x22 r p8 (some (.p v)) p20 fun u hu => h u (List.mem_cons_of_mem _ hu)
    exact ⟨o8, o11, o20, by rw [forS_nx rfl hf, ih]⟩
/-- what is done so far -/
structure Way (l : List P) (be wi : List Str) (vs : List P) (s : List Str) (n : Nat) : Prop where
  ex : ∃ ss, runP l be vs 0 = .ok ss ∧ lastS be ss = s
  ste : Ste l be wi s
  dm : ∀ v ∈ vs, dm v = true
  len : vs.length ≤ n
theorem l15_body {ns : List Int} (hn : ns.length ≤ 63) {a b c : Int} (ha : 0 ≤ a) {l : List P} {be wi : List Str} (t : Tsk l be wi) {vs : List P} {s : List Str} {n : Nat} (w : Way l be wi vs s n) (hn9 : n ≤ 20) (x0 x4 x5 x6 x7 x8 x9 x10 x11 x12 x13 x14 x15 x18 x19 x20 x21 x22 : Option Wv) : ∃ (vs' : List P) (s' : List Str) (a' b' c' : Int) (o8 o11 o19 o20 o21 : Option Wv), Way l be wi vs' s' (n + 1) ∧ 0 ≤ a' ∧ evSs G (Gam G ds fuel (k + 8)) fuel blw15 [x0, some (.loc 0), some (.p (.tup [.tup l, Tp be, Tp wi])), some (.p (.tup l)), x4, x5, x6, x7, x8, x9, x10, x11, x12, x13, x14, x15, some (.p (Tp s)), some (.p (.tup vs)), x18, x19, x20, x21, x22] [Row ns a b c] = some (.go .nx [x0, some (.loc 0), some (.p (.tup [.tup l, Tp be, Tp wi])), some (.p (.tup l)), x4, x5, x6, x7, o8, x9, x10, o11, x12, x13, x14, x15, some (.p (Tp s')), some (.p (.tup vs')), x18, o19, o20, o21, x22], [Row ns a' b' c']) := by
  have hS : ∀ x y z, Sl [Row ns x y z] := fun x y z => Sl.nil.cons
  have hs := w.ste
  have hl := hs.len t
  have hdl : ∀ x ∈ l, dm x = true := dm_of (dm_of t.dm (.tup l) (by simp))
  have h1 : evS G (Gam G ds fuel (k + 8)) fuel lw15_1 [x0, some (.loc 0), some (.p (.tup [.tup l, Tp be, Tp wi])), some (.p (.tup l)), x4, x5, x6, x7, x8, x9, x10, x11, x12, x13, x14, x15, some (.p (Tp s)), some (.p (.tup vs)), x18, x19, x20, x21, x22] [Row ns a b c] = some (.go .nx [x0, some (.loc 0), some (.p (.tup [.tup l, Tp be, Tp wi])), some (.p (.tup l)), x4, x5, x6, x7, x8, x9, x10, x11, x12, x13, x14, x15, some (.p (Tp s)), some (.p (.tup vs)), x18, some (.p (.lst (l.filter fun x => canB x s))), x20, x21, x22], [Row ns a b c]) := by
    simp only [lw15_1]
    array_mem_dec
    rw [compP_pure (t := fun x => canB x s) (e := fun x => x) l [] (fun x hx => ⟨_, rfl, by
      have := t.deed hx
      array_mem_dec
      rw [go_ (hS a b c) this.1 s (by omega)]
      array_mem_dec
      have e : isN (optT (goP x s)) = !canB x s := by
        unfold goP
        cases canB x s <;> rfl
      rw [isF_not, e, Bool.not_not]
      array_mem_dec, fun _ => by array_mem_dec⟩), List.map_id']
    array_mem_dec
  have em : (l.filter fun x => canB x s).map (fun x => P.str (nameP x)) = ((l.filter fun x => canB x s).map nameP).map .str := by rw [List.map_map]; rfl
  have h2 : evS G (Gam G ds fuel (k + 8)) fuel lw15_2 [x0, some (.loc 0), some (.p (.tup [.tup l, Tp be, Tp wi])), some (.p (.tup l)), x4, x5, x6, x7, x8, x9, x10, x11, x12, x13, x14, x15, some (.p (Tp s)), some (.p (.tup vs)), x18, some (.p (.lst (l.filter fun x => canB x s))), x20, x21, x22] [Row ns a b c] = some (.go .nx [x0, some (.loc 0), some (.p (.tup [.tup l, Tp be, Tp wi])), some (.p (.tup l)), x4, x5, x6, x7, x8, x9, x10, x11, x12, x13, x14, x15, some (.p (Tp s)), some (.p (.tup vs)), x18, some (.p (.lst (l.filter fun x => canB x s))), x20, x21, x22], [Row ns a b c]) := by
    have hdn : dm (Tp ((l.filter fun x => canB x s).map nameP)) = true := dmL_all.mpr fun y hy => by
      rw [List.map_map] at hy
      obtain ⟨x, hx, rfl⟩ := List.mem_map.mp hy
      exact dm_name (t.deed (List.mem_filter.mp hx).1).1
    have hlf := List.length_filter_le (fun x => canB x s) l
    have hlt := t.f.len
    simp only [lw15_2]
    array_mem_dec
    rw [open_deeds_ (hS a b c) t hs, em]
    array_mem_dec
    rw [compP_all' (e := fun x => .str (nameP x)) (l.filter fun x => canB x s) (fun x hx => ⟨_, rfl, by
      obtain ⟨n, a, b, c, d, q, D⟩ := deed_tp (t.deed (List.mem_filter.mp hx).1).1
      rw [D.name, D.eq]
      array_mem_dec⟩), em]
    array_mem_dec
    rw [alike_tp (hS a b c) _ hdn (by rw [List.length_map]; omega)]
    array_mem_dec
  have hvals : ∀ v ∈ l.map (fun x => P.str (nameP x)) ++ [.str "zz", .non, .int 1, .tup [.str "p"]], dm v = true := by
    intro x hx
    rcases List.mem_append.mp hx with q | q
    · obtain ⟨y, hy, rfl⟩ := List.mem_map.mp q
      exact dm_name (t.deed hy).1
    · simp only [List.mem_cons, List.not_mem_nil, or_false] at q
      rcases q with rfl | rfl | rfl | rfl
      · exact by decide +kernel
      · rfl
      · rfl
      · exact by decide +kernel
  obtain ⟨o8, o11, o20, hfor⟩ := l153_for (fuel := fuel) (k := k) (hS a b c) t hs x0 (some (.loc 0)) (some (.p (.tup l))) x4 x5 x6 x7 x9 x10 x12 x13 x14 x15 (some (.p (.tup vs))) x18 x21 x22 _ x8 x11 x20 hvals
  have h3 : evS G (Gam G ds fuel (k + 8)) fuel lw15_3 [x0, some (.loc 0), some (.p (.tup [.tup l, Tp be, Tp wi])), some (.p (.tup l)), x4, x5, x6, x7, x8, x9, x10, x11, x12, x13, x14, x15, some (.p (Tp s)), some (.p (.tup vs)), x18, some (.p (.lst (l.filter fun x => canB x s))), x20, x21, x22] [Row ns a b c] = some (.go .nx [x0, some (.loc 0), some (.p (.tup [.tup l, Tp be, Tp wi])), some (.p (.tup l)), x4, x5, x6, x7, o8, x9, x10, o11, x12, x13, x14, x15, some (.p (Tp s)), some (.p (.tup vs)), x18, some (.p (.lst (l.filter fun x => canB x s))), o20, x21, x22], [Row ns a b c]) := by
    have hlt := t.f.len
    simp only [lw15_3]
    array_mem_dec
    rw [compP_all' (e := fun x => .str (nameP x)) l (fun x hx => ⟨_, rfl, by
      obtain ⟨n, a, b, c, d, q, D⟩ := deed_tp (t.deed hx).1
      rw [D.name, D.eq]
      array_mem_dec⟩)]
    array_mem_dec
    rw [add_lst _ _ (by simp only [List.length_map, List.length_cons, List.length_nil]; omega)]
    array_mem_dec
    rw [hfor]
  have hdc : datL (l.filter fun x => canB x s) = true := datL_of fun x hx => hdl x (List.mem_filter.mp hx).1
  obtain ⟨ss, r1, r2⟩ := w.ex
  cases hq : l.filter fun x => canB x s with
  | nil =>
    rw [hq] at h1 h2 h3
    have h4 : evS G (Gam G ds fuel (k + 8)) fuel lw15_4 [x0, some (.loc 0), some (.p (.tup [.tup l, Tp be, Tp wi])), some (.p (.tup l)), x4, x5, x6, x7, o8, x9, x10, o11, x12, x13, x14, x15, some (.p (Tp s)), some (.p (.tup vs)), x18, some (.p (.lst [])), o20, x21, x22] [Row ns a b c] = some (.go .nx [x0, some (.loc 0), some (.p (.tup [.tup l, Tp be, Tp wi])), some (.p (.tup l)), x4, x5, x6, x7, o8, x9, x10, o11, x12, x13, x14, x15, some (.p (Tp s)), some (.p (.tup vs)), x18, some (.p (.lst [])), o20, x21, x22], [Row ns a b c]) := by
      simp only [lw15_4]
      array_mem_dec
      rw [neF_nil (l := []) rfl]
      simp only [List.isEmpty_nil]
      array_mem_dec
    refine ⟨vs, s, a, b, c, o8, o11, some (.p (.lst [])), o20, x21, ⟨w.ex, hs, w.dm, Nat.le_succ_of_le w.len⟩, ha, ?_⟩
    simp (config := { implicitDefEqProofs := false }) only [blw15, evSs, q_seqS]
    rw [h1]
    sizeOf_list_dec
    rw [h2]
    sizeOf_list_dec
    rw [h3]
    sizeOf_list_dec
    rw [h4]
    sizeOf_list_dec
  | cons y r =>
    have hlf := List.length_filter_le (fun x => canB x s) l
    have hlt := t.f.len
    rw [hq] at hlf
    obtain ⟨x, a1, b1, c1, hx, ha1, hp⟩ := pick_ (fuel := fuel) (k := k + 6) Sl.nil hn (b := b) (c := c) ha (l := y :: r) (.inl rfl) (by simp) (by omega)
    have hxl : x ∈ l ∧ canB x s = true := List.mem_filter.mp (hq ▸ hx)
    have hdx := t.deed hxl.1
    have hb := ste_behind t hs hxl.1
    have hg : goP x s = some (behind x s) := by unfold goP; rw [if_pos hxl.2]
    have hstep : stepP l (lastS be ss) (.str (nameP x)) = some (behind x s) := by
      unfold stepP
      rw [r2, todo_self t.f.names hxl.1 hxl.2]
      rfl
    obtain ⟨q1, q2⟩ := run_snoc vs be 0 ss r1 hstep
    have hvl := w.len
    rw [hq] at h1 h2 h3 hdc
    have h4 : evS G (Gam G ds fuel (k + 8)) fuel lw15_4 [x0, some (.loc 0), some (.p (.tup [.tup l, Tp be, Tp wi])), some (.p (.tup l)), x4, x5, x6, x7, o8, x9, x10, o11, x12, x13, x14, x15, some (.p (Tp s)), some (.p (.tup vs)), x18, some (.p (.lst (y :: r))), o20, x21, x22] [Row ns a b c] = some (.go .nx [x0, some (.loc 0), some (.p (.tup [.tup l, Tp be, Tp wi])), some (.p (.tup l)), x4, x5, x6, x7, o8, x9, x10, o11, x12, x13, x14, x15, some (.p (Tp (behind x s))), some (.p (.tup (vs ++ [.str (nameP x)]))), x18, some (.p (.lst (y :: r))), o20, some (.p x), x22], [Row ns a1 b1 c1]) := by
      obtain ⟨m, e1, e2, e3, e4, e5, D⟩ := deed_tp hdx.1
      have hix : ixP x (.int 0) = some (.str (nameP x)) := by rw [D.name, D.eq]; rfl
      simp only [lw15_4]
      array_mem_dec
      rw [neF_nil hdc]
      simp only [List.isEmpty_cons]
      array_mem_dec
      rw [hp]
      array_mem_dec
      rw [go_ (hS a1 b1 c1) hdx.1 s (by omega), hg]
      simp only [optT]
      array_mem_dec
      rw [hix]
      array_mem_dec
      rw [add_tup _ _ (by simp only [List.length_cons, List.length_nil]; omega)]
      array_mem_dec
    refine ⟨vs ++ [.str (nameP x)], behind x s, a1, b1, c1, o8, o11, some (.p (.lst (y :: r))), o20, some (.p x), ⟨⟨_, q1, q2⟩, hb, fun v hv => ?_, by rw [List.length_append, List.length_singleton]; omega⟩, ha1, ?_⟩
    · rcases List.mem_append.mp hv with q | q
      · exact w.dm v q
      · rw [List.mem_singleton.mp q]
        exact dm_name hdx.1
    simp (config := { implicitDefEqProofs := false }) only [blw15, evSs, q_seqS]
    rw [h1]
    sizeOf_list_dec
    rw [h2]
    sizeOf_list_dec
    rw [h3]
    sizeOf_list_dec
    rw [h4]
    sizeOf_list_dec
theorem l15_for {ns : List Int} (hn : ns.length ≤ 63) {l : List P} {be wi : List Str} (t : Tsk l be wi) (x0 x4 x5 x6 x7 x9 x10 x12 x13 x14 x15 x22 : Option Wv) : ∀ (its : List P) (n : Nat) (vs : List P) (s : List Str) (a b c : Int) (x8 x11 x18 x19 x20 x21 : Option Wv), Way l be wi vs s n → n + its.length ≤ 10 → 0 ≤ a → ∃ (vs' : List P) (s' : List Str) (a' b' c' : Int) (o8 o11 o18 o19 o20 o21 : Option Wv), Way l be wi vs' s' 10 ∧ 0 ≤ a' ∧ forS (gNm 18) (evSs G (Gam G ds fuel (k + 8)) fuel blw15) its [x0, some (.loc 0), some (.p (.tup [.tup l, Tp be, Tp wi])), some (.p (.tup l)), x4, x5, x6, x7, x8, x9, x10, x11, x12, x13, x14, x15, some (.p (Tp s)), some (.p (.tup vs)), x18, x19, x20, x21, x22] [Row ns a b c] = some (.go .nx [x0, some (.loc 0), some (.p (.tup [.tup l, Tp be, Tp wi])), some (.p (.tup l)), x4, x5, x6, x7, o8, x9, x10, o11, x12, x13, x14, x15, some (.p (Tp s')), some (.p (.tup vs')), o18, o19, o20, o21, x22], [Row ns a' b' c'])
  | [], n, vs, s, a, b, c, x8, x11, x18, x19, x20, x21, w, hl, ha => ⟨vs, s, a, b, c, x8, x11, x18, x19, x20, x21, ⟨w.ex, w.ste, w.dm, Nat.le_trans w.len (by simp only [List.length_nil] at hl; omega)⟩, ha, rfl⟩
  | i :: r, n, vs, s, a, b, c, x8, x11, x18, x19, x20, x21, w, hl, ha => by
    simp only [List.length_cons] at hl
    obtain ⟨vs1, s1, a1, b1, c1, p8, p11, p19, p20, p21, w1, ha1, hf⟩ := l15_body (fuel := fuel) (k := k) hn (b := b) (c := c) ha t w (by omega) x0 x4 x5 x6 x7 x8 x9 x10 x11 x12 x13 x14 x15 (some (.p i)) x19 x20 x21 x22
    obtain ⟨vs2, s2, a2, b2, c2, o8, o11, o18, o19, o20, o21, w2, ha2, ih⟩ := l15_for hn t x0 x4 x5 x6 x7 x9 x10 x12 x13 x14 x15 x22 r (n + 1) vs1 s1 a1 b1 c1 p8 p11 (some (.p i)) p19 p20 p21 w1 (by omega) ha1
    exact ⟨vs2, s2, a2, b2, c2, o8, o11, o18, o19, o20, o21, w2, ha2, by rw [forS_nx rfl hf, ih]⟩
end
end Wr.K00

set_option maxHeartbeats 4000000
namespace Wr
open PySem PySem.Spec PyProof.Rows L2
theorem Drawn.w {l : List P} {be wi : List Str} (d : Drawn l be wi) : K00.TaskW l be wi := by
  have f := d.t.f
  have hw := d.low
  have bl := d.bl
  have wl := d.wl
  simp only [wt, wtL] at hw
  refine ⟨K00.dm_of (K00.dm_of d.t.dm (.tup l) (by simp)), by omega, dm_facts f.fb, by rw [wt_tp]; omega, dm_facts f.fw, by rw [wt_tp]; omega, d.len.2⟩
end Wr
namespace Wr.K00
open PySem PySem.Spec PyProof.Rows L2 Wr
local macro_rules
  | `(tactic| array_mem_dec) => `(tactic| simp (config := { failIfUnchanged := false, implicitDefEqProofs := false }) only [evSs, evS, evE, evEs, evAnd, evOr, evT, evAndT, evOrT, evI, evO, evTg, evBF, evBN, evBO, evCO, evCs, q_seqS, q_skip, q_fRet, q_fRetN, q_fIfS, q_bindS, q_bindF, q_ret, q_fVar, q_fC, q_fOne, q_fNot, q_fAnd, q_fOr, q_fIf, q_fTru, q_asB, q_fAndT, q_fOrT, q_fNotT, q_f2, q_fChain, q_fB, q_fBn, q_fCons, q_fNil, q_fTup, q_fLst, q_fSl, q_fRev, q_fPart, q_fLc, q_fLcN, q_fItems, q_fZip, q_rng, q_fEnum, q_fFor, q_fAsg, q_fPar, q_fRaise0, q_fRaise1, q_fSetI, q_dropS, q_fStar, q_glb, q_call,
  kB_ok, kB_exc, kB_ite, kA_bl, kO_bl, m_and, m_or, kN_bl, kO1_some, kV_p, kT_bl, m_andT, m_orT, kC2_bl, kL_p1, kNw_f, kNw_t, kSl_tup, kSl_lst, kC_f, kC_t, kS_ok, kS_exc, kS_ite, kQ_nx, kQ_ret, kQ_exc, kQ_ite, endF_ite, kR_ok, kR_exc, kR_ite, kP, allP, newL, gNm, gTupN, gNms, view_p, itemsOf_lst, itemsOf_tup, itemsOf_lsf, asL_lst, asL_lsf, asL_tup, asT_lst, asT_tup, truP_bl, vals,
  List.getElem?_cons_zero, List.getElem?_cons_succ, List.map_cons, List.map_nil, List.cons_append, List.nil_append, List.length_cons, List.length_nil, List.set_cons_zero, List.set_cons_succ, List.replicate_succ, List.replicate_zero, wipeV, Option.map_some, Option.map_none, if_true, if_false, Bool.false_eq_true, reduceCtorEq, Nat.reduceAdd, Nat.reduceSub, Nat.reduceLT, Nat.reduceLeDiff, Bool.not_true, Bool.not_false, Bool.and_true, Bool.true_and, Bool.and_false, Bool.false_and, Bool.or_true, Bool.true_or, Bool.or_false, Bool.false_or,
  kV_0, ix40, ix41, ix42, ix43, st41, st42, st43, add_int, sub_int, mul_int, mod_g, div_7, pow_18, int_int, cmpI, len_lst, len_tup, list_tup, list_lst, tup_lst, ix30, ix31, ix32, ix60, ix61, ix62, ix63, ix64, ix65])
local macro_rules
  | `(tactic| sizeOf_list_dec) => `(tactic| simp (config := { failIfUnchanged := false, implicitDefEqProofs := false }) only [evSs, q_seqS, q_skip, kQ_nx, kQ_ret, kQ_exc])
section
variable {fuel k : Nat} {S : List Ob}
theorem lw17_ (hS : Sl S) {l : List P} {be wi : List Str} (d : Drawn l be wi) (x0 x1 x3 x5 x6 x7 x8 x9 x10 x11 x12 x13 x14 x15 x16 x17 x18 x19 x20 x21 x22 : Option Wv) : ∃ ρ, evS G (Gam G ds fuel (k + 8)) fuel lw17 [x0, x1, some (.p (.tup [.tup l, Tp be, Tp wi])), x3, some (.p (Tp be)), x5, x6, x7, x8, x9, x10, x11, x12, x13, x14, x15, x16, x17, x18, x19, x20, x21, x22] S = some (.go (.ret (.p (.bl true))) ρ, S) := by
  have t := d.t
  have hbad : neF (badP "state") (badP "state") = some (.bl false) := neF_self (bad_dm (by decide +kernel)) (bad_dep _)
  have db := dm_facts t.f.fb
  have vals : ∀ v ∈ [P.non, .lst (be.map .str), .tup [.str "zz"], .tup [.str "b", .str "a"], .str "a"], dm v = true ∧ stateB l (Tp be) (Tp wi) v = false := by
    intro v hv
    simp only [List.mem_cons, List.not_mem_nil, or_false] at hv
    rcases hv with rfl | rfl | rfl | rfl | rfl
    · exact ⟨rfl, rfl⟩
    · exact ⟨db, rfl⟩
    · refine ⟨by decide +kernel, ?_⟩
      unfold stateB
      rw [Bool.and_eq_false_iff]
      refine .inr ?_
      rw [List.all_eq_false]
      refine ⟨("zz" : Str), ?_, fun h => ?_⟩
      · show ("zz" : Str) ∈ [("zz" : Str)]
        exact List.mem_cons_self
      · have := d.sub _ (of_decide_eq_true h)
        revert this
        decide +kernel
    · refine ⟨by decide +kernel, ?_⟩
      have : factsB (.tup [.str "b", .str "a"]) = false := by decide +kernel
      unfold stateB
      rw [this, Bool.false_and]
    · exact ⟨by decide +kernel, rfl⟩
  refine ⟨[x0, x1, some (.p (.tup [.tup l, Tp be, Tp wi])), x3, some (.p (Tp be)), x5, x6, x7, x8, x9, x10, x11, x12, x13, x14, x15, x16, x17, x18, x19, x20, x21, x22], ?_⟩
  simp only [lw17]
  array_mem_dec
  rw [compP_pure (t := fun _ => false) (e := fun _ => .non) [P.non, .lst (be.map .str), .tup [.str "zz"], .tup [.str "b", .str "a"], .str "a"] [] (fun x hx => ⟨_, rfl, by
    have := vals x hx
    array_mem_dec
    simp only [G_told0, q_fTold]
    array_mem_dec
    rw [open_badS hS t this.1 this.2]
    array_mem_dec
    rw [kTd_exc, hf_state]
    array_mem_dec
    rw [hbad]
    array_mem_dec, fun z => nomatch z⟩)]
  have ef : ([P.non, .lst (be.map .str), .tup [.str "zz"], .tup [.str "b", .str "a"], .str "a"] : List P).filter (fun _ => false) = [] := List.filter_eq_nil_iff.mpr fun _ _ => by simp
  rw [ef]
  array_mem_dec
  rw [eqF_nil (l := []) rfl]
  array_mem_dec
  rfl
theorem math (ns : List Int) (hn : ns.length ≤ 63) : ∃ S', defF d_law.N.length (evSs G (Gam G ds fuel (k + 8)) fuel d_law.ss) [.p (.lsf (ns.map P.int))] [] = some (.ok (.bl true), S') := by
  have hS : ∀ x y z, Sl [Row ns x y z] := fun x y z => Sl.nil.cons
  obtain ⟨l, be, wi, a1, b1, c1, d, ha1, h2⟩ := task_ (fuel := fuel) (k := k + 4) hn (b := 20000) (c := 0) (a := 0) (by decide)
  have t := d.t
  have W := d.w
  have dl := d.len
  obtain ⟨r, a2, b2, c2, r0, r1, ha2, h4⟩ := taken_ (fuel := fuel) (k := k + 7) Sl.nil hn (b := b1) (c := c1) ha1 (m := ((l.length : Nat) : Int)) (by omega) (by omega)
  obtain ⟨x, hx, ex⟩ := at_nat r0 r1
  have h5 : ixP (.tup l) (.int r) = some x := ex
  obtain ⟨n, a, b, c, e, q, D⟩ := deed_tp (t.deed hx).1
  have dx := W.dl x hx
  have wx := wtL_mem hx
  have wl := W.wl
  have dparts : dm (.str n) = true ∧ dm (Tp a) = true ∧ dm (Tp b) = true ∧ dm (Tp c) = true ∧ dm (Tp e) = true ∧ dm (.int q) = true := by
    have := dm_of (l := [.str n, Tp a, Tp b, Tp c, Tp e, .int q]) (by rw [← D.eq]; exact dx)
    simp only [List.mem_cons, List.not_mem_nil, or_false, forall_eq_or_imp, forall_eq] at this
    exact this
  obtain ⟨d1, d2, d3, d4, d5, d6⟩ := dparts
  have wlow : wt (.str n) + wt (Tp a) + wt (Tp b) + wt (Tp c) + wt (Tp e) + wt (.int q) ≤ 195 := by
    have h := d.low
    have hb := wt_pos (Tp be)
    have hw := wt_pos (Tp wi)
    have e1 : wt (.tup [.tup l, Tp be, Tp wi]) = wtL l + 1 + (wt (Tp be) + (wt (Tp wi) + 0)) + 1 := rfl
    have e2 : wt x = wt (.str n) + (wt (Tp a) + (wt (Tp b) + (wt (Tp c) + (wt (Tp e) + (wt (.int q) + 0))))) + 1 := by rw [D.eq]; rfl
    omega
  have h6 := lw6_ (fuel := fuel) (k := k) (S := [Row ns a2 b2 c2]) (.str n) (Tp a) (Tp b) (Tp c) (Tp e) (.int q) (some (.p (.lsf (ns.map .int)))) (some (.loc 0)) (some (.p (.tup [.tup l, Tp be, Tp wi]))) (some (.p (.tup l))) (some (.p (Tp be))) (some (.p (Tp wi))) (some (.p (.int r))) none none none none none none none none none none none none none none
  obtain ⟨y, a3, b3, c3, hy, ha3, h7⟩ := lw7_ (fuel := fuel) (k := k) Sl.nil hn (v := b2) (w := c2) ha2 (.str n) (Tp a) (Tp b) (Tp c) (Tp e) (.int q) (some (.p (.lsf (ns.map .int)))) (some (.p (.tup [.tup l, Tp be, Tp wi]))) (some (.p (.tup l))) (some (.p (Tp be))) (some (.p (Tp wi))) (some (.p (.int r))) none none none none none none none none none none none none none none
  have hyd := L89_ok d1 d2 d3 d4 d5 d6 wlow y hy
  have hxd : dm x = true ∧ wt x ≤ 200 := by
    refine ⟨dx, ?_⟩
    have e2 : wt x = wt (.str n) + (wt (Tp a) + (wt (Tp b) + (wt (Tp c) + (wt (Tp e) + (wt (.int q) + 0))))) + 1 := by rw [D.eq]; rfl
    omega
  obtain ⟨B8, B8w, B8l, h8⟩ := lw8_ (fuel := fuel) (k := k) (S := [Row ns a3 b3 c3]) W r0 hyd.1 hyd.2 (some (.p (.lsf (ns.map .int)))) (some (.loc 0)) (some (.p x)) (some (.p (.lst (L8 (.str n) (Tp a) (Tp b) (Tp c) (Tp e) (.int q))))) none none none none none none none none none none none none none
  obtain ⟨B9, B9w, B9l, h9⟩ := lw9_ (fuel := fuel) (k := k) (S := [Row ns a3 b3 c3]) W B8w (by omega) hxd.1 hxd.2 (some (.p (.lsf (ns.map .int)))) (some (.loc 0)) (some (.p (.tup [.tup l, Tp be, Tp wi]))) (some (.p (.int r))) (some (.p (.lst (L8 (.str n) (Tp a) (Tp b) (Tp c) (Tp e) (.int q))))) (some (.p y)) none none none none none none none none none none none none
  obtain ⟨B10, B10w, B10l, h10⟩ := lw10_ (fuel := fuel) (k := k) (S := [Row ns a3 b3 c3]) W B9w (by omega) (some (.p (.lsf (ns.map .int)))) (some (.loc 0)) (some (.p (.tup [.tup l, Tp be, Tp wi]))) (some (.p (.int r))) (some (.p x)) (some (.p (.lst (L8 (.str n) (Tp a) (Tp b) (Tp c) (Tp e) (.int q))))) (some (.p y)) none none none none none none none none none none none none
  have h11 := lw11_ (fuel := fuel) (k := k) (S := [Row ns a3 b3 c3]) (some (.p (.lsf (ns.map .int)))) (some (.loc 0)) (some (.p (.tup [.tup l, Tp be, Tp wi]))) (some (.p (.tup l))) (some (.p (Tp be))) (some (.p (Tp wi))) (some (.p (.int r))) (some (.p x)) (some (.p (.lst (L8 (.str n) (Tp a) (Tp b) (Tp c) (Tp e) (.int q))))) (some (.p y)) (some (.p (.lst B10))) none none none none none none none none none none none none
  obtain ⟨o11, o14, h12⟩ := lw12_ (fuel := fuel) (k := k) (hS a3 b3 c3) W B10w (by omega) (some (.p (.lsf (ns.map .int)))) (some (.loc 0)) (some (.p (.tup [.tup l, Tp be, Tp wi]))) (some (.p (.tup l))) (some (.p (.int r))) (some (.p x)) (some (.p (.lst (L8 (.str n) (Tp a) (Tp b) (Tp c) (Tp e) (.int q))))) (some (.p y)) none none none none none none none none none none none
  have h13 := lw13_ (fuel := fuel) (k := k) (hS a3 b3 c3) t (some (.p (.lsf (ns.map .int)))) (some (.loc 0)) (some (.p (.tup l))) (some (.p (Tp be))) (some (.p (Tp wi))) (some (.p (.int r))) (some (.p x)) (some (.p (.lst (L8 (.str n) (Tp a) (Tp b) (Tp c) (Tp e) (.int q))))) (some (.p y)) (some (.p (.lst B10))) o11 (some (.p (.tup manyL))) none o14 none none none none none none none none
  obtain ⟨vs, s, a4, b4, c4, o8, p11, o18, o19, o20, o21, way, ha4, h15⟩ := l15_for (fuel := fuel) (k := k) hn t (some (.p (.lsf (ns.map .int)))) (some (.p (Tp be))) (some (.p (Tp wi))) (some (.p (.int r))) (some (.p x)) (some (.p y)) (some (.p (.lst B10))) (some (.p (.tup manyL))) none o14 none none (rngP 0 6) 0 [] be a3 b3 c3 (some (.p (.lst (L8 (.str n) (Tp a) (Tp b) (Tp c) (Tp e) (.int q))))) o11 none none none none ⟨⟨[], rfl, rfl⟩, ste_begin t, (fun v hv => by cases hv), Nat.le_refl _⟩ (by decide) ha3
  obtain ⟨ss, r1', r2'⟩ := way.ex
  obtain ⟨a5, b5, c5, ha5, h16⟩ := rows_ (fuel := fuel) (k := k) hn (b := b4) (c := c4) ha4 t ⟨way.dm, way.len, r1'⟩
  obtain ⟨ρ, h17⟩ := lw17_ (fuel := fuel) (k := k) (hS a5 b5 c5) d (some (.p (.lsf (ns.map .int)))) (some (.loc 0)) (some (.p (.tup l))) (some (.p (Tp wi))) (some (.p (.int r))) (some (.p x)) o8 (some (.p y)) (some (.p (.lst B10))) p11 (some (.p (.tup manyL))) none o14 none (some (.p (Tp s))) (some (.p (.tup vs))) o18 o19 o20 o21 none
  refine ⟨[], ?_⟩
  have hx' : some (Wv.p x) = some (.p (.tup [.str n, Tp a, Tp b, Tp c, Tp e, .int q])) := by rw [D.eq]
  unfold defF
  have e0 : ∀ X, endF ([] : List Ob).length X = endF 0 X := fun _ => rfl
  rw [e0]
  simp (config := { implicitDefEqProofs := false }) only [d_law, N_law, lw_eq, evSs, q_seqS]
  sizeOf_list_dec
  simp only [lw1]
  array_mem_dec
  simp only [lw2]
  array_mem_dec
  rw [h2]
  array_mem_dec
  simp only [lw3]
  array_mem_dec
  simp only [lw4]
  array_mem_dec
  rw [h4]
  array_mem_dec
  simp only [lw5]
  array_mem_dec
  rw [h5]
  array_mem_dec
  rw [hx', h6]
  sizeOf_list_dec
  rw [h7]
  sizeOf_list_dec
  rw [← hx', h8]
  sizeOf_list_dec
  rw [h9]
  sizeOf_list_dec
  rw [h10]
  sizeOf_list_dec
  rw [h11]
  sizeOf_list_dec
  rw [h12]
  sizeOf_list_dec
  rw [h13]
  sizeOf_list_dec
  simp only [lw14]
  array_mem_dec
  simp only [lw15]
  array_mem_dec
  rw [kRng_ok (by decide) (by decide)]
  array_mem_dec
  have e6 : (6 : Int).toNat = 6 := rfl
  rw [e6, h15]
  array_mem_dec
  simp only [lw16]
  array_mem_dec
  rw [h16]
  array_mem_dec
  rw [h17]
  sizeOf_list_dec
  exact endF_retT (S := []) (T := [Row ns a5 b5 c5]) Sl.nil _ _
end
end Wr.K00

set_option maxHeartbeats 0
theorem PySem.Challenge.cw_wishroads_k00_whole_tasks_holds : PySem.Challenge.rw_wishroads_k00_whole_tasks.Holds := by
  exact Wr.K00.fin 0 8 (by decide) fun ns hn _ => Wr.K00.math (fuel := 0) (k := 0) ns hn
